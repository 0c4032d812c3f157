/- Parts: Bf2, Bf3, Bf4, Bf5, Bf6, ObG, EqU, ObH, ObI, ObJ, RvN, RvP, KTwo, RvQ, KThree. -/
import Derived.Test.YtcikoaeiopbbbaaGreatZf
import Derived.Deep.AppendLies
import Derived.Deep.DeepCutAuto
import Derived.Deep.RegionHeld3
import Derived.Deep.RegionLaw
namespace Go.Proofs.YtcikoaeiopbbbaaGreat
set_option linter.unusedVariables false
set_option linter.unusedSimpArgs false
set_option linter.unusedSectionVars false
section
/- The reference of layer 5: part. -/
open Go.RowKit
set_option maxRecDepth 100000
theorem row_info5:(Tryz.prog.info? 139).map (fun i=>(i.zero,i.size,i.bytes))=some (some (.agg #[.int .i64 0,.slice none 0 0]),2,32):=by kernel_rfl
theorem PC.rows {w w1:World} {t:TypeId} (h:PC w w1 t) {base:Nat} {v:Value} {N:Nat} {L:List Nat} (q:RowsN w base v N L) (hne:22≠t) (hne2:139≠t):RowsN w1 base v N L:=by
 obtain⟨rs,h1,h2,h3⟩:=q
 exact⟨rs,h1,h.own h2 hne2,fun j hj=>⟨(h3 j hj).1,h.own (h3 j hj).2 hne⟩⟩
theorem own_empty2 (W:World) (base e:Nat) (hb:base≤W.heap.size):(W.alloc (.cells #[] e)).ownsRow base e 2 (.slice (some ⟨W.heap.size,0,none⟩) 0 0) 0 []:=
 ⟨by simp,.inr ⟨W.heap.size,0,#[],rfl,hb,heap_alloc_new W _,Nat.le_refl _,Nat.zero_le _,by simp,by simp⟩⟩
theorem part_bits {N n:Nat} {p:PV} (h:GoodP N n p) (a k:Nat) (hk:k<8):(prat N a (zOf N p)).testBit (N+k)=(p.2.data.toList.getD a 0).toNat.testBit k:=by
 have hd:decide (N+k<N+8)=true:=by simp;omega
 rw [prat_bit,if_neg (by omega),hd,Bool.true_and,z_bit h,if_neg (by omega),show N+k+8*a-N=8*a+k by omega,bn_byte _ _ _ hk]
theorem part_row {N n:Nat} {p:PV} (h:GoodP N n p) (a:Nat):bitsI p.1 N=bitsI (prat N a (zOf N p)) N:=bitsI_eq fun j hj=>by rw [prat_bit,if_pos hj,z_bit h,if_pos hj]
def Yat (N a:Nat) (Z:List Nat):List Nat:=Z.map (prat N a)
set_option maxHeartbeats 8000000 in
theorem part_any {N n:Nat} {X:List Nat} {ss:List ByteArray} {A S:Option Addr} {m c d:Nat} (w:World) (h:BkIn w N n X ss A S m c d) (a:Nat) (ha:a<n) :
  Calls Tryz.prog 100 #[.agg #[.int .i64 (N:Int),.slice A m c],.slice S m d,.int .i64 (a:Int)] w (RefEch (N+8) (Yat N a (zs N X ss)) w):=by
 obtain⟨i0,ki,kz0,kz1,kz2⟩:=info_parts int_info5
 obtain⟨j0,ji,jz0,jz1,jz2⟩:=info_parts row_info5
 have b1:Below w.heap.size w (w.alloc (.cells #[.int .i64 (N:Int),.slice A m c] 102)):=(Below.refl _ _).alloc (Nat.le_refl _) _
 have b2:Below w.heap.size w ((w.alloc (.cells #[.int .i64 (N:Int),.slice A m c] 102)).alloc (.cells #[] 139)):=b1.alloc (by simp) _
 have Q0:=hZ ((Box.new w 102 #[.int .i64 (N:Int),.slice A m c]).alloc (.cells #[] 139))
 have HB:=hZ b2
 have HIn:=hZ h
 have ho:=own_empty2 (w.alloc (.cells #[.int .i64 (N:Int),.slice A m c] 102)) (w.heap.size+1) 139 (by simp)
 rw [World.size_alloc] at ho
 have HO0:=hZ ho
 have hN:=h.hN
 have hn:=h.hn
 have hm64:=h.hm64
 have hmc:m≤c:=h.hsl.1
 have HPl:=hZ (pairs_len X ss m h.hXm h.ht.1)
 have HGd:=hZ (pairs_good h.hX h.hss)
 obtain⟨L0,hL0⟩:∃ L0,L0=pairs X ss:=⟨_,rfl⟩
 have zh:zs N X ss=L0.map (zOf N):=by rw [hL0];rfl
 have HGd2:=hZ (show ∀ p∈L0,GoodP N n p by rw [hL0];exact HGd.out)
 rw [← hL0] at HPl
 have HZ:=hZ zh
 have HL0:=hZ hL0
 obtain⟨Z,hZe⟩:∃ Z,Z=zs N X ss:=⟨_,rfl⟩
 rw [← hZe] at HZ ⊢
 have HZl:=hZ (show Z.length=m by rw [HZ.out,List.length_map,HPl.out])
 obtain⟨q0,q1,-,-⟩:=Q0.out.two
 clear b1 b2 h ho hL0 zh HGd hZe
 go_enter Tryz.func100,Tryz.ntmps100
 go_wp2_with fail
 clear q0 q1
 go_loopw [16,7] (fun t v wr=>∃ i:Nat,i≤m∧t=.int .i64 (i:Int)∧Hid (RowsN wr (w.heap.size+1) v (N+8) (Yat N a (Z.take i)))∧Hid (Box wr w.heap.size 102 #[.int .i64 (N:Int),.slice A m c])∧Hid (Below w.heap.size w wr)) (fun t _ _=>m-(intOf t).toNat)
 case atStart=>exact⟨0,Nat.zero_le _,rfl,hZ ⟨[],rfl,HO0.out,fun j hj=>absurd hj (by simp [Yat,mkM])⟩,Q0,HB⟩
 case round=>
  obtain⟨i,hi,rfl,HR,HQ,HBr⟩:=hrel
  have HYl:=hZ (show (Yat N a (Z.take i)).length=i by rw [Yat,List.length_map,List.length_take,HZl.out];omega)
  by_cases hlt:i<m
  ·have hlt':(i:Int)<(m:Int):=by omega
   obtain⟨b,off,B,l,k,hA,hbw,x0,x1,hs,hw⟩:=HIn.out.hm.at i hlt
   have hx:(mkM N X).getD i (0,[])=mkR N (X.getD i 0):=mkM_at N X i (by rw [HIn.out.hXm];exact hlt)
   rw [hx] at x0 hw
   obtain⟨b2,off2,hS,hb2,hc2⟩:=HIn.out.ht.2.2 (by omega)
   subst hA hS
   clear hx
   have y0:=hc2 i hlt
   obtain⟨x,hxe⟩:∃ x,x=X.getD i 0:=⟨_,rfl⟩
   obtain⟨s,hse⟩:∃ s,s=ss.getD i ByteArray.empty:=⟨_,rfl⟩
   rw [← hxe] at x0 hw
   rw [← hse] at y0
   have HP:=hZ (show L0.getD i pv0=(x,s) by rw [HL0.out,pairs_at X ss m i HIn.out.hXm HIn.out.ht.1 hlt,hxe,hse])
   have HG:=hZ (show GoodP N n (x,s) by rw [← HP.out];exact HGd2.out _ (getD_memP (by rw [HPl.out];exact hlt)))
   obtain⟨y,hy⟩:∃ y,y=prat N a (zOf N (x,s)):=⟨_,rfl⟩
   have HYs:=hZ (show Yat N a (Z.take (i+1))=Yat N a (Z.take i)++[y] by
    have e:Z[i]'(by rw [HZl.out];exact hlt)=zOf N (x,s):=by
     have:=mapz_at N L0 i (by rw [HPl.out];exact hlt)
     rw [← HZ.out,HP.out] at this
     simpa [List.getD,HZl.out,hlt] using this
    rw [List.take_succ_eq_append_getElem (by rw [HZl.out];exact hlt),e,hy];simp [Yat])
   have HBs:=hZ (show bitsI x N=bitsI y N by rw [hy];exact part_row HG.out a)
   have HBb:=hZ (fun (k:Nat) (hk:k<8)=>show (if y.testBit (N+k) then (1:Int) else 0)=bitB s (8*a+k) by
    rw [hy,part_bits HG.out a k hk,bitB,show (8*a+k) / 8=a by omega,show (8*a+k)%8=k by omega])
   have HYlt:=hZ (show y<2 ^ (N+8) by rw [hy];exact prat_lt N a _)
   have hsz:s.size=n:=HG.out.2
   have HSz:=hZ hsz
   have x0:w.cell? ⟨b,off+i*2,none⟩=some (.int .i64 (N:Int)):=x0
   have hw:Words w B l (rowOf N x):=hw
   have HWd:=hZ hw
   have HY0:=hZ y0
   have x0:=(HBr.out.cell (p:=⟨b,off+i*2,none⟩) hbw).trans x0
   have x1:=(HBr.out.cell (p:=⟨b,off+i*2+1,none⟩) hbw).trans x1
   have y1:=(HBr.out.cell (p:=⟨b2,off2+i,none⟩) hb2).trans y0
   have hws:=HBr.out.size
   have hqs:w.heap.size<wr.heap.size:=HQ.out.lt
   have hbr:b<wr.heap.size:=by omega
   have hb2r:b2<wr.heap.size:=by omega
   clear hs hw hc2 hxe hse y0 hy hsz
   have al:Below wr.heap.size wr (wr.alloc (.cells #[.int .i64 (N:Int),.slice B l k] 139)):=(Below.refl _ _).alloc (Nat.le_refl _) _
   have E:=hZ (Box.new wr 139 #[.int .i64 (N:Int),.slice B l k])
   have AL1:=hZ al
   have HBi:=hZ (bits_own N x (by omega) B l k _ (HWd.out.below (chain HBr.out al)))
   rw [HBs.out] at HBi
   obtain⟨e0,e1,-,-⟩:=E.out.two
   clear al
   go_wp2_with fail
   refine HBi.out.mono ?_
   rintro e w3 ⟨vb,rfl,hob,hb⟩
   rw [bitsI_len] at hob
   have HC:=hZ (chain AL1.out hb)
   have R3:=hZ (HR.out.below HC.out)
   have Q3:=hZ (HQ.out.keep HC.out)
   have B3:=hZ (chain HBr.out HC.out)
   have O3:=hZ hob
   have hz3:w.heap.size+1≤(wr.alloc (.cells #[.int .i64 (N:Int),.slice B l k] 139)).heap.size:=by simp;omega
   have HZ3:=hZ hz3
   obtain⟨B0,hB0⟩:∃ B0,B0=(wr.alloc (.cells #[.int .i64 (N:Int),.slice B l k] 139)).heap.size:=⟨_,rfl⟩
   rw [← hB0] at O3 HZ3
   have HB03:=hZ (show B0≤w3.heap.size by rw [hB0];exact hb.size)
   clear hb hob HBi AL1 E e0 e1 x0 x1 y1 hB0 hz3 HC HR HQ HBr HBs
   obtain⟨wA,rfl⟩:∃ wA:World,wA=wr:=⟨_,rfl⟩
   go_wp2_with fail
   go_loopw [11,10] (fun u vv wr=>∃ j:Nat,j≤8∧u=.int .i64 (j:Int)∧Hid (wr.ownsRow B0 3 1 vv (N+j) ((bitsI y (N+j)).map (Value.int .i64)))∧Hid (RowsN wr (w.heap.size+1) u7 (N+8) (Yat N a (Z.take i)))∧Hid (Box wr w.heap.size 102 #[.int .i64 (N:Int),.slice (some ⟨b,off,none⟩) m c])∧Hid (Below w.heap.size w wr)∧Hid (B0≤wr.heap.size)) (fun u _ _=>8-(intOf u).toNat)
   case atStart=>exact⟨0,by omega,rfl,O3,R3,Q3,B3,HB03⟩
   case round=>
    obtain⟨j,hj,rfl,IO,IR,IQ,IB,IS⟩:=hrel
    clear O3 R3 Q3 B3 HB03
    by_cases hjl:j<8
    ·have hjl':(j:Int)<8:=by omega
     have y0:=(IB.out.cell (p:=⟨b2,off2+i,none⟩) hb2).trans HY0.out
     have HBt:=bit5_any s (8*a+j) (by have:=HSz.out;omega) (by have:=HSz.out;omega) wr
     rw [← HBb.out j hjl] at HBt
     have HSc:=hZ (bitsI_succ y (N+j))
     obtain⟨bv,hbv⟩:∃ bv:Int,bv=if y.testBit (N+j) then 1 else 0:=⟨_,rfl⟩
     rw [← hbv] at HBt HSc
     rw [show ((8*a+j:Nat):Int)=8*(a:Int)+(j:Int) by omega] at HBt
     have HBt2:=hZ HBt
     have XO:=hZ (IO.out.alloc (.cells #[.int .i64 bv] 3))
     have al:Below wr.heap.size wr (wr.alloc (.cells #[.int .i64 bv] 3)):=(Below.refl _ _).alloc (Nat.le_refl _) _
     have ALx:=hZ al
     have hks:=IS.out
     have XS:=hZ (show B0≤(wr.alloc (.cells #[.int .i64 bv] 3)).heap.size by simp;omega)
     clear HBt hbv al hks
     go_wp2_with fail
     refine HBt2.out.mono ?_
     rintro e w5 ⟨rfl,rfl⟩
     go_wp2_with (at_builtin;refine wpList_append_own _ rfl _ _ 106 rfl B0 3 i0 (.int .i64 0) 1 8 Tryz.underlying106 ki kz0 kz1 kz2 rfl (by decide) _ _ _ rfl XO.out ⟨wr.heap.size,0,none⟩ 1 1 [.int .i64 bv] rfl rfl (cell_one_new _ _ _) (by simp [Value.oneCell']) (by simp [maxLen];omega) (by omega) XS.out ?_;intro v' w6 hown' hgrow _;have HG2:=hZ hgrow;have HO2:=hZ hown';clear hown' hgrow)
     have hpc:PC _ w6 3:=⟨_,HG2.out,fun g e=>(own_blk XO.out g e).2⟩
     have RR:=hZ (hpc.rows (IR.out.below ALx.out) (by decide) (by decide))
     have RQ:=hZ (hpc.box (IQ.out.keep ALx.out) (by decide))
     have RB:=hZ (gr_low (chain IB.out ALx.out) (chain IB.out ALx.out).size HG2.out (fun g e=>by have:=(own_blk XO.out g e).1;have:=HZ3.out;omega))
     have RS:=hZ (Nat.le_trans XS.out HG2.out.size)
     have RO:=hZ (show w6.ownsRow B0 3 1 v' (N+(j+1)) ((bitsI y (N+(j+1))).map (Value.int .i64)) by
      rw [show N+(j+1)=N+j+1 by omega,HSc.out,List.map_append];exact HO2.out)
     clear hpc HG2 HO2 XO ALx XS IO IR IQ IB IS
     go_roundw
     case rel=>exact⟨j+1,by omega,by go_num,RO,RR,RQ,RB,RS⟩
     case measure=>simp [intOf];omega
    ·obtain rfl:j=8:=by omega
     obtain⟨A5,c5,hv5,-⟩:=own_form IO.out
     subst hv5
     have hin:=own_ints IO.out (bitsI_lt y (N+8))
     have HFr:=from_own A5 (N+8) c5 (bitsI y (N+8)) wr hin (by omega)
     rw [from_num y (N+8) HYlt.out] at HFr
     have HFr2:=hZ HFr
     clear hin HFr
     go_wp2_with fail
     refine HFr2.out.mono ?_
     rintro e w5 ⟨A6,l6,c6,rfl,ow,hb⟩
     have R5:=hZ (IR.out.below hb)
     have Q5:=hZ (IQ.out.keep hb)
     have B5:=hZ (chain IB.out hb)
     have OW5:=hZ ow
     obtain⟨rs,hr1,hr2,hr3⟩:=R5.out
     rw [mkM_len,HYl.out] at hr1 hr2 hr3
     have HR3:=hZ hr3
     have HR1:=hZ hr1
     have al:Below w5.heap.size w5 (w5.alloc (.cells #[.int .i64 ((N+8:Nat):Int),.slice A6 l6 c6] 139)):=(Below.refl _ _).alloc (Nat.le_refl _) _
     have XO:=hZ (own_keep hr2 al)
     have ALx:=hZ al
     have XN:=hZ (show ∀ j u,([.int .i64 ((N+8:Nat):Int),.slice A6 l6 c6]:List Value)[j]?=some u→(w5.alloc (.cells #[.int .i64 ((N+8:Nat):Int),.slice A6 l6 c6] 139)).cell? ((⟨w5.heap.size,0,none⟩:Addr).add j)=some u from World.news_of_block (Box.new w5 139 #[.int .i64 ((N+8:Nat):Int),.slice A6 l6 c6]))
     have XS:=hZ (show w.heap.size+1≤(w5.alloc (.cells #[.int .i64 ((N+8:Nat):Int),.slice A6 l6 c6] 139)).heap.size by have:=Q5.out.lt;simp;omega)
     clear hr1 hr2 hr3 al hb ow IO IR IQ IB IS HFr2
     go_wp2_with (at_builtin;refine wpList_append_own _ rfl _ _ 99 rfl (w.heap.size+1) 139 j0 (.agg #[.int .i64 0,.slice none 0 0]) 2 32 Tryz.underlying99 ji jz0 jz1 jz2 rfl (by decide) _ _ _ rfl XO.out ⟨w5.heap.size,0,none⟩ 1 1 [.int .i64 ((N+8:Nat):Int),.slice A6 l6 c6] rfl rfl XN.out (by simp [Value.oneCell']) (by simp [maxLen];omega) (by omega) XS.out ?_;intro v' w6 hown' hgrow _;have HG2:=hZ hgrow;have HO2:=hZ hown';clear hown' hgrow)
     have RR:=hZ (show RowsN w6 (w.heap.size+1) v' (N+8) (Yat N a (Z.take (i+1))) by
      have hh:=RowsW.snoc (N:=((N+8:Nat):Int)) (A:=A6) (l:=l6) (c:=c6) (z:=rowOf (N+8) y) (ms:=mkM (N+8) (Yat N a (Z.take i))) (by rw [mkM_len,HYl.out]) HR1.out HO2.out (fun j hj=>⟨(HR3.out j hj).1,OwnW.grown ((HR3.out j hj).2.below ALx.out) XO.out (by decide) HG2.out⟩) (OwnW.grown (OW5.out.below ALx.out) XO.out (by decide) HG2.out)
      rw [HYs.out]
      unfold RowsN
      rw [show mkM (N+8) (Yat N a (Z.take i)++[y])=mkM (N+8) (Yat N a (Z.take i))++[(((N+8:Nat):Int),rowOf (N+8) y)] by simp [mkM,mkR]]
      exact hh)
     have RQ:=hZ (Box.grown (Q5.out.keep ALx.out) HG2.out (own_ne XO.out (Q5.out.keep ALx.out) (by decide)))
     have RB:=hZ (gr_low (chain B5.out ALx.out) (chain B5.out ALx.out).size HG2.out (fun g e=>by have:=(own_blk XO.out g e).1;omega))
     clear HG2 HO2 XO ALx XS XN HR1 HR3 OW5 R5 Q5 B5
     go_roundw
     case rel=>exact⟨i+1,by omega,by go_num,RR,RQ,RB⟩
     case measure=>simp [intOf];omega
  ·obtain rfl:i=m:=by omega
   have hlt':¬ (i:Int)<(i:Int):=by omega
   have hR:=HR.out
   rw [List.take_of_length_le (by rw [HZl.out];exact Nat.le_refl _)] at hR HYl
   obtain⟨A8,c8,hv8,-,hmat⟩:=RowsW.mat hR (mkM_lt (N+8) _)
   rw [mkM_len] at hv8 hmat
   rw [HYl.out] at hv8
   subst hv8
   have HE:=refEch_any (N+8) (by omega) (Yat N a Z) (fun r hr=>by obtain⟨z,-,rfl⟩:=List.mem_map.1 hr;exact prat_lt N a z) (by rw [HYl.out];omega) A8 c8 (w.heap.size+1) wr hmat
   rw [HYl.out,show ((N+8:Nat):Int)=(N:Int)+8 by omega] at HE
   have HE2:=hZ HE
   obtain⟨q0,q1,-,-⟩:=HQ.out.two
   clear hR hmat HE HR
   go_wp2_with fail
   refine HE2.out.mono ?_
   rintro e w5 ⟨M,P,A9,c9,rfl,h1,h2,h3,hb⟩
   have H1:=hZ h1
   have H2:=hZ h2
   have H3:=hZ h3
   have HB5:=hZ (chain HBr.out hb)
   clear h1 h2 h3 hb q0 q1
   go_wp2_with fail
   go_ret
   exact⟨M,P,A9,c9,rfl,H1.out,H2.out,H3.out,HB5.out⟩
end
section
/- The reference of layer 5: Why, Fits. -/
open Go.RowKit
set_option maxRecDepth 100000
def PartP (N a:Nat) (Z M P:List Nat):Prop:=Rref M P∧SameSp (Yat N a Z) M
theorem part_ex (N a:Nat) (Z:List Nat):∃ P M,PartP N a Z M P:=by
 obtain⟨M,P,h1,h2,-⟩:=rref_exists (Yat N a Z)
 exact⟨P,M,h1,h2⟩
theorem fits_all {N n:Nat} {Z:List Nat} (hZ:∀ z∈Z,z<2 ^ (N+8*n)) (h:∀ a,a<n→∃ M P,PartP N a Z M P∧∀ p∈P,p<N):FitsP N Z:=by
 refine (fits_iff hZ (fun a=>(part_ex N a Z).choose) (fun a _=>(part_ex N a Z).choose_spec)).2 fun a ha p hp=>?_
 obtain⟨M,P,h1,h2⟩:=h a ha
 obtain⟨M',g⟩:=(part_ex N a Z).choose_spec
 have:=(rref_uniq h1.1 g.1 (h1.2.symm.trans g.2)).2
 rw [← this] at hp
 exact h2 p hp
theorem fits_none {N n:Nat} {Z:List Nat} (hZ:∀ z∈Z,z<2 ^ (N+8*n)) {a:Nat} (ha:a<n) {M P:List Nat} (h:PartP N a Z M P) {p:Nat} (hp:p∈P) (hN:N≤p):¬ FitsP N Z:=fun hf=>by
 have hh:=(fits_iff hZ (fun a=>(part_ex N a Z).choose) (fun a _=>(part_ex N a Z).choose_spec)).1 hf a ha
 obtain⟨M',g⟩:=(part_ex N a Z).choose_spec
 have:=(rref_uniq h.1 g.1 (h.2.symm.trans g.2)).2
 have:=hh p (by rw [← this];exact hp)
 omega
theorem fits_places {N n:Nat} {Z:List Nat} (hZ:∀ z∈Z,z<2 ^ (N+8*n)) (hf:FitsP N Z) {a:Nat} (ha:a<n) {M P:List Nat} (h:PartP N a Z M P):∀ p∈P,p<N:=fun p hp=>by
 rcases Nat.lt_or_ge p N with hl | hl
 ·exact hl
 ·exact absurd hf (fits_none hZ ha h hp hl)
theorem yat_lt (N a:Nat) (Z:List Nat):∀ r∈Yat N a Z,r<2 ^ (N+8):=fun r hr=>by
 obtain⟨z,-,rfl⟩:=List.mem_map.1 hr
 exact prat_lt N a z
theorem partP_lt {N a:Nat} {Z M P:List Nat} (h:PartP N a Z M P):∀ r∈M,r<2 ^ (N+8):=same_lt (yat_lt N a Z) h.2
theorem BkIn.zlt {w:World} {N n:Nat} {X:List Nat} {ss:List ByteArray} {A S:Option Addr} {m c d:Nat} (h:BkIn w N n X ss A S m c d):∀ z∈zs N X ss,z<2 ^ (N+8*n):=fun z hz=>by
 obtain⟨p,hp,rfl⟩:=List.mem_map.1 hz
 exact z_lt (pairs_good h.hX h.hss p hp)
theorem rref_len2 {N:Nat} {M P:List Nat} (h:Rref M P) (hM:∀ r∈M,r<2 ^ N):M.length≤N:=rref_len h (fun r hr=>hM r hr)
theorem bd_drew {W y:World} (h:Below W.drew.heap.size W.drew y):Below W.heap.size W y:=⟨h.os,h.tape,h.output,h.size,h.block⟩
def RFit (N:Nat) (Z:List Nat) (w:World) (e:Ending) (w':World):Prop:=∃ b:Bool,(b=true↔FitsP N Z)∧e=.returned (.bool b)∧Below w.heap.size w w'
set_option maxHeartbeats 4000000 in
theorem refFits_any {N n:Nat} {X:List Nat} {ss:List ByteArray} {A S:Option Addr} {m c d:Nat} (w:World) (h:BkIn w N n X ss A S m c d) :
  Calls Tryz.prog 62 #[.agg #[.int .i64 (N:Int),.slice A m c],.int .i64 (n:Int),.slice S m d] w (RFit N (zs N X ss) w):=by
 have b1:Below w.heap.size w (w.alloc (.cells #[.int .i64 (N:Int),.slice A m c] 102)):=(Below.refl _ _).alloc (Nat.le_refl _) _
 have Q0:=hZ (Box.new w 102 #[.int .i64 (N:Int),.slice A m c])
 have HB:=hZ b1
 have HIn:=hZ h
 have hN:=h.hN
 have hn:=h.hn
 have HZl:=hZ h.zlt
 obtain⟨q0,q1,-,-⟩:=Q0.out.two
 clear b1 h
 go_enter Tryz.func62,Tryz.ntmps62
 go_wp2_with fail
 clear q0 q1
 go_loopw [7] (fun t wr=>∃ a:Nat,a≤n∧t=.int .i64 (a:Int)∧Hid (∀ a',a'<a→∃ M P,PartP N a' (zs N X ss) M P∧∀ p∈P,p<N)∧Hid (Box wr w.heap.size 102 #[.int .i64 (N:Int),.slice A m c])∧Hid (Below w.heap.size w wr)) (fun t _=>n-(intOf t).toNat)
 case atStart=>exact⟨0,Nat.zero_le _,rfl,hZ (fun a' h=>by omega),Q0,HB⟩
 case round=>
  obtain⟨a,ha,rfl,HA,HQ,HBr⟩:=hrel
  by_cases hlt:a<n
  ·have hlt':(a:Int)<(n:Int):=by omega
   obtain⟨q0,q1,-,-⟩:=HQ.out.two
   have HPt:=hZ (part_any wr (HIn.out.below HBr.out) a hlt)
   go_wp2_with fail
   refine HPt.out.mono ?_
   rintro e w3 ⟨M,P,A9,c9,rfl,h1,h2,h3,hb⟩
   have HP:=hZ (show PartP N a (zs N X ss) M P from ⟨h1,h2⟩)
   have HM3:=hZ h3
   have HQ3:=hZ (HQ.out.keep hb)
   have HB3:=hZ (chain HBr.out hb)
   have hM72:M.length≤72:=by have:=rref_len2 h1 (partP_lt ⟨h1,h2⟩);omega
   clear h1 h2 h3 hb q0 q1 HPt HQ HBr
   obtain⟨wA,rfl⟩:∃ wA:World,wA=wr:=⟨_,rfl⟩
   go_wp2_with fail
   go_loopw [20] (fun u wr=>∃ j:Nat,j≤M.length∧u=.int .i64 (j:Int)∧Hid (∀ i,i<j→P.getD i 0<N)∧Hid (Box wr w.heap.size 102 #[.int .i64 (N:Int),.slice A m c])∧Hid (Below w.heap.size w wr)∧Hid (Below w3.heap.size w3 wr)) (fun u _=>M.length-(intOf u).toNat)
   case atStart=>exact⟨0,Nat.zero_le _,rfl,hZ (fun i h=>by omega),HQ3,HB3,hZ (Below.refl _ _)⟩
   case round=>
    obtain⟨j,hj,rfl,IA,IQ,IB,IC⟩:=hrel
    by_cases hjl:j<M.length
    ·have hjl':(j:Int)<(M.length:Int):=by omega
     obtain⟨b,off,B,l,k,hA,hbw,x0,x1,hs,hw⟩:=(HM3.out.below IC.out).at j hjl
     rw [mkM_at (N+8) M j hjl] at x0 hw
     subst hA
     change wr.cell? ⟨b,off+j*2,none⟩=some (.int .i64 ((N+8:Nat):Int)) at x0
     change Words wr B l (rowOf (N+8) (M.getD j 0)) at hw
     have hylt:=partP_lt HP.out _ (getD_mem hjl)
     obtain⟨N8,hN8⟩:∃ N8,N8=N+8:=⟨_,rfl⟩
     rw [← hN8] at x0 hw hylt
     have hN8b:N8≤72:=by omega
     have HN8:=hZ hN8
     clear hN8
     have hlow:=HP.out.1.low j hjl
     obtain⟨p,hp⟩:∃ p,p=P.getD j 0:=⟨_,rfl⟩
     rw [← hp] at hlow
     have HPe:=hZ hp
     have hpb:p<1000:=by
      have:=low_lt hylt hlow
      omega
     have al:Below wr.heap.size wr (wr.alloc (.cells #[.int .i64 (N8:Int),.slice B l k] 139)):=(Below.refl _ _).alloc (Nat.le_refl _) _
     have E:=hZ (Box.new wr 139 #[.int .i64 (N8:Int),.slice B l k])
     have ALx:=hZ al
     have Q2:=hZ (IQ.out.keep al)
     have HF:=hZ (fun W (hb:Below (wr.alloc (.cells #[.int .i64 (N8:Int),.slice B l k] 139)).heap.size (wr.alloc (.cells #[.int .i64 (N8:Int),.slice B l k] 139)) W)=>first_low N8 (M.getD j 0) p (by omega) hylt hlow B l k W ((hw.below al).below hb))
     obtain⟨e0,e1,-,-⟩:=E.out.two
     obtain⟨q0,q1,-,-⟩:=Q2.out.two
     clear al hw hlow hylt hp hs
     by_cases hNp:N≤p
     ·have hNp':(N:Int)≤(p:Int):=by omega
      have HNo:=hZ (fits_none HZl.out hlt HP.out (show p∈P by rw [HPe.out];exact getD_mem (by rw [← HP.out.1.len];exact hjl)) hNp)
      go_wp2_with fail
      go_region_held3 (fun w'=>w'.cell? ⟨w.heap.size,0,none⟩=some (.int .i64 (N:Int))∧w'.cell? ⟨wr.heap.size,0,none⟩=some (.int .i64 (N8:Int))∧w'.cell? ⟨wr.heap.size,1,none⟩=some (.slice B l k)) (go_keep) (first | (go_at_call 97;refine (HF.out _ ((Below.refl _ _).drew)).mono ?_;rintro e1 x1 ⟨rfl,hb⟩;have Q5:=hZ (Q2.out.drew.keep hb);have HC:=hZ (bd_drew hb);have E5:=hZ (E.out.drew.keep hb);clear hb;obtain⟨g0,g1,-,-⟩:=Q5.out.two;obtain⟨k0,k1,-,-⟩:=E5.out.two))
      all_goals
       have HBx:=hZ (chain (chain IB.out ALx.out) HC.out)
       clear g0 g1 k0 k1 HC HF
       go_wp2_with fail
       go_ret
       exact⟨false,by simp [HNo.out],rfl,HBx.out⟩
     ·have hNp':¬ (N:Int)≤(p:Int):=by omega
      have hpN:p<N:=by omega
      go_wp2_with fail
      go_region_held3 (fun w'=>w'.cell? ⟨w.heap.size,0,none⟩=some (.int .i64 (N:Int))∧w'.cell? ⟨wr.heap.size,0,none⟩=some (.int .i64 (N8:Int))∧w'.cell? ⟨wr.heap.size,1,none⟩=some (.slice B l k)) (go_keep) (first | (go_at_call 97;refine (HF.out _ ((Below.refl _ _).drew)).mono ?_;rintro e1 x1 ⟨rfl,hb⟩;have Q5:=hZ (Q2.out.drew.keep hb);have HC:=hZ (bd_drew hb);have E5:=hZ (E.out.drew.keep hb);clear hb;obtain⟨g0,g1,-,-⟩:=Q5.out.two;obtain⟨k0,k1,-,-⟩:=E5.out.two))
      all_goals
       have RB:=hZ (chain (chain IB.out ALx.out) HC.out)
       have RC:=hZ (chain (chain IC.out ALx.out) HC.out)
       have RA:=hZ (show ∀ i,i<j+1→P.getD i 0<N from fun i hi=>by
        by_cases e:i<j
        ·exact IA.out i e
        ·obtain rfl:i=j:=by omega
         rw [← HPe.out];exact hpN)
       clear g0 g1 k0 k1 HC HF
       go_wp2_with fail
       go_roundw
       case rel=>exact⟨j+1,by omega,by go_num,RA,Q5,RB,RC⟩
       case measure=>simp [intOf];omega
    ·obtain rfl:j=M.length:=by omega
     have hjl':¬ (M.length:Int)<(M.length:Int):=by omega
     have HA2:=hZ (show ∀ a',a'<a+1→∃ M P,PartP N a' (zs N X ss) M P∧∀ p∈P,p<N from fun a' h'=>by
      by_cases e:a'<a
      ·exact HA.out a' e
      ·obtain rfl:a'=a:=by omega
       refine⟨M,P,HP.out,fun p hp=>?_⟩
       obtain⟨i,hi,rfl⟩:=mem_getD hp
       exact IA.out i (by rw [HP.out.1.len];exact hi))
     go_wp2_with fail
     go_roundw
     case rel=>exact⟨a+1,by omega,by go_num,HA2,IQ,IB⟩
     case measure=>simp [intOf];omega
  ·obtain rfl:a=n:=by omega
   have hlt':¬ (a:Int)<(a:Int):=by omega
   have HF:=hZ (fits_all HZl.out HA.out)
   go_wp2_with fail
   go_ret
   exact⟨true,by simp [HF.out],rfl,HBr.out⟩
end
section
/- The reference of layer 5: told, byteOf. -/
open Go.RowKit
set_option maxRecDepth 100000
theorem ofBits_one (N c:Nat) (hc:c<N):ofBits N [(c:Int)]=rowOf N (2 ^ c):=by
 have ht:there N [(c:Int)]=true:=by simp [there];omega
 rw [← from_of N [(c:Int)] ht,← from_num (2 ^ c) N (Nat.pow_lt_pow_right (by omega) hc)]
 congr 2
 apply List.ext_getElem
 ·rw [ofInts_len,bitsI_len]
 ·intro i h1 h2
  have hi:i<N:=by rw [ofInts_len] at h1;exact h1
  simp only [ofInts,bitsI,List.getElem_map,List.getElem_range,Nat.testBit_two_pow]
  by_cases e:c=i
  ·subst e;simp [hasB]
  ·have:hasB [(c:Int)] (i:Int)=false:=by simp [hasB];omega
   rw [this];simp [e]
def ToldOut (M:List Nat) (c:Nat) (w:World) (e:Ending) (w':World):Prop:=∃ b:Bool,(b=true↔Sp M (2 ^ c))∧e=.returned (.bool b)∧Below w.heap.size w w'
theorem told_any (N:Nat) (hN:N≤64) (M P:List Nat) (hr:Rref M P) (hM:∀ r∈M,r<2 ^ N) (A:Option Addr) (k lo:Nat) (w:World) (hm:MatAt w lo A M.length (mkM N M)) (c:Nat) (hc:c<N) :
  Calls Tryz.prog 101 #[.slice A M.length k,.int .i64 (N:Int),.int .i64 (c:Int)] w (ToldOut M c w):=by
 have hM64:M.length≤64:=by have:=rref_len2 hr hM;omega
 have hx:2 ^ c<2 ^ N:=Nat.pow_lt_pow_right (by omega) hc
 have al:Below w.heap.size w (w.alloc (.cells #[.int .i64 (c:Int)] 3)):=(Below.refl _ _).alloc (Nat.le_refl _) _
 have HOf:=refOf_own N (some ⟨w.heap.size,0,none⟩) 1 1 [(c:Int)] _ (one_ints w 3 c (by omega)) (by omega) (by omega) (by simp [there];omega)
 rw [ofBits_one N c hc] at HOf
 have HOf2:=hZ HOf
 have HMt:=hZ (hm.below al)
 have ALx:=hZ al
 have HL:=hZ (fun W A1 l1 c1 (h1:MatAt W lo A M.length (mkM N M)) (h2:SliceOk A1 l1 c1) (h3:Words W A1 l1 (rowOf N (2 ^ c)))=>left_any N (by omega) M P hr hM (by omega) (2 ^ c) hx A A1 k l1 c1 lo W h1 h2 h3)
 have HZ:=hZ (left_zero hr (2 ^ c))
 obtain⟨z,hz⟩:∃ z,z=leftN M P (2 ^ c) M.length:=⟨_,rfl⟩
 have HzN:=hZ (show z<2 ^ N by rw [hz];exact leftN_lt (lt_all hM) (2 ^ c) hx _)
 rw [← hz] at HL HZ
 clear hm al HOf hz hx hM hr
 go_enter Tryz.func101,Tryz.ntmps101
 go_wp2_with fail
 refine HOf2.out.mono ?_
 rintro e w1 ⟨A1,l1,c1,rfl,ow,hb⟩
 have HM1:=hZ (HMt.out.below hb)
 have HB1:=hZ (chain ALx.out hb)
 have OW:=hZ ow
 clear hb ow HMt ALx HOf2
 go_wp2_with fail
 refine (HL.out w1 A1 l1 c1 HM1.out OW.out.ok (OW.out.words (rowOf_lt N _))).mono ?_
 rintro e w2 ⟨A2,l2,c2,rfl,-,hw2,hb⟩
 have HB2:=hZ (chain HB1.out hb)
 have HF:=hZ (first_any N z (by omega) HzN.out A2 l2 c2 w2 hw2)
 clear hb hw2 HL
 go_wp2_with fail
 refine HF.out.mono ?_
 rintro e w3 ⟨⟨p,hp,rfl⟩ |⟨hz,rfl⟩,hb⟩
 ·have HB3:=hZ (chain HB2.out hb)
  have HNo:=hZ (show ¬ Sp M (2 ^ c) from fun h=>by
   have:=HZ.out.2 h
   subst this
   have:=hp.1
   simp at this)
  have hp0:¬ (p:Int)<0:=by omega
  clear hb hp
  go_wp2_with fail
  go_ret
  exact⟨false,by simp [HNo.out],rfl,HB3.out⟩
 ·have HB3:=hZ (chain HB2.out hb)
  have HY:=hZ (HZ.out.1 hz)
  clear hb hz
  go_wp2_with fail
  go_ret
  exact⟨true,by simp [HY.out],rfl,HB3.out⟩
def hiB (N y t:Nat):Nat:=(y>>>(N+8-t))%2 ^ t
theorem hiB_zero (N y:Nat):hiB N y 0=0:=by simp [hiB,Nat.mod_one]
theorem hiB_succ (N y t:Nat) (ht:t<8):2*hiB N y t+(if y.testBit (N+(7-t)) then 1 else 0)=hiB N y (t+1):=by
 unfold hiB
 have e1:N+8-t=N+(7-t)+1:=by omega
 have e2:N+8-(t+1)=N+(7-t):=by omega
 rw [e1,e2,Nat.shiftRight_add]
 have hb:(if y.testBit (N+(7-t)) then 1 else 0)=(y>>>(N+(7-t)))%2:=by
  rw [Nat.shiftRight_eq_div_pow,halves]
 rw [hb]
 generalize y>>>(N+(7-t))=v
 rw [Nat.shiftRight_eq_div_pow,Nat.pow_one,Nat.pow_succ,Nat.mul_comm (2 ^ t) 2,Nat.mod_mul]
 omega
theorem hiB_lt (N y t:Nat) (ht:t≤8):hiB N y t<256:=by
 have h1:hiB N y t<2 ^ t:=Nat.mod_lt _ (Nat.two_pow_pos t)
 have h2:2 ^ t≤2 ^ 8:=Nat.pow_le_pow_right (by omega) ht
 omega
theorem hiB_all (N y:Nat):hiB N y 8=(y>>>N)%256:=by simp [hiB]
set_option maxHeartbeats 4000000 in
theorem byteOf_any (N:Nat) (hN:N≤64) (M P:List Nat) (hr:Rref M P) (hM:∀ r∈M,r<2 ^ (N+8)) (A:Option Addr) (k0 lo:Nat) (w:World) (hm:MatAt w lo A M.length (mkM (N+8) M)) (c j0:Nat) (hj0:j0<M.length) (hc:P.getD j0 0=c) :
  Calls Tryz.prog 102 #[.slice A M.length k0,.int .i64 (N:Int),.int .i64 (c:Int)] w fun e w'=>e=.returned (.int .u8 (((M.getD j0 0>>>N)%256:Nat):Int))∧Below w.heap.size w w':=by
 have hM72:M.length≤72:=by have:=rref_len2 hr hM;omega
 have HMt:=hZ hm
 have HRr:=hZ hr
 have HML:=hZ hM
 have HC:=hZ hc
 have hcb:c<1000:=by
  have:=low_lt (hM _ (getD_mem hj0)) (hr.low j0 hj0)
  omega
 obtain⟨V,hV⟩:∃ V:Nat,V=(M.getD j0 0>>>N)%256:=⟨_,rfl⟩
 rw [← hV]
 have HV:=hZ hV
 clear hm hr hM hc hV
 go_enter Tryz.func102,Tryz.ntmps102
 go_wp2_with fail
 go_loopw [13] (fun u wr=>∃ j:Nat,j≤j0∧u=.int .i64 (j:Int)∧Hid (Below w.heap.size w wr)) (fun u _=>M.length-(intOf u).toNat)
 case atStart=>exact⟨0,Nat.zero_le _,rfl,hZ (Below.refl _ _)⟩
 case round=>
  obtain⟨j,hj,rfl,HB⟩:=hrel
  have hjl:j<M.length:=by omega
  have hjl':(j:Int)<(M.length:Int):=by omega
  obtain⟨b,off,B,l,k,hA,hbw,x0,x1,hs,hw⟩:=(HMt.out.below HB.out).at j hjl
  rw [mkM_at (N+8) M j hjl] at x0 hw
  subst hA
  change wr.cell? ⟨b,off+j*2,none⟩=some (.int .i64 ((N+8:Nat):Int)) at x0
  change Words wr B l (rowOf (N+8) (M.getD j 0)) at hw
  have hylt:=HML.out _ (getD_mem hjl)
  have hlow:=HRr.out.low j hjl
  obtain⟨y,hy⟩:∃ y,y=M.getD j 0:=⟨_,rfl⟩
  obtain⟨p,hp⟩:∃ p,p=P.getD j 0:=⟨_,rfl⟩
  rw [← hy] at hw hylt hlow
  rw [← hp] at hlow
  obtain⟨N8,hN8⟩:∃ N8,N8=N+8:=⟨_,rfl⟩
  rw [← hN8] at x0 hw hylt
  have hN8b:N8≤72:=by omega
  have hNN:N+8≤N8:=by omega
  have HN8:=hZ hN8
  have HPe:=hZ hp
  have HYe:=hZ hy
  have hpb:p<1000:=by have:=low_lt hylt hlow;omega
  clear hN8 hs hp hy
  have al:Below wr.heap.size wr (wr.alloc (.cells #[.int .i64 (N8:Int),.slice B l k] 139)):=(Below.refl _ _).alloc (Nat.le_refl _) _
  have E:=hZ (Box.new wr 139 #[.int .i64 (N8:Int),.slice B l k])
  have ALx:=hZ al
  have HWd:=hZ (hw.below al)
  have HF:=hZ (first_low N8 y p (by omega) hylt hlow B l k _ HWd.out)
  obtain⟨e0,e1,-,-⟩:=E.out.two
  clear al hw hlow
  by_cases hje:j=j0
  ·have hpc:(p:Int)=(c:Int):=by rw [HPe.out,hje,HC.out]
   have HYV:=hZ (show V=(y>>>N)%256 by rw [HV.out,HYe.out,hje])
   have hpe:p=c:=by omega
   subst hpe
   have HYl:=hZ hylt
   clear hje hpc hylt
   go_wp2_with fail
   refine HF.out.mono ?_
   rintro e w3 ⟨rfl,hb⟩
   have HB3:=hZ (chain (chain HB.out ALx.out) hb)
   have E3:=hZ (E.out.keep hb)
   have W3:=hZ (HWd.out.below hb)
   clear hb e0 e1 x0 x1 HF E HWd ALx HB
   obtain⟨wA,rfl⟩:∃ wA:World,wA=wr:=⟨_,rfl⟩
   go_wp2_with fail
   go_loopw [10,9] (fun u o wr=>∃ t:Nat,t≤8∧u=.int .i64 (7-(t:Int))∧o=.int .i64 (hiB N y t:Nat)∧Hid (Box wr wA.heap.size 139 #[.int .i64 (N8:Int),.slice B l k])∧Hid (Words wr B l (rowOf N8 y))∧Hid (Below w.heap.size w wr)) (fun u _ _=>(intOf u+1).toNat)
   case atStart=>exact⟨0,by omega,rfl,by rw [hiB_zero];rfl,E3,W3,HB3⟩
   case round=>
    obtain⟨t,ht,rfl,rfl,IE,IW,IB⟩:=hrel
    have hlt8:=hiB_lt N y t ht
    by_cases htl:t<8
    ·have HS:=hZ (hiB_succ N y t htl)
     have HBt:=rbit_any N8 y (N+(7-t)) (by omega) B l k (by omega) wr IW.out
     obtain⟨bv,hbv⟩:∃ bv:Nat,bv=if y.testBit (N+(7-t)) then 1 else 0:=⟨_,rfl⟩
     have hb2:(if y.testBit (N+(7-t)) then (1:Int) else 0)=(bv:Int):=by rw [hbv];split<;>rfl
     rw [hb2] at HBt
     rw [← hbv] at HS
     have hbv1:bv≤1:=by rw [hbv];split<;>omega
     obtain⟨u,hu⟩:∃ u:Nat,u=7-t:=⟨_,rfl⟩
     have hu2:(7-(t:Int))=(u:Int):=by omega
     rw [show ((N+(7-t):Nat):Int)=(N:Int)+(u:Int) by omega] at HBt
     have HBt2:=hZ HBt
     obtain⟨h,hh⟩:∃ h,h=hiB N y t:=⟨_,rfl⟩
     rw [← hh] at HS hlt8 ⊢
     rw [hu2]
     have hu7:u≤7:=by omega
     have HU:=hZ hu
     obtain⟨e0,e1,-,-⟩:=IE.out.two
     clear hu2 hu HBt hb2 hbv hh
     go_wp2_with fail
     refine HBt2.out.mono ?_
     rintro e w4 ⟨rfl,hb⟩
     have RE:=hZ (IE.out.keep hb)
     have RW:=hZ (IW.out.below hb)
     have RB:=hZ (chain IB.out hb)
     clear hb e0 e1
     go_wp2_with fail
     go_roundw
     case rel=>exact⟨t+1,by omega,by have:=HU.out;congr 1;omega,by rw [← HS.out];simp,RE,RW,RB⟩
     case measure=>have:=HU.out;simp [intOf]
    ·obtain rfl:t=8:=by omega
     have HE:=hZ (show hiB N y 8=V by rw [hiB_all,HYV.out])
     obtain⟨h,hh⟩:∃ h,h=hiB N y 8:=⟨_,rfl⟩
     rw [← hh] at HE hlt8 ⊢
     clear hh
     go_wp2_with fail
     go_ret
     exact⟨by rw [← HE.out];rfl,IB.out⟩
  ·have hne:((p:Int)==(c:Int))=false:=by
    have:=HRr.out.rise j j0 (by omega) hj0
    have e1:=HPe.out
    have e2:=HC.out
    simp;omega
   have hjl2:j<j0:=by omega
   clear hje hylt
   go_wp2_with fail
   refine HF.out.mono ?_
   rintro e w3 ⟨rfl,hb⟩
   have HB3:=hZ (chain (chain HB.out ALx.out) hb)
   clear hb
   go_wp2_with fail
   go_roundw
   case rel=>exact⟨j+1,by omega,by go_num,HB3⟩
   case measure=>simp [intOf];omega
end
section
/- The reference of layer 5: Known. -/
open Go.RowKit
set_option maxRecDepth 100000
theorem prat_high (N a v:Nat):(prat N a v>>>N)%256=(v>>>(N+8*a))%256:=by
 apply Nat.eq_of_testBit_eq
 intro i
 rw [show (256:Nat)=2 ^ 8 by rfl,Nat.testBit_mod_two_pow,Nat.testBit_mod_two_pow,Nat.testBit_shiftRight,Nat.testBit_shiftRight,prat_bit,if_neg (by omega)]
 by_cases h:i<8
 ·have:decide (N+i<N+8)=true:=by simp;omega
  rw [this,Bool.true_and,show N+i+8*a=N+8*a+i by omega]
 ·simp [h]
def ToldP (X:List Nat) (i:Nat) (cs:List Nat):Prop:=cs.Pairwise (· < ·)∧∀ c,c∈cs↔c<i∧Sp X (2 ^ c)
theorem told_nil (X:List Nat):ToldP X 0 []:=⟨List.Pairwise.nil,fun c=>by simp⟩
theorem told_yes {X cs:List Nat} {i:Nat} (h:ToldP X i cs) (hs:Sp X (2 ^ i)):ToldP X (i+1) (cs++[i]):=by
 refine⟨List.pairwise_append.2 ⟨h.1,by simp,fun a ha b hb=>?_⟩,fun c=>?_⟩
 ·simp only [List.mem_singleton] at hb;subst hb;exact ((h.2 a).1 ha).1
 ·rw [List.mem_append,h.2,List.mem_singleton]
  constructor
  ·rintro (⟨h1,h2⟩ | rfl)
   ·exact⟨by omega,h2⟩
   ·exact⟨by omega,hs⟩
  ·rintro ⟨h1,h2⟩
   by_cases e:c=i
   ·exact .inr e
   ·exact .inl ⟨by omega,h2⟩
theorem told_no {X cs:List Nat} {i:Nat} (h:ToldP X i cs) (hs:¬ Sp X (2 ^ i)):ToldP X (i+1) cs:=by
 refine⟨h.1,fun c=>?_⟩
 rw [h.2]
 constructor
 ·rintro ⟨h1,h2⟩;exact⟨by omega,h2⟩
 ·rintro ⟨h1,h2⟩
  by_cases e:c=i
  ·subst e;exact absurd h2 hs
  ·exact⟨by omega,h2⟩
theorem pairwise_len:∀ {l:List Nat} {a b:Nat},l.Pairwise (· < ·)→(∀ x∈l,a≤x∧x<b)→l.length+a≤b∨l=[]
 | [],_,_,_,_=>.inr rfl
 | x::l,a,b,h,hm=>by
   have h':=List.pairwise_cons.1 h
   have hx:=hm x (by simp)
   rcases pairwise_len (a:=x+1) (b:=b) h'.2 (fun y hy=>⟨h'.1 y hy,(hm y (by simp [hy])).2⟩) with h1 | h1
   ·left;rw [List.length_cons];omega
   ·subst h1;left;simp;omega
theorem told_len {X cs:List Nat} {i:Nat} (h:ToldP X i cs):cs.length≤i:=by
 rcases pairwise_len (a:=0) (b:=i) h.1 (fun x hx=>⟨Nat.zero_le _,((h.2 x).1 hx).1⟩) with h1 | h1
 ·omega
 ·rw [h1];simp
def ValsP (N:Nat) (Z cs VV:List Nat):Prop:=VV.length=cs.length∧∀ j,j<cs.length→Sp Z (VV.getD j 0)∧lowN N (VV.getD j 0)=2 ^ (cs.getD j 0)
theorem vals_ex {N:Nat} {X Z cs:List Nat} (hXZ:Z.map (lowN N)=X) (h:∀ c∈cs,Sp X (2 ^ c)):∃ VV,ValsP N Z cs VV:=by
 have key:∀ k,k≤cs.length→∃ VV:List Nat,VV.length=k∧∀ j,j<k→Sp Z (VV.getD j 0)∧lowN N (VV.getD j 0)=2 ^ (cs.getD j 0):=by
  intro k
  induction k with
  | zero=>exact fun _=>⟨[],rfl,fun j hj=>absurd hj (Nat.not_lt_zero _)⟩
  | succ k ih=>
    intro hk
    obtain⟨VV,h1,h2⟩:=ih (by omega)
    have hs:=h (cs.getD k 0) (getD_mem (by omega))
    rw [← hXZ] at hs
    obtain⟨v,hv,he⟩:=(sp_map _ (lowN_zero N) (lowN_xor N) Z _).1 hs
    refine⟨VV++[v],by simp [h1],fun j hj=>?_⟩
    by_cases e:j<k
    ·have:(VV++[v]).getD j 0=VV.getD j 0:=by simp only [List.getD];rw [List.getElem?_append_left (by omega)]
     rw [this];exact h2 j e
    ·obtain rfl:j=k:=by omega
     have:(VV++[v]).getD j 0=v:=by rw [← h1];simp [List.getD]
     rw [this];exact⟨hv,he.symm⟩
 exact key cs.length (Nat.le_refl _)
def txA (N a:Nat) (VV:List Nat):List ByteArray:=VV.map fun v=>⟨(byL N v a).toArray⟩
theorem txA_len (N a:Nat) (VV:List Nat):(txA N a VV).length=VV.length:=by simp [txA]
theorem txA_zero (N:Nat) (VV:List Nat):txA N 0 VV=List.replicate VV.length ⟨#[]⟩:=by
 show VV.map (fun _=>(⟨#[]⟩:ByteArray))=_
 rw [List.map_const']
theorem txA_at (N a:Nat) (VV:List Nat) (j:Nat) (h:j<VV.length):(txA N a VV).getD j ByteArray.empty=⟨(byL N (VV.getD j 0) a).toArray⟩:=by simp [txA,List.getD,h]
theorem known_of {N n:Nat} {X Z cs VV:List Nat} (hZ:∀ z∈Z,z<2 ^ (N+8*n)) (h:ToldP X N cs) (hv:ValsP N Z cs VV):KnownP N n X Z cs (txA N n VV):=by
 refine⟨h.1,h.2,by rw [txA_len,hv.1],fun j hj=>?_⟩
 have hj':j<VV.length:=by rw [hv.1];exact hj
 rw [txA_at N n VV j hj']
 obtain⟨h1,h2⟩:=hv.2 j hj
 refine⟨by simp [ByteArray.size,byL_len],VV.getD j 0,h1,h2,?_⟩
 rw [← byL_bn N _ n (sp_lt hZ h1)]
def txU (N a:Nat) (VV:List Nat) (j:Nat):List ByteArray:=(txA N (a+1) VV).take j++(txA N a VV).drop j
theorem txU_len (N a:Nat) (VV:List Nat) (j:Nat) (h:j≤VV.length):(txU N a VV j).length=VV.length:=by simp [txU,txA_len];omega
theorem txU_zero (N a:Nat) (VV:List Nat):txU N a VV 0=txA N a VV:=by simp [txU]
theorem txU_all (N a:Nat) (VV:List Nat):txU N a VV VV.length=txA N (a+1) VV:=by
 unfold txU
 rw [List.take_of_length_le (by rw [txA_len];exact Nat.le_refl _),List.drop_of_length_le (by rw [txA_len];exact Nat.le_refl _),List.append_nil]
theorem txU_here (N a:Nat) (VV:List Nat) (j:Nat) (h:j<VV.length):(txU N a VV j).getD j ByteArray.empty=⟨(byL N (VV.getD j 0) a).toArray⟩:=by
 have e:((txA N (a+1) VV).take j).length=j:=by rw [List.length_take,txA_len];omega
 rw [← txA_at N a VV j h]
 simp only [List.getD,txU]
 rw [List.getElem?_append_right (by omega),e,Nat.sub_self,List.getElem?_drop];simp
theorem txU_next (N a:Nat) (VV:List Nat) (j:Nat) (h:j<VV.length):txU N a VV (j+1)=(txU N a VV j).set j (⟨(byL N (VV.getD j 0) a).toArray⟩++⟨[UInt8.ofNat ((VV.getD j 0>>>(N+8*a))%256)].toArray⟩):=by
 unfold txU
 have hj:j<(txA N (a+1) VV).length:=by rw [txA_len];exact h
 have e:((txA N (a+1) VV).take j).length=j:=by rw [List.length_take,txA_len];omega
 have g:(txA N (a+1) VV)[j]=⟨(byL N (VV.getD j 0) a).toArray⟩++⟨[UInt8.ofNat ((VV.getD j 0>>>(N+8*a))%256)].toArray⟩:=by
  have:=txA_at N (a+1) VV j h
  rw [List.getD,List.getElem?_eq_getElem hj,Option.getD_some] at this
  rw [this,byL_succ]
  apply ByteArray.ext
  simp
 rw [List.take_succ_eq_append_getElem hj,g,List.set_append,if_neg (by omega),e,Nat.sub_self,List.drop_eq_getElem_cons (show j<(txA N a VV).length by rw [txA_len];exact h),List.set_cons_zero,List.append_assoc]
 rfl
end
section
/- The reference of layer 5: Known, walked. -/
open Go.RowKit
set_option maxRecDepth 100000
theorem conv5 (w:World) (l:List UInt8) (n:Nat) (cs:Array Value) (hn:l.length=n) (hc:cs.toList=l.map fun (x:UInt8)=>Value.int .u8 (x.toNat:Int)):(convert 147 9 (.slice (some ⟨w.heap.size,0,none⟩) n n)).run Tryz.prog (w.alloc (.cells cs 5))=.ok (.string ⟨l.toArray⟩) (w.alloc (.cells cs 5)):=by
 subst hn
 refine run_convert_bytes_back (P:=Tryz.prog) _ 147 9 5 ⟨w.heap.size,0,none⟩ _ l Tryz.underlying147 Tryz.underlying5 Tryz.underlying9 ?_
 intro j hj
 have hadd:Addr.add { block:=w.heap.size,off:=0 } j=⟨w.heap.size,j,none⟩:=by
  by_cases h:j=0<;>simp [Addr.add,h]
 rw [hadd,(Box.new w 5 cs).cell j,← Array.getElem?_toList,hc]
 simp [List.getElem?_eq_getElem hj]
theorem news_set (w:World) (p:Addr) (v:Value) (t:TypeId) (cs:Array Value):∀ j u,cs.toList[j]?=some u→((w.setCell p v).alloc (.cells cs t)).cell? ((⟨w.heap.size,0,none⟩:Addr).add j)=some u:=by
 have h:=World.news_of_block (Box.new (w.setCell p v) t cs)
 rw [show (w.setCell p v).heap.size=w.heap.size by simp [World.setCell]] at h
 exact h
theorem gk_new {w wA wB:World} {g:Nat} {r:Option Nat} (h:w.grownBy wA (some g)) (k:wA.grownBy wB r) (hr:∀ b,r=some b→w.heap.size≤b):w.grownBy wB (some g):=
 ⟨k.os.trans h.os,k.tape.trans h.tape,k.output.trans h.output,Nat.le_trans h.size k.size,fun b hb hne=>(k.block b (Nat.lt_of_lt_of_le hb h.size) (fun e=>by have:=hr b e.symm;omega)).trans (h.block b hb hne)⟩
theorem Words.gk {w w1:World} {A:Option Addr} {l:Nat} {us:List Nat} (h:Words w A l us) {g:Nat} {t:TypeId} {cs:Array Value} (hb:Box w g t cs) (hk:∀ (i:Nat) (v:Value),cs[i]?=some v→∀ k n,v≠Value.int k n) (hg:w.grownBy w1 (some g)):Words w1 A l us:=by
 refine⟨h.1,h.2.1,fun hp=>?_⟩
 obtain⟨b,off,rfl,hlt,hc⟩:=h.2.2 hp
 have hne:b≠g:=fun e=>by
  subst e
  have:=hc 0 hp
  rw [hb.cell] at this
  exact hk _ _ this _ _ rfl
 refine⟨b,off,rfl,Nat.lt_of_lt_of_le hlt hg.size,fun j hj=>?_⟩
 rw [hg.cell_far ⟨b,off+j,none⟩ hlt (fun e=>hne (Option.some.inj e))]
 exact hc j hj
theorem MatAt.gk {w w1:World} {lo:Nat} {A:Option Addr} {len:Nat} {ms:List (Int×List Nat)} (h:MatAt w lo A len ms) {g:Nat} {t:TypeId} {cs:Array Value} (hb:Box w g t cs) (hk:∀ (i:Nat) (v:Value),cs[i]?=some v→∀ k n,v≠Value.int k n) (hg:w.grownBy w1 (some g)):MatAt w1 lo A len ms:=by
 refine⟨h.1,fun hp=>?_⟩
 obtain⟨b,off,rfl,hlo,hlt,hc⟩:=h.2 hp
 have hne:b≠g:=fun e=>by
  subst e
  obtain⟨B,l,c,r0,-⟩:=hc 0 hp
  rw [hb.cell] at r0
  exact hk _ _ r0 _ _ rfl
 refine⟨b,off,rfl,hlo,Nat.lt_of_lt_of_le hlt hg.size,fun j hj=>?_⟩
 obtain⟨B,l,c,r0,r1,r2,r3⟩:=hc j hj
 refine⟨B,l,c,?_,?_,r2,r3.gk hb hk hg⟩
 ·rw [hg.cell_far ⟨b,off+j*2,none⟩ hlt (fun e=>hne (Option.some.inj e))];exact r0
 ·rw [hg.cell_far ⟨b,off+j*2+1,none⟩ hlt (fun e=>hne (Option.some.inj e))];exact r1
structure NS (w w1:World):Prop where
 size:w.heap.size≤w1.heap.size
 cell:∀ p:Addr,p.block<w.heap.size→(∀ s,w.cell? p≠some (.string s))→w1.cell? p=w.cell? p
theorem NS.refl (w:World):NS w w:=⟨Nat.le_refl _,fun _ _ _=>rfl⟩
theorem NS.below {w w1 w2:World} (h:NS w w1) (hb:Below w1.heap.size w1 w2):NS w w2:=
 ⟨Nat.le_trans h.size hb.size,fun p hp hs=>by
  have e:=h.cell p hp hs
  rw [← e]
  exact hb.cell (p:=p) (Nat.lt_of_lt_of_le hp h.size)⟩
theorem NS.set {w w1:World} (h:NS w w1) {g j:Nat} {s:ByteArray} (hc:w1.cell? ⟨g,j,none⟩=some (.string s)) (u:Value):NS w (w1.setCell ⟨g,j,none⟩ u):=
 ⟨by simpa [World.setCell] using h.size,fun p hp hs=>by
  have e:=h.cell p hp hs
  rw [World.cell?_setCell_other _ _ _ _ (fun e2=>by
   subst e2
   rw [e] at hc
   exact hs _ hc)]
  exact e⟩
theorem Words.ns {w w1:World} {A:Option Addr} {l:Nat} {us:List Nat} (h:Words w A l us) (k:NS w w1):Words w1 A l us:=by
 refine⟨h.1,h.2.1,fun hp=>?_⟩
 obtain⟨b,off,rfl,hlt,hc⟩:=h.2.2 hp
 refine⟨b,off,rfl,Nat.lt_of_lt_of_le hlt k.size,fun j hj=>?_⟩
 rw [k.cell ⟨b,off+j,none⟩ hlt (fun s e=>by rw [hc j hj] at e;cases e)]
 exact hc j hj
theorem MatAt.ns {w w1:World} {lo:Nat} {A:Option Addr} {len:Nat} {ms:List (Int×List Nat)} (h:MatAt w lo A len ms) (k:NS w w1):MatAt w1 lo A len ms:=by
 refine⟨h.1,fun hp=>?_⟩
 obtain⟨b,off,rfl,hlo,hlt,hc⟩:=h.2 hp
 refine⟨b,off,rfl,hlo,Nat.lt_of_lt_of_le hlt k.size,fun j hj=>?_⟩
 obtain⟨B,l,c,r0,r1,r2,r3⟩:=hc j hj
 refine⟨B,l,c,?_,?_,r2,r3.ns k⟩
 ·rw [k.cell ⟨b,off+j*2,none⟩ hlt (fun s e=>by rw [r0] at e;cases e)];exact r0
 ·rw [k.cell ⟨b,off+j*2+1,none⟩ hlt (fun s e=>by rw [r1] at e;cases e)];exact r1
theorem own_some {w:World} {base e size n c:Nat} {A:Option Addr} {xs:List Value} (h:w.ownsRow base e size (.slice A n c) n xs) (hn:0<n):∃ g,A=some ⟨g,0,none⟩∧base≤g∧g<w.heap.size:=by
 rcases h.2 with ⟨hv,hz⟩ |⟨g,cap,cur,hv,hb,hh,-⟩
 ·omega
 ·injection hv with hv
  exact⟨g,hv,hb,(show Box w g e cur from hh).lt⟩
theorem own_str_at {w:World} {base g n c:Nat} {ts:List ByteArray} (h:w.ownsRow base 9 1 (.slice (some ⟨g,0,none⟩) n c) n (ts.map Value.string)) (j:Nat) (hj:j<ts.length):w.cell? ⟨g,j,none⟩=some (.string (ts.getD j ByteArray.empty))∧w.frozen? ⟨g,j,none⟩=false:=by
 have:=World.ownsRow.cells h (g:=g) rfl j (.string (ts.getD j ByteArray.empty)) (by simp [List.getD,hj])
 rw [add_zero0] at this
 exact⟨this,h.frozenAt _⟩
def RKn (N n:Nat) (X Z:List Nat) (w:World) (e:Ending) (w':World):Prop:=
 ∃ (cols:List Nat) (blks:List ByteArray) (B1 B2:Option Addr) (c1 c2:Nat),e=.returned (.agg #[.slice B1 cols.length c1,.slice B2 blks.length c2])∧Ints w' B1 cols.length (cols.map fun x:Nat=>(x:Int))∧Texts w' B2 blks.length blks∧KnownP N n X Z cols blks∧cols.length≤64∧Below w.heap.size w w'
set_option maxHeartbeats 8000000 in
theorem refKnown_any {N n:Nat} {X:List Nat} {ss:List ByteArray} {A S:Option Addr} {m c d:Nat} (w:World) (h:BkIn w N n X ss A S m c d) (hf:FitsP N (zs N X ss)) :
  Calls Tryz.prog 63 #[.agg #[.int .i64 (N:Int),.slice A m c],.int .i64 (n:Int),.slice S m d] w (RKn N n X (zs N X ss) w):=by
 obtain⟨i0,ki,kz0,kz1,kz2⟩:=info_parts int_info5
 obtain⟨j0,ji,jz0,jz1,jz2⟩:=info_parts str_info5
 have b1:Below w.heap.size w (w.alloc (.cells #[.int .i64 (N:Int),.slice A m c] 102)):=(Below.refl _ _).alloc (Nat.le_refl _) _
 have b2:=b1.alloc (by simp) (.cells #[.slice none 0 0,.slice none 0 0] 108)
 have b3:=b2.alloc (by simp;omega) (.cells #[.slice none 0 0,.slice none 0 0] 108)
 have Q0:=hZ (((Box.new w 102 #[.int .i64 (N:Int),.slice A m c]).alloc (.cells #[.slice none 0 0,.slice none 0 0] 108)).alloc (.cells #[.slice none 0 0,.slice none 0 0] 108))
 have r0:=(Box.new (w.alloc (.cells #[.int .i64 (N:Int),.slice A m c] 102)) 108 #[.slice none 0 0,.slice none 0 0]).alloc (.cells #[.slice none 0 0,.slice none 0 0] 108)
 have k0:=Box.new ((w.alloc (.cells #[.int .i64 (N:Int),.slice A m c] 102)).alloc (.cells #[.slice none 0 0,.slice none 0 0] 108)) 108 #[.slice none 0 0,.slice none 0 0]
 simp only [World.size_alloc] at r0 k0
 have R0:=hZ r0
 have K0:=hZ k0
 have HB:=hZ b3
 have HIn:=hZ h
 have hN:=h.hN
 have hn:=h.hn
 have hm64:=h.hm64
 have HZl:=hZ h.zlt
 have HLow:=hZ h.low
 have HF:=hZ hf
 have HXl:=hZ h.hX
 have HXm:=hZ h.hXm
 have HEc:=hZ (refEch_any N (by omega) X h.hX (by rw [h.hXm];omega) A c 0 _ (by rw [h.hXm];exact h.hm.below b3))
 rw [h.hXm] at HEc
 obtain⟨q0,q1,-,-⟩:=Q0.out.two
 clear b1 b2 b3 h hf r0 k0
 go_enter Tryz.func63,Tryz.ntmps63
 go_wp2_with fail
 refine HEc.out.mono ?_
 rintro e w3 ⟨M,P,A9,c9,rfl,h1,h2,h3,hb⟩
 have HRr:=hZ h1
 have HSp:=hZ h2
 have HM3:=hZ h3
 have HMl:=hZ (same_lt HXl.out h2)
 have Q3:=hZ (Q0.out.keep hb)
 have R3:=hZ (R0.out.keep hb)
 have K3:=hZ (K0.out.keep hb)
 have B3:=hZ (chain HB.out hb)
 have hM64:M.length≤64:=by have:=rref_len2 h1 HMl.out;omega
 have HTd:=hZ (fun (W:World) (hW:MatAt W 0 A9 M.length (mkM N M)) (c:Nat) (hc:c<N)=>told_any N hN M P h1 HMl.out A9 c9 0 W hW c hc)
 clear h1 h2 h3 hb q0 q1 HEc Q0 R0 K0 HB
 go_wp2_with fail
 have HN3:=hZ (show ∀ (i:Nat) (v:Value),(#[Value.slice none 0 0,Value.slice none 0 0]:Array Value)[i]?=some v→∀ k n,v≠Value.int k n by
  intro i v hv k n e
  subst e
  rcases i with _ | _ | i
  ·cases hv
  ·cases hv
  ·simp at hv)
 have hk3:w.heap.size+1+1<w3.heap.size:=K3.out.lt
 go_loopw [9] (fun t wr=>∃ (i:Nat) (cs:List Nat) (v1 v2:Value),i≤N∧t=.int .i64 (i:Int)∧Hid (ToldP X i cs)∧Hid (Box wr (w.heap.size+1+1) 108 #[v1,v2])∧Hid (wr.ownsRow w3.heap.size 3 1 v1 cs.length (cs.map numI))∧Hid (wr.ownsRow w3.heap.size 9 1 v2 cs.length ((List.replicate cs.length (⟨#[]⟩:ByteArray)).map Value.string))∧Hid (w3.grownBy wr (some (w.heap.size+1+1)))) (fun t _=>N-(intOf t).toNat)
 case atStart=>exact⟨0,[],_,_,Nat.zero_le _,rfl,hZ (told_nil X),K3,hZ (World.ownsRow_nil _ _ _ _),hZ (World.ownsRow_nil _ _ _ _),hZ (gk_refl _ _)⟩
 case round=>
  obtain⟨i,cs,v1,v2,hi,rfl,HT,HK,H1,H2,HG⟩:=hrel
  have HQ:=hZ (gk_box Q3.out HG.out (by omega))
  have HM:=hZ (HM3.out.gk K3.out HN3.out HG.out)
  obtain⟨k0,k1,kf0,kf1⟩:=HK.out.two
  obtain⟨q0,q1,-,-⟩:=HQ.out.two
  have hg3:=HG.out.size
  by_cases hlt:i<N
  ·have hlt':(i:Int)<(N:Int):=by omega
   have HD:=hZ (HTd.out wr HM.out i hlt)
   have hcl:=told_len HT.out
   go_wp2_with fail
   refine HD.out.mono ?_
   rintro e w5 ⟨bb,hbb,rfl,hb⟩
   have K5:=hZ (HK.out.keep hb)
   have O1:=hZ (own_keep H1.out hb)
   have O2:=hZ (own_keep H2.out hb)
   have G5:=hZ (gk_trans HG.out (gk_below hb))
   clear hb k0 k1 kf0 kf1 q0 q1 HK H1 H2 HQ HM HD HG
   cases bb with
   | false=>
     have HTn:=hZ (told_no HT.out (fun hs=>by have:=hbb.2 ((HSp.out _).1 hs);cases this))
     clear hbb
     go_wp2_with fail
     go_roundw
     case rel=>exact⟨i+1,cs,v1,v2,by omega,by go_num,HTn,K5,O1,O2,G5⟩
     case measure=>simp [intOf];omega
   | true=>
     have HTy:=hZ (told_yes HT.out ((HSp.out _).2 (hbb.1 rfl)))
     clear hbb
     have al:Below w5.heap.size w5 (w5.alloc (.cells #[.int .i64 (i:Int)] 3)):=(Below.refl _ _).alloc (Nat.le_refl _) _
     have XO:=hZ (own_keep O1.out al)
     have X2:=hZ (own_keep O2.out al)
     have XK:=hZ (K5.out.keep al)
     have XG:=hZ (gk_trans G5.out (gk_below al))
     have XS:=hZ (show w3.heap.size≤(w5.alloc (.cells #[.int .i64 (i:Int)] 3)).heap.size from XG.out.size)
     obtain⟨k0,k1,kf0,kf1⟩:=K5.out.two
     clear al
     go_wp2_with (first
      | (at_builtin;refine wpList_append_lies _ rfl _ _ 106 rfl w3.heap.size 3 i0 (.int .i64 0) 1 8 Tryz.underlying106 ki kz0 kz1 kz2 rfl (by decide) v1 cs.length (cs.map numI) rfl XO.out ⟨w5.heap.size,0,none⟩ 1 1 [.int .i64 (i:Int)] rfl rfl (cell_one_new _ _ _) (by simp [Value.oneCell']) (by omega) (by simp [maxLen];omega) (by omega) XS.out _ rfl ?_;intro g1 cap1 w6 hown hgrow _ _;have HO1:=hZ hown;have G6:=hZ (gk_new XG.out hgrow (fun g e=>(own_blk XO.out g e).1));clear k0 k1 kf0 kf1;have hp6:PC _ w6 3:=⟨_,hgrow,fun g e=>(own_blk XO.out g e).2⟩;have Y2:=hZ (hp6.own X2.out (by decide));have YK:=hZ (hp6.box XK.out (by decide));have Z1:=hZ (own_keep (own_far HO1.out YK.out (by decide) 0 (.slice (some ⟨g1,0,none⟩) (cs.length+1) cap1)) ((Below.refl (w6.setCell ⟨w.heap.size+1+1,0,none⟩ (.slice (some ⟨g1,0,none⟩) (cs.length+1) cap1)).heap.size _).alloc (Nat.le_refl _) (.cells #[.string ⟨#[]⟩] 9)));have Z2:=hZ (own_keep (own_far Y2.out YK.out (by decide) 0 (.slice (some ⟨g1,0,none⟩) (cs.length+1) cap1)) ((Below.refl (w6.setCell ⟨w.heap.size+1+1,0,none⟩ (.slice (some ⟨g1,0,none⟩) (cs.length+1) cap1)).heap.size _).alloc (Nat.le_refl _) (.cells #[.string ⟨#[]⟩] 9)));have ZG:=hZ (gk_trans (gk_trans G6.out (gk_set w6 (w.heap.size+1+1) 0 (.slice (some ⟨g1,0,none⟩) (cs.length+1) cap1))) (gk_below ((Below.refl (w6.setCell ⟨w.heap.size+1+1,0,none⟩ (.slice (some ⟨g1,0,none⟩) (cs.length+1) cap1)).heap.size _).alloc (Nat.le_refl _) (.cells #[.string ⟨#[]⟩] 9))));have ZS:=hZ (show w3.heap.size≤((w6.setCell ⟨w.heap.size+1+1,0,none⟩ (.slice (some ⟨g1,0,none⟩) (cs.length+1) cap1)).alloc (.cells #[.string ⟨#[]⟩] 9)).heap.size from ZG.out.size);have ZK:=hZ (YK.out.put 0 (.slice (some ⟨g1,0,none⟩) (cs.length+1) cap1));clear hp6 hown hgrow;obtain⟨k0,k1,kf0,kf1⟩:=YK.out.two)
      | (at_builtin;refine wpList_append_lies _ rfl _ _ 34 rfl w3.heap.size 9 j0 (.string ⟨#[]⟩) 1 16 Tryz.underlying34 ji jz0 jz1 jz2 rfl (by decide) v2 cs.length ((List.replicate cs.length (⟨#[]⟩:ByteArray)).map Value.string) rfl Z2.out ⟨w6.heap.size,0,none⟩ 1 1 [.string ⟨#[]⟩] rfl rfl (news_set _ _ _ _ _) (by simp [Value.oneCell']) (by omega) (by simp [maxLen];omega) (by omega) ZS.out _ rfl ?_;intro g2 cap2 w7 hown hgrow _ _;have HO2:=hZ hown;have G7:=hZ (gk_new ZG.out hgrow (fun g e=>(own_blk Z2.out g e).1));clear k0 k1 kf0 kf1;have hp7:PC _ w7 9:=⟨_,hgrow,fun g e=>(own_blk Z2.out g e).2⟩;have WK:=hZ (hp7.box (ZK.out.alloc (.cells #[.string ⟨#[]⟩] 9)) (by decide));have W1:=hZ (hp7.own Z1.out (by decide));clear hp7 hown hgrow;obtain⟨k0,k1,kf0,kf1⟩:=WK.out.two))
     have RK:=hZ (WK.out.put 1 (.slice (some ⟨g2,0,none⟩) (cs.length+1) cap2))
     have RG:=hZ (gk_trans G7.out (gk_set w7 (w.heap.size+1+1) 1 (.slice (some ⟨g2,0,none⟩) (cs.length+1) cap2)))
     have R1:=hZ (own_far W1.out WK.out (by decide) 1 (.slice (some ⟨g2,0,none⟩) (cs.length+1) cap2))
     have R2:=hZ (own_far HO2.out WK.out (by decide) 1 (.slice (some ⟨g2,0,none⟩) (cs.length+1) cap2))
     clear WK G7 W1 HO2 ZK Z1 Z2 ZS ZG YK Y2 G6 HO1 XO X2 XK XG XS k0 k1 kf0 kf1 K5 O1 O2 G5
     go_roundw
     case rel=>
      refine⟨i+1,cs++[i],_,_,by omega,by go_num,HTy,RK,hZ ?_,hZ ?_,RG⟩
      ·rw [List.length_append,List.map_append];exact R1.out
      ·rw [List.length_append,List.length_singleton,List.replicate_succ',List.map_append];exact R2.out
     case measure=>simp [intOf];omega
  ·obtain rfl:N=i:=by omega
   have hlt':¬ (N:Int)<(N:Int):=by omega
   obtain⟨VV,hVV⟩:=vals_ex HLow.out (fun c hc=>((HT.out.2 c).1 hc).2)
   have HVV:=hZ hVV
   have HVl:=hZ hVV.1
   have hcl:cs.length≤64:=by have:=told_len HT.out;omega
   obtain⟨B1,c1,hv1,-⟩:=own_form H1.out
   obtain⟨B2,c2,hv2,-⟩:=own_form H2.out
   subst hv1 hv2
   have HO2:=hZ (show wr.ownsRow w3.heap.size 9 1 (.slice B2 cs.length c2) cs.length ((txA N 0 VV).map Value.string) by rw [txA_zero,HVl.out];exact H2.out)
   clear hVV H2 HQ HM
   obtain⟨wB,rfl⟩:∃ wB:World,wB=wr:=⟨_,rfl⟩
   go_wp2_with fail
   clear k0 k1 kf0 kf1 q0 q1
   go_loopw [10] (fun t wr=>∃ a:Nat,a≤n∧t=.int .i64 (a:Int)∧Hid (Box wr (w.heap.size+1+1) 108 #[.slice B1 cs.length c1,.slice B2 cs.length c2])∧Hid (wr.ownsRow w3.heap.size 3 1 (.slice B1 cs.length c1) cs.length (cs.map numI))∧Hid (wr.ownsRow w3.heap.size 9 1 (.slice B2 cs.length c2) cs.length ((txA N a VV).map Value.string))∧Hid (w3.grownBy wr (some (w.heap.size+1+1)))) (fun t _=>n-(intOf t).toNat)
   case atStart=>exact⟨0,Nat.zero_le _,rfl,HK,H1,HO2,HG⟩
   case round=>
    obtain⟨a,ha,rfl,JK,J1,J2,JG⟩:=hrel
    have JQ:=hZ (gk_box Q3.out JG.out (by omega))
    have JB:=hZ (gr_low B3.out B3.out.size JG.out (fun g e=>by injection e with e;omega))
    obtain⟨k0,k1,kf0,kf1⟩:=JK.out.two
    obtain⟨q0,q1,-,-⟩:=JQ.out.two
    by_cases hal:a<n
    ·have hal':(a:Int)<(n:Int):=by omega
     have HPt:=hZ (part_any wr (HIn.out.below JB.out) a hal)
     go_wp2_with fail
     refine HPt.out.mono ?_
     rintro e w5 ⟨M2,P2,A5,c5,rfl,h1,h2,h3,hb⟩
     have HP:=hZ (show PartP N a (zs N X ss) M2 P2 from ⟨h1,h2⟩)
     have HM5:=hZ h3
     have K5:=hZ (JK.out.keep hb)
     have O1:=hZ (own_keep J1.out hb)
     have O2:=hZ (show w5.ownsRow w3.heap.size 9 1 (.slice B2 cs.length c2) cs.length ((txU N a VV 0).map Value.string) by rw [txU_zero];exact own_keep J2.out hb)
     have G5:=hZ (gk_trans JG.out (gk_below hb))
     clear h1 h2 h3 hb k0 k1 kf0 kf1 q0 q1 JK J1 J2 JG JQ JB HPt
     obtain⟨k0,k1,kf0,kf1⟩:=K5.out.two
     obtain⟨wC,rfl⟩:∃ wC:World,wC=wr:=⟨_,rfl⟩
     go_wp2_with fail
     clear k0 k1 kf0 kf1
     go_loopw [51] (fun u wr=>∃ j:Nat,j≤cs.length∧u=.int .i64 (j:Int)∧Hid (Box wr (w.heap.size+1+1) 108 #[.slice B1 cs.length c1,.slice B2 cs.length c2])∧Hid (wr.ownsRow w3.heap.size 3 1 (.slice B1 cs.length c1) cs.length (cs.map numI))∧Hid (wr.ownsRow w3.heap.size 9 1 (.slice B2 cs.length c2) cs.length ((txU N a VV j).map Value.string))∧Hid (w3.grownBy wr (some (w.heap.size+1+1)))∧Hid (NS w5 wr)) (fun u _=>cs.length-(intOf u).toNat)
     case atStart=>exact⟨0,Nat.zero_le _,rfl,K5,O1,O2,G5,hZ (NS.refl _)⟩
     case round=>
      obtain⟨j,hj,rfl,LK,L1,L2,LG,LN⟩:=hrel
      clear K5 O1 O2 G5
      by_cases hjl:j<cs.length
      ·have hjl':(j:Int)<(cs.length:Int):=by omega
       have hcm:∀ c∈cs,c<N:=fun c hc=>((HT.out.2 c).1 hc).1
       have hin:=own_ints (zs:=cs.map fun x:Nat=>(x:Int)) (by rw [List.map_map];exact L1.out) (num_bdP cs (fun j hj=>by have:=hcm _ (getD_mem hj);omega))
       obtain⟨b1,off1,hB1,hb1,x0⟩:=ints_cell hin j hjl
       obtain⟨g2,hB2,hg2,hg2w⟩:=own_some L2.out (by omega)
       subst hB1 hB2
       obtain⟨y0,yf0⟩:=own_str_at L2.out j (by rw [txU_len N a VV j (by rw [HVl.out];exact hj),HVl.out];exact hjl)
       rw [txU_here N a VV j (by rw [HVl.out];exact hjl)] at y0
       have HNx:=hZ (txU_next N a VV j (by rw [HVl.out];exact hjl))
       obtain⟨hv1,hv2⟩:=HVV.out.2 j hjl
       have hcN:=hcm _ (getD_mem hjl)
       obtain⟨cv,hcv⟩:∃ cv,cv=cs.getD j 0:=⟨_,rfl⟩
       rw [← hcv] at x0 hv2 hcN
       obtain⟨v,hv⟩:∃ v,v=VV.getD j 0:=⟨_,rfl⟩
       rw [← hv] at y0 hv1 hv2 HNx
       obtain⟨j9,hj9,hPj,hMj⟩:=byte_row HP.out.1 HP.out.2 (fits_places HZl.out HF.out hal HP.out) hv1 hv2 hcN
       obtain⟨V,hV⟩:∃ V:Nat,V=(v>>>(N+8*a))%256:=⟨_,rfl⟩
       have hV256:V<256:=by rw [hV];exact Nat.mod_lt _ (by omega)
       have hBy:=fun W (hn:NS w5 W)=>byteOf_any N hN M2 P2 HP.out.1 (partP_lt HP.out) A5 c5 0 W (HM5.out.ns hn) cv j9 (by rw [HP.out.1.len];exact hj9) hPj
       rw [hMj,prat_high,← hV] at hBy
       rw [← hV] at HNx
       have HBy:=hZ hBy
       have hTs:(⟨(byL N v a).toArray⟩:ByteArray).size≤64:=by simp [ByteArray.size,byL_len];omega
       obtain⟨T,hT⟩:∃ T:ByteArray,T=⟨(byL N v a).toArray⟩:=⟨_,rfl⟩
       rw [← hT] at y0 hTs HNx
       have hEs:(⟨[UInt8.ofNat V].toArray⟩:ByteArray).size≤1:=by simp [ByteArray.size]
       have hcnv:=fun W=>conv5 W [UInt8.ofNat V] 1 #[.int .u8 (V:Int)] rfl (by simp;omega)
       obtain⟨E1,hE1⟩:∃ E1:ByteArray,E1=⟨[UInt8.ofNat V].toArray⟩:=⟨_,rfl⟩
       rw [← hE1] at hEs HNx hcnv
       have HCv:=hZ hcnv
       have hTE:¬ 9223372036854775807<T.size+E1.size:=by omega
       have HQ:=hZ (gk_box Q3.out LG.out (by omega))
       obtain⟨k0,k1,kf0,kf1⟩:=LK.out.two
       obtain⟨q0,q1,-,-⟩:=HQ.out.two
       have hqw:=HQ.out.lt
       have hkw:=LK.out.lt
       clear hV hT hE1 hcnv hBy hMj hPj hj9 hv1 hv2 hv hcm hin hcv
       have n1:¬ w.heap.size+1+1=g2:=by omega
       have n2:¬ w.heap.size=g2:=by omega
       have n3:¬ g2=w.heap.size+1+1:=by omega
       have n4:¬ g2=w.heap.size:=by omega
       go_wp2_with fail
       refine wp_heldK_bar [(17,fun w':World=>w'.cell? ⟨w.heap.size+1+1,1,none⟩=some (.slice (some ⟨g2,0,none⟩) cs.length c2)∧w'.cell? ⟨w.heap.size,0,none⟩=some (.int .i64 (N:Int))∧w'.cell? ⟨g2,j,none⟩=some (.string T))] 18 (by kernel_rfl) (by decide) ?_
       have hS0:=(show (fun w':World=>w'.cell? ⟨w.heap.size+1+1,1,none⟩=some (.slice (some ⟨g2,0,none⟩) cs.length c2)∧w'.cell? ⟨w.heap.size,0,none⟩=some (.int .i64 (N:Int))∧w'.cell? ⟨g2,j,none⟩=some (.string T)) wr.drew from ⟨k1,q0,y0⟩)
       refine headK_take (i:=0) (v:=?_) rfl (by kernel_rfl) (fun _ _ _ h=>h) (fun _ _ _ h=>passed_ready h.1) (Or.inl ⟨by rfl,?hy1⟩) ⟨fun _=>hS0,trivial⟩ ?rest1
       case hy1=>intro w _;go_simp;try (with_reducible rfl)
       case rest1=>
       try simp only [pZa,pZb,pZc,pZd]
       refine headK_load 0 17 _ rfl (i:=1) (v:=?_) rfl (by kernel_rfl) (fun _ _ _ h=>h) (fun _ _ _ h=>passed_ready h.1) (Or.inl ⟨by rfl,?hy2⟩) ⟨fun _=>hS0,trivial⟩ ?rest2
       case hy2=>intro w hSw;(try dsimp only at hSw);obtain⟨hc0,hc1,hc2⟩:=hSw;go_simp;try (with_reducible rfl)
       case rest2=>
       try simp only [pZa,pZb,pZc,pZd]
       refine headK_take (i:=2) (v:=?_) rfl (by kernel_rfl) (fun _ _ _ h=>h) (fun _ _ _ h=>passed_ready h.1) (Or.inl ⟨by rfl,?hy3⟩) ⟨fun _=>hS0,trivial⟩ ?rest3
       case hy3=>intro w _;go_simp;try (with_reducible rfl)
       case rest3=>
       try simp only [pZa,pZb,pZc,pZd]
       refine headK_take (i:=3) (v:=?_) rfl (by kernel_rfl) (fun _ _ _ h=>h) (fun _ _ _ h=>passed_ready h.1) (Or.inl ⟨by rfl,?hy4⟩) ⟨fun _=>hS0,trivial⟩ ?rest4
       case hy4=>intro w _;go_simp;try (with_reducible rfl)
       case rest4=>
       try simp only [pZa,pZb,pZc,pZd]
       refine headK_load 0 17 _ rfl (i:=4) (v:=?_) rfl (by kernel_rfl) (fun _ _ _ h=>h) (fun _ _ _ h=>passed_ready h.1) (Or.inl ⟨by rfl,?hy5⟩) ⟨fun _=>hS0,trivial⟩ ?rest5
       case hy5=>intro w hSw;(try dsimp only at hSw);obtain⟨hc0,hc1,hc2⟩:=hSw;go_simp;try (with_reducible rfl)
       case rest5=>
       try simp only [pZa,pZb,pZc,pZd]
       refine headK_take (i:=5) (v:=?_) rfl (by kernel_rfl) (fun _ _ _ h=>h) (fun _ _ _ h=>passed_ready h.1) (Or.inl ⟨by rfl,?hy6⟩) ⟨fun _=>hS0,trivial⟩ ?rest6
       case hy6=>intro w _;go_simp;try (with_reducible rfl)
       case rest6=>
       try simp only [pZa,pZb,pZc,pZd]
       refine headK_take (i:=6) (v:=?_) rfl (by kernel_rfl) (fun _ _ _ h=>h) (fun _ _ _ h=>passed_ready h.1) (Or.inl ⟨by rfl,?hy7⟩) ⟨fun _=>hS0,trivial⟩ ?rest7
       case hy7=>intro w _;go_simp;try (with_reducible rfl)
       case rest7=>
       try simp only [pZa,pZb,pZc,pZd]
       refine headK_load 0 17 _ rfl (i:=7) (v:=?_) rfl (by kernel_rfl) (fun _ _ _ h=>h) (fun _ _ _ h=>passed_ready h.1) (Or.inl ⟨by rfl,?hy8⟩) ⟨fun _=>hS0,trivial⟩ ?rest8
       case hy8=>intro w hSw;(try dsimp only at hSw);obtain⟨hc0,hc1,hc2⟩:=hSw;go_simp;try (with_reducible rfl)
       case rest8=>
       try simp only [pZa,pZb,pZc,pZd]
       refine headK_take (i:=8) (v:=?_) rfl (by kernel_rfl) (fun _ _ _ h=>h) (fun _ _ _ h=>passed_ready h.1) (Or.inl ⟨by rfl,?hy9⟩) ⟨fun _=>hS0,trivial⟩ ?rest9
       case hy9=>intro w _;go_simp;try (with_reducible rfl)
       case rest9=>
       try simp only [pZa,pZb,pZc,pZd]
       refine headK_take (i:=9) (v:=?_) rfl (by kernel_rfl) (fun _ _ _ h=>h) (fun _ _ _ h=>passed_ready h.1) (Or.inl ⟨by rfl,?hy10⟩) ⟨fun _=>hS0,trivial⟩ ?rest10
       case hy10=>intro w _;go_simp;try (with_reducible rfl)
       case rest10=>
       try simp only [pZa,pZb,pZc,pZd]
       refine headK_load 0 17 _ rfl (i:=10) (v:=?_) rfl (by kernel_rfl) (fun _ _ _ h=>h) (fun _ _ _ h=>passed_ready h.1) (Or.inl ⟨by rfl,?hy11⟩) ⟨fun _=>hS0,trivial⟩ ?rest11
       case hy11=>intro w hSw;(try dsimp only at hSw);obtain⟨hc0,hc1,hc2⟩:=hSw;go_simp;try (with_reducible rfl)
       case rest11=>
       try simp only [pZa,pZb,pZc,pZd]
       refine headK_take (i:=11) (v:=?_) rfl (by kernel_rfl) (fun _ _ _ h=>h) (fun _ _ _ h=>passed_ready h.1) (Or.inl ⟨by rfl,?hy12⟩) ⟨fun _=>hS0,trivial⟩ ?rest12
       case hy12=>intro w _;go_simp;try (with_reducible rfl)
       case rest12=>
       try simp only [pZa,pZb,pZc,pZd]
       refine headK_one (i:=12) (by kernel_rfl) rfl (fun K hK=>?_)
       go_simp
       go_at_call 102
       refine (HBy.out _ (LN.out.below ((Below.refl _ _).drew))).mono ?_
       rintro e1 x1 ⟨rfl,hb⟩
       have HC:=hZ (bd_drew hb)
       have hx1:wr.heap.size≤x1.heap.size:=hb.size
       have k1':=(hb.cell (p:=⟨w.heap.size+1+1,1,none⟩) hkw).trans k1
       have q0':=(hb.cell (p:=⟨w.heap.size,0,none⟩) hqw).trans q0
       have y0':=(hb.cell (p:=⟨g2,j,none⟩) hg2w).trans y0
       have yf0':=(hb.frozen (p:=⟨g2,j,none⟩) hg2w).trans yf0
       have cv':=HCv.out x1
       have hgx:g2<x1.heap.size:=by omega
       have hkx:w.heap.size+1+1<x1.heap.size:=by omega
       have hqx:w.heap.size<x1.heap.size:=by omega
       have alx:Below x1.heap.size x1 (x1.alloc (.cells #[.int .u8 (V:Int)] 5)):=(Below.refl _ _).alloc (Nat.le_refl _) _
       have y2:=(alx.cell (p:=⟨g2,j,none⟩) hgx).trans y0'
       have yf2:=(alx.frozen (p:=⟨g2,j,none⟩) hgx).trans yf0'
       have k2:=(alx.cell (p:=⟨w.heap.size+1+1,1,none⟩) hkx).trans k1'
       have q2:=(alx.cell (p:=⟨w.heap.size,0,none⟩) hqx).trans q0'
       have HAx:=hZ alx
       clear hb alx
       have hS0:=(show (fun w':World=>w'.cell? ⟨w.heap.size+1+1,1,none⟩=some (.slice (some ⟨g2,0,none⟩) cs.length c2)∧w'.cell? ⟨w.heap.size,0,none⟩=some (.int .i64 (N:Int))∧w'.cell? ⟨g2,j,none⟩=some (.string T)) x1 from ⟨k1',q0',y0'⟩)
       refine hK.out _ _ ⟨fun _=>hS0,trivial⟩ ?_
       clear hK K
       try simp only [pZa,pZb,pZc,pZd]
       refine headK_one (i:=13) (by kernel_rfl) rfl (fun K hK=>?_)
       go_simp
       have hS0:=(show (fun w':World=>w'.cell? ⟨w.heap.size+1+1,1,none⟩=some (.slice (some ⟨g2,0,none⟩) cs.length c2)∧w'.cell? ⟨w.heap.size,0,none⟩=some (.int .i64 (N:Int))∧w'.cell? ⟨g2,j,none⟩=some (.string T)) (x1.alloc (.cells #[.int .u8 (V:Int)] 5)) from ⟨k2,q2,y2⟩)
       refine hK.out _ _ ⟨fun _=>hS0,trivial⟩ ?_
       clear hK K
       try simp only [pZa,pZb,pZc,pZd]
       refine headK_one (i:=14) (by kernel_rfl) rfl (fun K hK=>?_)
       go_simp
       have hS0:=(show (fun w':World=>w'.cell? ⟨w.heap.size+1+1,1,none⟩=some (.slice (some ⟨g2,0,none⟩) cs.length c2)∧w'.cell? ⟨w.heap.size,0,none⟩=some (.int .i64 (N:Int))∧w'.cell? ⟨g2,j,none⟩=some (.string T)) (x1.alloc (.cells #[.int .u8 (V:Int)] 5)) from ⟨k2,q2,y2⟩)
       refine hK.out _ _ ⟨fun _=>hS0,trivial⟩ ?_
       clear hK K
       try simp only [pZa,pZb,pZc,pZd]
       refine headK_one (i:=15) (by kernel_rfl) rfl (fun K hK=>?_)
       go_simp
       have hS0:=(show (fun w':World=>w'.cell? ⟨w.heap.size+1+1,1,none⟩=some (.slice (some ⟨g2,0,none⟩) cs.length c2)∧w'.cell? ⟨w.heap.size,0,none⟩=some (.int .i64 (N:Int))∧w'.cell? ⟨g2,j,none⟩=some (.string T)) (x1.alloc (.cells #[.int .u8 (V:Int)] 5)) from ⟨k2,q2,y2⟩)
       refine hK.out _ _ ⟨fun _=>hS0,trivial⟩ ?_
       clear hK K
       try simp only [pZa,pZb,pZc,pZd]
       refine headK_take (i:=16) (v:=?_) rfl (by kernel_rfl) (fun _ _ _ h=>h) (fun _ _ _ h=>passed_ready h.1) (Or.inl ⟨by rfl,?hy13⟩) ⟨fun _=>hS0,trivial⟩ ?rest13
       case hy13=>intro w _;go_simp;try (with_reducible rfl)
       case rest13=>
       try simp only [pZa,pZb,pZc,pZd]
       refine headK_one (i:=17) (by kernel_rfl) rfl (fun K hK=>?_)
       go_simp
       refine hK.out _ _ ⟨nZ,trivial⟩ ?_
       clear hK K
       try simp only [pZa,pZb,pZc,pZd]
       refine⟨by kernel_rfl,?_⟩
       refine wpAny_done (by kernel_rfl) ?_ _
       go_wp2_with fail
       all_goals
        have alz:Below (x1.setCell ⟨g2,j,none⟩ (.string (T++E1))).heap.size (x1.setCell ⟨g2,j,none⟩ (.string (T++E1))) ((x1.setCell ⟨g2,j,none⟩ (.string (T++E1))).alloc (.cells #[.int .u8 (V:Int)] 5)):=(Below.refl _ _).alloc (Nat.le_refl _) _
        have LK1:=hZ (LK.out.keep HC.out)
        have L11:=hZ (own_keep L1.out HC.out)
        have L21:=hZ (own_keep L2.out HC.out)
        have LG1:=hZ (gk_trans LG.out (gk_below HC.out))
        have LN1:=hZ (((LN.out.below HC.out).set y0' (.string (T++E1))).below alz)
        have RK:=hZ ((LK1.out.far (p:=⟨g2,j,none⟩) n1 (.string (T++E1))).keep alz)
        have RG:=hZ (gk_trans (gk_new LG1.out (gk_set _ g2 j (.string (T++E1))) (fun b e=>by injection e with e;omega)) (gk_below alz))
        obtain⟨cur2,hcur2⟩:=(own_blk L21.out g2 rfl).2
        have R1:=hZ (own_keep (own_far L11.out hcur2 (by decide) j (.string (T++E1))) alz)
        have R2:=hZ (show World.ownsRow _ w3.heap.size 9 1 (.slice (some ⟨g2,0,none⟩) cs.length c2) cs.length ((txU N a VV (j+1)).map Value.string) by
         have:=own_keep (L21.out.stored j (.string (T++E1))).1 alz
         rw [HNx.out,List.map_set]
         exact this)
        clear alz
        clear hcur2 LK1 L11 L21 LG1 LK L1 L2 LG LN HC HAx k0 k1 kf0 kf1 q0 q1 k1' k2 q0' y0' y2 yf0' yf2 y0 yf0
        go_wp2_with fail
        go_roundw
        case rel=>exact⟨j+1,by omega,by go_num,RK,R1,R2,RG,LN1⟩
        case measure=>simp [intOf];omega
      ·obtain rfl:j=cs.length:=by omega
       have hjl':¬ (cs.length:Int)<(cs.length:Int):=by omega
       have L2':=hZ (show wr.ownsRow w3.heap.size 9 1 (.slice B2 cs.length c2) cs.length ((txA N (a+1) VV).map Value.string) by
        have:=L2.out
        rw [← HVl.out,txU_all] at this
        rw [← HVl.out];exact this)
       go_wp2_with fail
       go_roundw
       case rel=>exact⟨a+1,by omega,by go_num,LK,L1,L2',LG⟩
       case measure=>simp [intOf];omega
    ·obtain rfl:a=n:=by omega
     have hal':¬ (a:Int)<(a:Int):=by omega
     have JR:=hZ (gk_box R3.out JG.out (by omega))
     obtain⟨r0,r1,rf0,rf1⟩:=JR.out.two
     have hKn:=known_of HZl.out HT.out HVV.out
     have hjk:w.heap.size+1<wr.heap.size:=JR.out.lt
     have J1':=own_far (own_far J1.out JR.out (by decide) 0 (.slice B1 cs.length c1)) (JR.out.put 0 (.slice B1 cs.length c1)) (by decide) 1 (.slice B2 cs.length c2)
     have J2':=own_far (own_far J2.out JR.out (by decide) 0 (.slice B1 cs.length c1)) (JR.out.put 0 (.slice B1 cs.length c1)) (by decide) 1 (.slice B2 cs.length c2)
     have hi1:=own_ints (zs:=cs.map fun x:Nat=>(x:Int)) (by rw [List.map_map];exact J1') (num_bdP cs (fun j hj=>by have:=((HT.out.2 _).1 (getD_mem hj)).1;omega))
     have hlen:(txA N a VV).length=cs.length:=by rw [txA_len,HVl.out]
     have hi2:=own_texts5 (ss:=txA N a VV) (by rw [hlen];exact J2') (fun s hs=>by
      obtain⟨v,-,rfl⟩:=List.mem_map.1 hs
      simp [ByteArray.size,byL_len,maxLen];omega)
     have HI1:=hZ hi1
     have HI2:=hZ hi2
     have HKn:=hZ hKn
     have HLn:=hZ hlen
     have HBl:=hZ ((JB.out.setCell (p:=⟨w.heap.size+1,0,none⟩) (by simp) (.slice B1 cs.length c1)).setCell (p:=⟨w.heap.size+1,1,none⟩) (by simp) (.slice B2 cs.length c2))
     clear hi1 hi2 hKn hlen J1' J2'
     go_wp2_with fail
     refine close_one Tryz.results63 rfl rfl JR.out.put2 Tryz.underlying108 rfl (by kernel_rfl) ⟨cs,txA N a VV,B1,B2,c1,c2,by rw [HLn.out],HI1.out,HI2.out,HKn.out,hcl,HBl.out⟩
end
section
/- Layer 18: solve.Progress, solve.Solve, and the reference's Solve. -/
open Go.RowKit
set_option maxRecDepth 100000
def SumsOut (l:Nat) (ss:List ByteArray) (w:World) (e:Ending) (w':World):Prop:=∃ A c,e=.returned (.tuple #[.slice A l c,.int .i64 0])∧Texts w' A l ss∧l≤c∧c≤maxLen∧Below w.heap.size w w'
def SumsOne (l:Nat) (ss:List ByteArray) (w:World) (e:Ending) (w':World):Prop:=∃ A c,e=.returned (.slice A l c)∧Texts w' A l ss∧l≤c∧c≤maxLen∧Below w.heap.size w w'
set_option maxHeartbeats 4000000 in
theorem sumsX_yes (k s c:Int) (A:Option Addr) (l d:Nat) (xs:List SymR) (w:World) (hx:Syms w A l xs) (hl:l≤d) (hd:d≤maxLen) (hs:storeB k s c xs=true) :
  Calls Tryz.prog 118 #[.agg #[.int .i64 k,.int .i64 s,.int .i64 c,.slice A l d]] w (SumsOut l (dtL xs) w):=by
 obtain⟨hk,-,hc,hlc⟩:=storeB_bd hs
 obtain⟨i0,hi,hz0,hz1,hz2⟩:=info_parts string_info
 have HI:=hZ hi
 have HZ0:=hZ hz0
 have HZ1:=hZ hz1
 have HZ2:=hZ hz2
 have b1:Below w.heap.size w (w.alloc (.cells #[.int .i64 k,.int .i64 s,.int .i64 c,.slice A l d] 25)):=(Below.refl _ _).alloc (Nat.le_refl _) _
 have Q:=hZ (Box.new w 25 #[.int .i64 k,.int .i64 s,.int .i64 c,.slice A l d])
 have HB:=hZ b1
 have HXl:=hZ hx.1
 have HLE:=hZ (dtL_le hs)
 have hl64:l≤64:=by have:=hx.1;omega
 have HX:=hZ (hx.below b1)
 have HR:=hZ (eright_any k s c A l d xs _ (hx.below b1) hl hd)
 rw [hs] at HR
 obtain⟨r0,r1,r2,r3,-,-,-,-⟩:=Q.out.four
 clear hx b1 hs hi hz0 hz1 hz2
 go_enter Tryz.func118,Tryz.ntmps118
 go_wp2_with fail
 refine HR.out.mono ?_
 rintro e w1 ⟨rfl,hb⟩
 replace HB:=hZ (chain HB.out hb)
 replace Q:=hZ (Q.out.keep hb)
 replace HX:=hZ (HX.out.below hb)
 clear hb r0 r1 r2 r3 HR
 obtain⟨r0,r1,r2,r3,-,-,-,-⟩:=Q.out.four
 go_wp2_with fail
 clear r0 r1 r2 r3
 go_loopw [4,13] (fun v t wr=>∃ i:Nat,i≤l∧t=.int .i64 i∧wr.ownsRow w1.heap.size 9 1 v i ((dtL (xs.take i)).map Value.string)∧Below w1.heap.size w1 wr) (fun _ t _=>l-(intOf t).toNat)
 case atStart=>exact⟨0,Nat.zero_le _,rfl,World.ownsRow_nil _ _ _ _,Below.refl _ _⟩
 case round=>
  obtain⟨i,hi,rfl,hown,hbel⟩:=hrel
  have HO:=hZ hown
  have HC:=hZ hbel
  clear hown hbel
  by_cases hlt:i<l
  ·have hlt':(i:Int)<(l:Int):=Int.ofNat_lt.2 hlt
   obtain⟨b,off,rfl,hb,x0,x1⟩:=Syms.two HX.out i hlt
   have x0:=(HC.out.cell (p:=⟨b,off+i*2,none⟩) hb).trans x0
   have x1:=(HC.out.cell (p:=⟨b,off+i*2+1,none⟩) hb).trans x1
   have HS:=hZ (dtL_snoc xs i (by rw [HXl.out];exact hlt))
   generalize xs.getD i default=p at *
   obtain⟨p0,p1⟩:=p
   dsimp only at x0 x1 HS
   have G:=hZ (Box.new wr 29 #[.int .u64 (p0:Nat),.string p1])
   have c1:=hZ (show Below wr.heap.size wr (wr.alloc (.cells #[.int .u64 (p0:Nat),.string p1] 29)) from (Below.refl _ _).alloc (Nat.le_refl _) _)
   have c2:=hZ (show Below wr.heap.size wr ((wr.alloc (.cells #[.int .u64 (p0:Nat),.string p1] 29)).alloc (.cells #[.string p1] 9)) from c1.out.alloc c1.out.size _)
   have XO:=hZ (own_keep HO.out c2.out)
   have XB:=hZ (HC.out.trans (c2.out.mono HC.out.size))
   have N2:=hZ (fun g hg=>(HO.out.lt g hg).1)
   have NW:=hZ (show ∀ j u,([Value.string p1])[j]?=some u→((wr.alloc (.cells #[.int .u64 (p0:Nat),.string p1] 29)).alloc (.cells #[.string p1] 9)).cell? ((⟨wr.heap.size+1,0,none⟩:Addr).add j)=some u from by
    have:=World.news_of_block (Box.new (wr.alloc (.cells #[.int .u64 (p0:Nat),.string p1] 29)) 9 #[.string p1])
    rw [World.size_alloc] at this
    exact this)
   obtain⟨g0,g1,-,-⟩:=G.out.two
   clear G c1
   go_wp2_with (at_builtin;refine wpList_append_own _ rfl _ _ 34 rfl w1.heap.size 9 i0 (.string ⟨#[]⟩) 1 16 Tryz.underlying34 HI.out HZ0.out HZ1.out HZ2.out rfl (by decide) _ _ _ rfl XO.out ⟨wr.heap.size+1,0,none⟩ 1 1 [.string p1] rfl rfl NW.out (by simp [Value.oneCell']) (by simp [maxLen];omega) (by omega) (XB.out.size) ?_;intro v' w2 hown' hgrow _;have HC2:=hZ (XB.out.grown hgrow XB.out.size N2.out);have HO2:=hZ hown';clear hown' hgrow)
   go_roundw
   case rel=>
    refine⟨i+1,hlt,by go_num,?_,HC2.out⟩
    rw [HS.out]
    exact HO2.out
   case measure=>simp [intOf]<;>omega
  ·obtain rfl:l=i:=by omega
   have hlt':¬ (l:Int)<(l:Int):=Int.lt_irrefl _
   have HTK:=hZ (show xs.take l=xs from List.take_of_length_le (by rw [HXl.out];exact Nat.le_refl _))
   rw [HTK.out] at HO
   obtain⟨A7,c7,hv,e1,e2,ht⟩:=own_texts HO.out HLE.out
   subst hv
   have HT:=hZ ht
   have BB:=hZ (chain HB.out HC.out)
   clear HO HTK HC ht
   go_wp2_with fail
   go_ret2
   exact⟨A7,c7,rfl,HT.out,e1,e2,BB.out⟩
set_option maxHeartbeats 4000000 in
theorem refSumsX_any (k s c:Int) (A:Option Addr) (l d:Nat) (xs:List SymR) (w:World) (hx:Syms w A l xs) (hl:l≤d) (hd:d≤maxLen) (hs:storeB k s c xs=true) :
  Calls Tryz.prog 61 #[.agg #[.int .i64 k,.int .i64 s,.int .i64 c,.slice A l d]] w (SumsOne l (dtL xs) w):=by
 obtain⟨hk,-,hc,hlc⟩:=storeB_bd hs
 obtain⟨i0,hi,hz0,hz1,hz2⟩:=info_parts string_info
 have HI:=hZ hi
 have HZ0:=hZ hz0
 have HZ1:=hZ hz1
 have HZ2:=hZ hz2
 have b1:Below w.heap.size w (w.alloc (.cells #[.int .i64 k,.int .i64 s,.int .i64 c,.slice A l d] 25)):=(Below.refl _ _).alloc (Nat.le_refl _) _
 have Q:=hZ ((Box.new w 25 #[.int .i64 k,.int .i64 s,.int .i64 c,.slice A l d]).alloc (.cells #[] 9))
 have HO0:=hZ (own_empty1 (w.alloc (.cells #[.int .i64 k,.int .i64 s,.int .i64 c,.slice A l d] 25)) w.heap.size 9 (by simp))
 have HB:=hZ (b1.alloc b1.size (.cells #[] 9))
 have HXl:=hZ hx.1
 have HLE:=hZ (dtL_le hs)
 have hl64:l≤64:=by have:=hx.1;omega
 have HX0:=hZ hx
 have HX:=hZ (hx.below (b1.alloc b1.size (.cells #[] 9)))
 simp only [World.size_alloc] at HO0
 obtain⟨r0,r1,r2,r3,-,-,-,-⟩:=Q.out.four
 clear hx b1 hs hi hz0 hz1 hz2
 go_enter Tryz.func61,Tryz.ntmps61
 go_wp2_with fail
 clear r0 r1 r2 r3
 go_loopw [3,10] (fun v t wr=>∃ i:Nat,i≤l∧t=.int .i64 i∧wr.ownsRow w.heap.size 9 1 v i ((dtL (xs.take i)).map Value.string)∧Below w.heap.size w wr) (fun _ t _=>l-(intOf t).toNat)
 case atStart=>exact⟨0,Nat.zero_le _,rfl,HO0.out,HB.out⟩
 case round=>
  obtain⟨i,hi,rfl,hown,hbel⟩:=hrel
  have HO:=hZ hown
  have HC:=hZ hbel
  clear hown hbel
  by_cases hlt:i<l
  ·have hlt':(i:Int)<(l:Int):=Int.ofNat_lt.2 hlt
   obtain⟨b,off,rfl,hb,x0,x1⟩:=Syms.two HX0.out i hlt
   have x0:=(HC.out.cell (p:=⟨b,off+i*2,none⟩) hb).trans x0
   have x1:=(HC.out.cell (p:=⟨b,off+i*2+1,none⟩) hb).trans x1
   have HS:=hZ (dtL_snoc xs i (by rw [HXl.out];exact hlt))
   generalize xs.getD i default=p at *
   obtain⟨p0,p1⟩:=p
   dsimp only at x0 x1 HS
   have G:=hZ (Box.new wr 29 #[.int .u64 (p0:Nat),.string p1])
   have c1:=hZ (show Below wr.heap.size wr (wr.alloc (.cells #[.int .u64 (p0:Nat),.string p1] 29)) from (Below.refl _ _).alloc (Nat.le_refl _) _)
   have c2:=hZ (show Below wr.heap.size wr ((wr.alloc (.cells #[.int .u64 (p0:Nat),.string p1] 29)).alloc (.cells #[.string p1] 9)) from c1.out.alloc c1.out.size _)
   have XO:=hZ (own_keep HO.out c2.out)
   have XB:=hZ (HC.out.trans (c2.out.mono HC.out.size))
   have N2:=hZ (fun g hg=>(HO.out.lt g hg).1)
   have NW:=hZ (show ∀ j u,([Value.string p1])[j]?=some u→((wr.alloc (.cells #[.int .u64 (p0:Nat),.string p1] 29)).alloc (.cells #[.string p1] 9)).cell? ((⟨wr.heap.size+1,0,none⟩:Addr).add j)=some u from by
    have:=World.news_of_block (Box.new (wr.alloc (.cells #[.int .u64 (p0:Nat),.string p1] 29)) 9 #[.string p1])
    rw [World.size_alloc] at this
    exact this)
   obtain⟨g0,g1,-,-⟩:=G.out.two
   clear G c1
   go_wp2_with (at_builtin;refine wpList_append_own _ rfl _ _ 34 rfl w.heap.size 9 i0 (.string ⟨#[]⟩) 1 16 Tryz.underlying34 HI.out HZ0.out HZ1.out HZ2.out rfl (by decide) _ _ _ rfl XO.out ⟨wr.heap.size+1,0,none⟩ 1 1 [.string p1] rfl rfl NW.out (by simp [Value.oneCell']) (by simp [maxLen];omega) (by omega) (XB.out.size) ?_;intro v' w2 hown' hgrow _;have HC2:=hZ (XB.out.grown hgrow XB.out.size N2.out);have HO2:=hZ hown';clear hown' hgrow)
   go_roundw
   case rel=>
    refine⟨i+1,hlt,by go_num,?_,HC2.out⟩
    rw [HS.out]
    exact HO2.out
   case measure=>simp [intOf]<;>omega
  ·obtain rfl:l=i:=by omega
   have hlt':¬ (l:Int)<(l:Int):=Int.lt_irrefl _
   have HTK:=hZ (show xs.take l=xs from List.take_of_length_le (by rw [HXl.out];exact Nat.le_refl _))
   rw [HTK.out] at HO
   obtain⟨A7,c7,hv,e1,e2,ht⟩:=own_texts HO.out HLE.out
   subst hv
   have HT:=hZ ht
   have HC9:=HC
   clear HO HTK HC ht
   go_wp2_with fail
   go_ret
   exact⟨A7,c7,rfl,HT.out,e1,e2,HC9.out⟩
theorem dtL_size {k s c:Int} {xs:List SymR} (h:storeB k s c xs=true):∀ t∈dtL xs,(t.size:Int)=s:=fun t ht=>by
 unfold storeB at h
 simp only [Bool.and_eq_true] at h
 have h2:=h.1.2
 unfold allB at h2
 rw [List.all_eq_true] at h2
 obtain⟨x,hx,rfl⟩:=List.mem_map.1 ht
 simpa using h2 x hx
theorem rightM_mkO {N:Nat} {L:List Nat} (hN:N≤64) (hl:L.length≤64) (hL:∀ r∈L,r<2 ^ N):rightM N (mkM N L)=true:=
 rightM_of hN (by rw [mkM_len];exact hl) fun i hi=>by
  rw [mkM_len] at hi
  rw [mkM_at N L i hi]
  exact⟨rfl,rowOf_right N _ (by omega) (hL _ (getD_mem hi))⟩
theorem store_bk {k s:Nat} {c:Int} {xs:List SymR} {A S:Option Addr} {cA cS base:Nat} {w:World} (h:storeB (k:Int) (s:Int) c xs=true) (hm:MatW w base k (.slice A xs.length cA) ((idN xs).map (nbRow k))) (hs:SliceOk A xs.length cA) (ht:Texts w S xs.length (dtL xs)) (h1:xs.length≤cS) (h2:cS≤maxLen):BkIn w k s (rowsN k xs) (dtL xs) A S xs.length cA cS:=by
 obtain⟨hk,hz,hc,hlc⟩:=storeB_bd h
 have k1:1≤k:=by omega
 have k2:k≤64:=by omega
 have hl:(rowsN k xs).length=xs.length:=rowsN_len k xs
 obtain⟨A',c',e,hM⟩:=MatW.mat k1 k2 hm
 injection e with e1 e2 e3
 subst e1
 have hX:=rowsN_lt k xs k1 k2
 exact { hN:=k2,hn:=by omega,hX:=hX,hXm:=hl,hm64:=by omega,hss:=fun t ht=>by have:=dtL_size h t ht;omega,hsl:=hs,hm:=by rw [hl] at hM;exact hM.low (Nat.zero_le _),hr:=rightM_mkO k2 (by rw [hl];omega) hX,ht:=ht,hmd:=h1,hd:=h2 }
theorem own_slO {w:World} {base size n c:Nat} {A:Option Addr} {e:TypeId} {xs:List Value} (h:w.ownsRow base e size (.slice A n c) n xs):SliceOk A n c:=by
 rcases h.2 with ⟨hv,h0⟩ |⟨g,cap,cur,hv,h1,h2,h3,h4,h5⟩
 ·injection hv with ha hn hc
  subst ha hn hc
  exact⟨Nat.le_refl _,Nat.zero_le _,fun _=>⟨rfl,rfl⟩⟩
 ·injection hv with ha hn hc
  subst ha hc
  exact⟨h3,h4,fun e=>by cases e⟩
theorem MatW.sl {w:World} {base n c:Nat} {k:Int} {A:Option Addr} {ls:List (List Nat)} (h:MatW w base k (.slice A n c) ls) (hn:ls.length=n):SliceOk A n c:=by
 obtain⟨rs,-,h2,-⟩:=h
 rw [hn] at h2
 exact own_slO h2
theorem idn_len (k:Nat) (xs:List SymR):((idN xs).map (nbRow k)).length=xs.length:=by rw [List.length_map,idN_len]
def SolveOut (p:Int×List ByteArray) (w:World) (e:Ending) (w':World):Prop:=∃ B c,e=.returned (.tuple #[.slice B p.2.length c,.int .i64 p.1])∧Texts w' B p.2.length p.2∧p.2.length≤64∧p.2.length≤c∧c≤maxLen∧(¬ p.1=0→p.2=[])∧Below w.heap.size w w'
def SolveOne (p:Int×List ByteArray) (w:World) (e:Ending) (w':World):Prop:=∃ B c,e=.returned (.agg #[.slice B p.2.length c,.int .i64 p.1])∧Texts w' B p.2.length p.2∧Below w.heap.size w w'
set_option maxHeartbeats 4000000 in
theorem sprog_yes (k:Nat) (s c:Int) (A:Option Addr) (l d:Nat) (xs:List SymR) (w:World) (hx:Syms w A l xs) (hl:l≤d) (hd:d≤maxLen) (hs:storeB k s c xs=true) (hid:Ids xs) :
  Calls Tryz.prog 92 #[.agg #[.int .i64 k,.int .i64 s,.int .i64 c,.slice A l d]] w fun e w'=>e=.returned (.tuple #[.int .i64 (rankF (k:Int) xs:Int),.int .i64 0])∧Below w.heap.size w w':=by
 have b1:Below w.heap.size w (w.alloc (.cells #[.int .i64 k,.int .i64 s,.int .i64 c,.slice A l d] 25)):=(Below.refl _ _).alloc (Nat.le_refl _) _
 have HR:=hZ (erank_yes k s c A l d xs _ (Recs.below hx b1) hl hd hs hid)
 have HB:=hZ b1
 obtain⟨r0,r1,r2,r3,-,-,-,-⟩:=(Box.new w 25 #[.int .i64 k,.int .i64 s,.int .i64 c,.slice A l d]).four
 clear hx b1 hs
 go_enter Tryz.func92,Tryz.ntmps92
 go_wp2_with fail
 refine HR.out.mono ?_
 rintro e w1 ⟨n,rfl,hn,hb⟩
 have HE:=hZ (rankF_eq hn)
 replace HB:=hZ (chain HB.out hb)
 clear hb r0 r1 r2 r3 hn HR
 go_wp2_with fail
 go_ret2
 exact⟨by rw [HE.out];rfl,HB.out⟩
set_option maxHeartbeats 8000000 in
theorem ssolve_yes (k s:Nat) (c:Int) (A:Option Addr) (l d:Nat) (xs:List SymR) (w:World) (hx:Syms w A l xs) (hl:l≤d) (hd:d≤maxLen) (hs:storeB (k:Int) (s:Int) c xs=true) (hid:Ids xs) :
  Calls Tryz.prog 93 #[.agg #[.int .i64 (k:Int),.int .i64 (s:Int),.int .i64 c,.slice A l d]] w (SolveOut (solveF (k:Int) (s:Int) xs) w):=by
 obtain rfl:xs.length=l:=hx.1
 have b1:Below w.heap.size w (w.alloc (.cells #[.int .i64 (k:Int),.int .i64 (s:Int),.int .i64 c,.slice A xs.length d] 25)):=(Below.refl _ _).alloc (Nat.le_refl _) _
 have HR:=hZ (erows_yes k s c A xs.length d xs _ (Recs.below hx b1) hl hd hs hid)
 have HU:=hZ (fun wy (hw:Below w.heap.size w wy)=>sumsX_yes k s c A xs.length d xs wy (Recs.below hx hw) hl hd hs)
 have HK:=hZ (fun (A' S:Option Addr) (cA cS base:Nat) (w':World) hm ht h1 h2=>store_bk (A:=A') (S:=S) (cA:=cA) (cS:=cS) (base:=base) (w:=w') hs hm (hm.sl (idn_len k xs)) ht h1 h2)
 have HB:=hZ b1
 have Q:=hZ (Box.new w 25 #[.int .i64 (k:Int),.int .i64 (s:Int),.int .i64 c,.slice A xs.length d])
 have HF:=hZ (fun (E:Int) (b:List ByteArray) (h:SvRes k s (rowsN k xs) (zs k (rowsN k xs) (dtL xs)) E b)=>solveF_eq h)
 have HNil:=hZ (fun (E:Int) (b:List ByteArray) (h:SvRes k s (rowsN k xs) (zs k (rowsN k xs) (dtL xs)) E b)=>sv_nil h)
 obtain⟨l,hll⟩:∃ l,l=xs.length:=⟨_,rfl⟩
 have HLl:=hZ hll
 obtain⟨r0,r1,r2,r3,-,-,-,-⟩:=Q.out.four
 clear hx b1 hs hll hl
 go_enter Tryz.func93,Tryz.ntmps93
 go_wp2_with fail
 refine HR.out.mono ?_
 rintro e w1 ⟨A1,c1,b0,rfl,hm,hb⟩
 have b2:Below w1.heap.size w1 (w1.alloc (.cells #[.int .i64 (k:Int),.slice A1 xs.length c1] 102)):=(Below.refl _ _).alloc (Nat.le_refl _) _
 have hbb:=chain hb b2
 have HM:=hZ (hm.below b2)
 have QM:=hZ (Box.new w1 102 #[.int .i64 (k:Int),.slice A1 xs.length c1])
 have Q2:=hZ (Q.out.keep hbb)
 have HB2:=hZ (chain HB.out hbb)
 clear hb b2 hbb hm r0 r1 r2 r3 HR HB Q
 obtain⟨gm,hgm⟩:∃ g,g=w1.heap.size:=⟨_,rfl⟩
 obtain⟨w2,hw2⟩:∃ y,y=w1.alloc (.cells #[.int .i64 (k:Int),.slice A1 xs.length c1] 102):=⟨_,rfl⟩
 rw [← hgm] at QM
 rw [← hw2] at HM QM Q2 HB2
 go_upto_region 2 with (fail)
 rw [← hgm,← hw2]
 clear hgm hw2
 obtain⟨r0,r1,r2,r3,-,-,-,-⟩:=Q2.out.four
 have HUw:=hZ (HU.out _ HB2.out)
 go_wp2_with fail
 refine HUw.out.mono ?_
 rintro e w3 ⟨S,cS,rfl,ht,h1,h2,hb⟩
 have HM3:=hZ (HM.out.below hb)
 have HB3:=hZ (chain HB2.out hb)
 have Q3:=hZ (Q2.out.keep hb)
 have QM3:=hZ (QM.out.keep hb)
 have HSv:=hZ (solve_yes w3 (HK.out A1 S c1 cS b0 w3 HM3.out ht h1 h2))
 clear hb ht h1 h2 r0 r1 r2 r3 HUw HM QM Q2 HB2 HU HK
 obtain⟨r0,r1,r2,r3,-,-,-,-⟩:=Q3.out.four
 obtain⟨m0,m1,-,-⟩:=QM3.out.two
 go_wp2_with fail
 refine HSv.out.mono ?_
 rintro e w4 ⟨E,blks,B,cB,rfl,hT,h64,hc1,hc2,hres,hb⟩
 have HE:=hZ (HF.out E blks hres)
 have HN:=hZ (HNil.out E blks hres)
 have HT:=hZ hT
 have HC:=hZ (And.intro h64 (And.intro hc1 hc2))
 have HB4:=hZ (chain HB3.out hb)
 clear hb hT h64 hc1 hc2 hres HSv r0 r1 r2 r3 m0 m1 HF HNil
 go_wp2_with fail
 go_ret2
 rw [HE.out]
 exact⟨B,cB,rfl,HT.out,HC.out.1,HC.out.2.1,HC.out.2.2,HN.out,HB4.out⟩
end
section
/- EquationsGrow, EquationsOrder: what they share. -/
open Go.RowKit
set_option maxRecDepth 100000
theorem storeB_grow {k s c:Int} {xs:List SymR} {x:SymR} (h:addE k s c xs x=0):storeB k s c (xs++[x])=true:=by
 obtain⟨h1,h2,h3,h4,-⟩:=addE_ok h
 have e1:allB s (xs++[x])=allB s xs:=by simp [allB,h2]
 have e2:twiceB (xs++[x])=twiceB xs:=by
  have h5:twiceB (xs++[x])=(twiceTo (xs++[x]) xs.length||hasI ((xs++[x]).take xs.length) ((xs++[x]).getD xs.length default).1):=by
   have:=twiceTo_snoc (xs++[x]) xs.length (by simp)
   have h6:twiceB (xs++[x])=twiceTo (xs++[x]) (xs.length+1):=by unfold twiceB twiceTo;rw [List.length_append];rfl
   rw [h6,this]
  have h7:(xs++[x]).take xs.length=xs:=by simp
  have h8:(xs++[x]).getD xs.length default=x:=by simp [List.getD]
  have h9:twiceTo (xs++[x]) xs.length=twiceB xs:=by
   unfold twiceTo twiceB
   rw [Bool.eq_iff_iff]
   simp only [List.any_eq_true,List.mem_range]
   constructor
   ·rintro ⟨i,hi,hh⟩
    refine⟨i,hi,?_⟩
    rw [List.take_append_of_le_length (by omega)] at hh
    simpa [List.getD,List.getElem?_append_left hi] using hh
   ·rintro ⟨i,hi,hh⟩
    refine⟨i,hi,?_⟩
    rw [List.take_append_of_le_length (by omega)]
    simpa [List.getD,List.getElem?_append_left hi] using hh
  rw [h5,h7,h8,h9,h3];simp
 unfold storeB at h1 ⊢
 simp only [Bool.and_eq_true,decide_eq_true_eq] at h1
 simp only [e1,e2,Bool.and_eq_true,decide_eq_true_eq,List.length_append,List.length_cons,List.length_nil]
 exact⟨⟨⟨h1.1.1.1,by omega⟩,h1.1.2⟩,h1.2⟩
end
section
/- Layer 18: what the methods of an object that may be tell. -/
open Go.RowKit Go.Lib
set_option maxRecDepth 100000
section
variable {w:World} {g:Nat} {t:TypeId} {cs:Array Value} {A:Option Addr} {l:Nat} {ss:List ByteArray}
theorem Texts.neO (h:Texts w A l ss) (hb:Box w g t cs) (hns:∀ (i:Nat) (s:ByteArray),cs[i]?≠some (.string s)):∀ b off,A=some ⟨b,off,none⟩→0<l→b≠g:=fun b off e hp he=>by
 obtain⟨b',off',e',-,hc⟩:=h.2.2 hp
 rw [e] at e'
 injection e' with e'
 injection e' with e1 e2
 subst e1 e2 he
 have h1:=hc 0 hp
 rw [hb.cell] at h1
 exact hns _ _ h1
theorem Texts.farN (h:Texts w A l ss) (hne:∀ b off,A=some ⟨b,off,none⟩→0<l→b≠g) (i:Nat) (u:Value):Texts (w.setCell ⟨g,i,none⟩ u) A l ss:=by
 refine⟨h.1,h.2.1,fun hp=>?_⟩
 obtain⟨b,off,rfl,hlt,hc⟩:=h.2.2 hp
 have hn:=hne b off rfl hp
 refine⟨b,off,rfl,by simpa [World.setCell] using hlt,fun j hj=>?_⟩
 rw [World.cell?_setCell_other _ _ _ _ (by intro e;injection e;omega)]
 exact hc j hj
theorem Texts.far9 {g2:Nat} (h:Texts w A l ss) (hn1:∀ b off,A=some ⟨b,off,none⟩→0<l→b≠g) (hn2:∀ b off,A=some ⟨b,off,none⟩→0<l→b≠g2) (a b c d e f x y z:Value):Texts (((((((((w.setCell ⟨g,0,none⟩ a).setCell ⟨g,1,none⟩ b).setCell ⟨g,2,none⟩ c).setCell ⟨g,3,none⟩ d).setCell ⟨g,4,none⟩ e).setCell ⟨g,5,none⟩ f).setCell ⟨g2,0,none⟩ x).setCell ⟨g2,1,none⟩ y).setCell ⟨g2,2,none⟩ z) A l ss:=
 ((((((((h.farN hn1 0 a).farN hn1 1 b).farN hn1 2 c).farN hn1 3 d).farN hn1 4 e).farN hn1 5 f).farN hn2 0 x).farN hn2 1 y).farN hn2 2 z
theorem Syms.neO {xs:List SymR} (h:Syms w A l xs) (hb:Box w g t cs) (hns:∀ (i:Nat) (s:ByteArray),cs[i]?≠some (.string s)):∀ b off,A=some ⟨b,off,none⟩→0<l→b≠g:=fun b off e hp he=>by
 obtain⟨b',off',e',-,-,h1⟩:=h.two 0 hp
 rw [e] at e'
 injection e' with e'
 injection e' with e1 e2
 subst e1 e2 he
 rw [hb.cell] at h1
 exact hns _ _ h1
theorem Syms.far9 {g2:Nat} {xs:List SymR} (h:Syms w A l xs) (hn1:∀ b off,A=some ⟨b,off,none⟩→0<l→b≠g) (hn2:∀ b off,A=some ⟨b,off,none⟩→0<l→b≠g2) (a b c d e f x y z:Value):Syms (((((((((w.setCell ⟨g,0,none⟩ a).setCell ⟨g,1,none⟩ b).setCell ⟨g,2,none⟩ c).setCell ⟨g,3,none⟩ d).setCell ⟨g,4,none⟩ e).setCell ⟨g,5,none⟩ f).setCell ⟨g2,0,none⟩ x).setCell ⟨g2,1,none⟩ y).setCell ⟨g2,2,none⟩ z) A l xs:=
 ((((((((Recs.farB h hn1 0 a).farB hn1 1 b).farB hn1 2 c).farB hn1 3 d).farB hn1 4 e).farB hn1 5 f).farB hn2 0 x).farB hn2 1 y).farB hn2 2 z
end
theorem oz_no (i:Nat) (s:ByteArray):oZ[i]?≠some (.string s):=by
 match i with
 | 0 | 1 | 2 | 3 | 4 | 5=>simp
 | n+6=>simp
theorem rz_no (i:Nat) (s:ByteArray):rZ[i]?≠some (.string s):=by
 match i with
 | 0 | 1 | 2=>simp
 | n+3=>simp
theorem obA_no (o:ObR) (A:Option Addr) (d:Nat) (i:Nat) (s:ByteArray):(obA o A d)[i]?≠some (.string s):=by
 match i with
 | 0 | 1 | 2 | 3 | 4 | 5=>simp
 | n+6=>simp
set_option maxHeartbeats 4000000 in
theorem hopen_any (o:ObR) (A:Option Addr) (d:Nat) (c:CallR) (w:World):Calls Tryz.prog 51 #[.agg (obA o A d),callV c] w (Ref2 o A d 11 w):=by
 obtain⟨q0,q1,q2,q3,b5⟩:=A4_gen 68 (obA o A d) (callL c).toArray oZ rZ w
 have Q0:=hZ q0
 have Q1:=hZ q1
 have Q2:=hZ q2
 have Q3:=hZ q3
 have HB:=hZ b5
 obtain⟨r0,r1,r2,r3,r4,r5⟩:=Q0.out.sixO
 obtain⟨v0,v1,v2,v3,v4,v5,v6⟩:=Q1.out.sevenO
 clear q0 q1 q2 q3 b5
 go_enter Tryz.func51,Tryz.ntmps51
 go_wp2_with fail
 refine (refused_any o A d 11 _).mono ?_
 rintro e w2 ⟨rfl,hb⟩
 have P0:=hZ (Q0.out.keep hb)
 have P1:=hZ (Q1.out.keep hb)
 have P2:=hZ (Q2.out.keep hb)
 have P3:=hZ (Q3.out.keep hb)
 have HB2:=hZ (chain HB.out hb)
 clear hb r0 r1 r2 r3 r4 r5 v0 v1 v2 v3 v4 v5 v6
 obtain⟨s0,s1,s2,s3,s4,s5⟩:=P2.out.sixO
 obtain⟨t0,t1,t2⟩:=P3.out.threeO
 have f0:=P2.out.free 0
 have f1:=P2.out.free 1
 have f2:=P2.out.free 2
 have f3:=P2.out.free 3
 have f4:=P2.out.free 4
 have f5:=P2.out.free 5
 have g0:=P3.out.free 0
 have g1:=P3.out.free 1
 have g2:=P3.out.free 2
 go_wp2_with fail
 refine close_two Tryz.results51 rfl rfl rfl (P2.out.put6o.far3o (by omega) _ _ _) ((P3.out.far6o (g':=w.heap.size+1+1) (by omega) _ _ _ _ _ _).put3o) Tryz.underlying27 Tryz.underlying36 rfl rfl (by kernel_rfl) (by kernel_rfl) ?_
 exact⟨rfl,below_set3o (below_set6o HB2.out (show w.heap.size≤w.heap.size+1+1 by omega) _ _ _ _ _ _) (show w.heap.size≤w.heap.size+1+1+1 by omega) _ _ _⟩
def SameOut (o:ObR) (A:Option Addr) (d:Nat) (n:Int) (w:World) (e:Ending) (w':World):Prop:=e=.returned (.tuple #[.agg (obA o A d),.agg #[.int .i64 0,.int .i64 n,.slice none 0 0]])∧Below w.heap.size w w'
set_option maxHeartbeats 4000000 in
theorem hprog_any (o:ObR) (A:Option Addr) (d:Nat) (c:CallR) (w:World) (hr:rightO o=true) (hs:SliceOk A o.2.1.2.2.2.length d) (hx:Syms w A o.2.1.2.2.2.length o.2.1.2.2.2) (hi:Ids o.2.1.2.2.2):Calls Tryz.prog 53 #[.agg (obA o A d),callV c] w (SameOut o A d (rankF o.2.1.1 o.2.1.2.2.2:Int) w):=by
 have hst:=right_store hr
 obtain⟨⟨k1,k2⟩,-,-,-⟩:=storeB_bd hst
 obtain⟨kn,hk⟩:=Int.eq_ofNat_of_zero_le (show 0≤o.2.1.1 by omega)
 have HP:=hZ (fun wy (hw:Below w.heap.size w wy)=>sprog_yes kn o.2.1.2.1 o.2.1.2.2.1 A o.2.1.2.2.2.length d o.2.1.2.2.2 wy (Recs.below hx hw) hs.1 hs.2.1 (by rw [← hk];exact hst) hi)
 rw [← hk] at HP
 obtain⟨q0,q1,q2,q3,b5⟩:=A4_gen 68 (obA o A d) (callL c).toArray oZ rZ w
 have Q0:=hZ q0
 have Q1:=hZ q1
 have Q2:=hZ q2
 have Q3:=hZ q3
 have HB:=hZ b5
 obtain⟨r0,r1,r2,r3,r4,r5⟩:=Q0.out.sixO
 obtain⟨v0,v1,v2,v3,v4,v5,v6⟩:=Q1.out.sevenO
 clear q0 q1 q2 q3 b5
 clear hst k1 k2 hk hs hx hi hr
 have HPw:=hZ (HP.out _ HB.out)
 obtain⟨rk,hrk⟩:∃ r:Int,r=(rankF o.2.1.1 o.2.1.2.2.2:Int):=⟨_,rfl⟩
 rw [← hrk] at HPw ⊢
 clear hrk HP
 go_enter Tryz.func53,Tryz.ntmps53
 go_wp2_with fail
 refine HPw.out.mono ?_
 rintro e w2 ⟨rfl,hb⟩
 have P0:=hZ (Q0.out.keep hb)
 have P1:=hZ (Q1.out.keep hb)
 have P2:=hZ (Q2.out.keep hb)
 have P3:=hZ (Q3.out.keep hb)
 have HB2:=hZ (chain HB.out hb)
 clear hb HPw r0 r1 r2 r3 r4 r5 v0 v1 v2 v3 v4 v5 v6
 obtain⟨r0,r1,r2,r3,r4,r5⟩:=P0.out.sixO
 obtain⟨v0,v1,v2,v3,v4,v5,v6⟩:=P1.out.sevenO
 obtain⟨s0,s1,s2,s3,s4,s5⟩:=P2.out.sixO
 obtain⟨t0,t1,t2⟩:=P3.out.threeO
 have f0:=P2.out.free 0
 have f1:=P2.out.free 1
 have f2:=P2.out.free 2
 have f3:=P2.out.free 3
 have f4:=P2.out.free 4
 have f5:=P2.out.free 5
 have g0:=P3.out.free 0
 have g1:=P3.out.free 1
 have g2:=P3.out.free 2
 go_wp2_with fail
 refine close_two Tryz.results53 rfl rfl rfl (P2.out.put6o.far3o (by omega) _ _ _) ((P3.out.far6o (g':=w.heap.size+1+1) (by omega) _ _ _ _ _ _).put3o) Tryz.underlying27 Tryz.underlying36 rfl rfl (by kernel_rfl) (by kernel_rfl) ?_
 exact⟨rfl,below_set3o (below_set6o HB2.out (show w.heap.size≤w.heap.size+1+1 by omega) _ _ _ _ _ _) (show w.heap.size≤w.heap.size+1+1+1 by omega) _ _ _⟩
def ResOut (o:ObR) (A:Option Addr) (d:Nat) (p:Int×List ByteArray) (w:World) (e:Ending) (w':World):Prop:=∃ B c,e=.returned (.tuple #[.agg (obA o A d),.agg #[.int .i64 p.1,.int .i64 (p.2.length:Int),.slice B p.2.length c]])∧Texts w' B p.2.length p.2∧p.2.length≤c∧c≤maxLen∧Below w.heap.size w w'
set_option maxHeartbeats 8000000 in
theorem hres_any (o:ObR) (A:Option Addr) (d:Nat) (c:CallR) (w:World) (hr:rightO o=true) (hs:SliceOk A o.2.1.2.2.2.length d) (hx:Syms w A o.2.1.2.2.2.length o.2.1.2.2.2) (hi:Ids o.2.1.2.2.2):Calls Tryz.prog 54 #[.agg (obA o A d),callV c] w (ResOut o A d (solveF o.2.1.1 o.2.1.2.1 o.2.1.2.2.2) w):=by
 have hst:=right_store hr
 obtain⟨⟨k1,k2⟩,⟨z1,z2⟩,-,-⟩:=storeB_bd hst
 obtain⟨kn,hk⟩:=Int.eq_ofNat_of_zero_le (show 0≤o.2.1.1 by omega)
 obtain⟨sn,hsn⟩:=Int.eq_ofNat_of_zero_le (show 0≤o.2.1.2.1 by omega)
 have HP:=hZ (fun wy (hw:Below w.heap.size w wy)=>ssolve_yes kn sn o.2.1.2.2.1 A o.2.1.2.2.2.length d o.2.1.2.2.2 wy (Recs.below hx hw) hs.1 hs.2.1 (by rw [← hk,← hsn];exact hst) hi)
 rw [← hk,← hsn] at HP
 obtain⟨q0,q1,q2,q3,b5⟩:=A4_gen 68 (obA o A d) (callL c).toArray oZ rZ w
 have Q0:=hZ q0
 have Q1:=hZ q1
 have Q2:=hZ q2
 have Q3:=hZ q3
 have HB:=hZ b5
 obtain⟨r0,r1,r2,r3,r4,r5⟩:=Q0.out.sixO
 obtain⟨v0,v1,v2,v3,v4,v5,v6⟩:=Q1.out.sevenO
 clear q0 q1 q2 q3 b5
 clear hst k1 k2 z1 z2 hk hsn hs hx hi hr
 have HPw:=hZ (HP.out _ HB.out)
 obtain⟨p,hp⟩:∃ r,r=solveF o.2.1.1 o.2.1.2.1 o.2.1.2.2.2:=⟨_,rfl⟩
 rw [← hp] at HPw ⊢
 clear hp HP
 obtain⟨E,bl⟩:=p
 go_enter Tryz.func54,Tryz.ntmps54
 go_wp2_with fail
 refine HPw.out.mono ?_
 rintro e w2 ⟨B,cB,rfl,ht,h64,h1,h2,hn,hb⟩
 dsimp only at ht h64 h1 h2 hn
 have P0:=hZ (Q0.out.keep hb)
 have P1:=hZ (Q1.out.keep hb)
 have P2:=hZ (Q2.out.keep hb)
 have P3:=hZ (Q3.out.keep hb)
 have HB2:=hZ (chain HB.out hb)
 have HT:=hZ ht
 have HC:=hZ (And.intro h1 h2)
 have hbl:bl.length≤64:=h64
 clear hb HPw ht h1 h2 h64 r0 r1 r2 r3 r4 r5 v0 v1 v2 v3 v4 v5 v6
 obtain⟨r0,r1,r2,r3,r4,r5⟩:=P0.out.sixO
 obtain⟨v0,v1,v2,v3,v4,v5,v6⟩:=P1.out.sevenO
 by_cases h0:E=0
 ·subst h0
  clear hn
  obtain⟨s0,s1,s2,s3,s4,s5⟩:=P2.out.sixO
  obtain⟨t0,t1,t2⟩:=P3.out.threeO
  have f0:=P2.out.free 0
  have f1:=P2.out.free 1
  have f2:=P2.out.free 2
  have f3:=P2.out.free 3
  have f4:=P2.out.free 4
  have f5:=P2.out.free 5
  have g0:=P3.out.free 0
  have g1:=P3.out.free 1
  have g2:=P3.out.free 2
  go_wp2_with fail
  refine close_two Tryz.results54 rfl rfl rfl (P2.out.put6o.far3o (by omega) _ _ _) ((P3.out.far6o (g':=w.heap.size+1+1) (by omega) _ _ _ _ _ _).put3o) Tryz.underlying27 Tryz.underlying36 rfl rfl (by kernel_rfl) (by kernel_rfl) ?_
  exact⟨B,cB,rfl,HT.out.far9 (HT.out.neO P2.out oz_no) (HT.out.neO P3.out rz_no) _ _ _ _ _ _ _ _ _,HC.out.1,HC.out.2,below_set3o (below_set6o HB2.out (show w.heap.size≤w.heap.size+1+1 by omega) _ _ _ _ _ _) (show w.heap.size≤w.heap.size+1+1+1 by omega) _ _ _⟩
 ·have hz:=hn h0
  subst hz
  have t9:(E != 0)=true:=by simpa using h0
  clear hn h0
  go_wp2_with fail
  refine (refused_any o A d E _).mono ?_
  rintro e w3 ⟨rfl,hb⟩
  have R0:=hZ (P0.out.keep hb)
  have R1:=hZ (P1.out.keep hb)
  have R2:=hZ (P2.out.keep hb)
  have R3:=hZ (P3.out.keep hb)
  have HB3:=hZ (chain HB2.out hb)
  clear hb r0 r1 r2 r3 r4 r5 v0 v1 v2 v3 v4 v5 v6
  obtain⟨s0,s1,s2,s3,s4,s5⟩:=R2.out.sixO
  obtain⟨t0,t1,t2⟩:=R3.out.threeO
  have f0:=R2.out.free 0
  have f1:=R2.out.free 1
  have f2:=R2.out.free 2
  have f3:=R2.out.free 3
  have f4:=R2.out.free 4
  have f5:=R2.out.free 5
  have g0:=R3.out.free 0
  have g1:=R3.out.free 1
  have g2:=R3.out.free 2
  go_wp2_with fail
  refine close_two Tryz.results54 rfl rfl rfl (R2.out.put6o.far3o (by omega) _ _ _) ((R3.out.far6o (g':=w.heap.size+1+1) (by omega) _ _ _ _ _ _).put3o) Tryz.underlying27 Tryz.underlying36 rfl rfl (by kernel_rfl) (by kernel_rfl) ?_
  exact⟨none,0,rfl,Texts.nil _ _,Nat.le_refl _,Nat.zero_le _,below_set3o (below_set6o HB3.out (show w.heap.size≤w.heap.size+1+1 by omega) _ _ _ _ _ _) (show w.heap.size≤w.heap.size+1+1+1 by omega) _ _ _⟩
end
section
/- Layer 18: an object is closed. -/
open Go.RowKit Go.Lib
set_option maxRecDepth 100000
set_option maxHeartbeats 4000000 in
theorem hclose_any (o:ObR) (A:Option Addr) (d:Nat) (c:CallR) (w:World):Calls Tryz.prog 55 #[.agg (obA o A d),callV c] w (SameOut (o.1,o.2.1,1) A d (o.2.1.2.2.2.length:Int) w):=by
 obtain⟨q0,q1,q2,q3,b5⟩:=A4_gen 68 #[.int .u64 (o.1:Nat),.int .i64 o.2.1.1,.int .i64 o.2.1.2.1,.int .i64 o.2.1.2.2.1,.slice A o.2.1.2.2.2.length d,.int .i64 1] (callL c).toArray oZ rZ w
 have Q0:=hZ q0
 have Q1:=hZ q1
 have Q2:=hZ q2
 have Q3:=hZ q3
 have HB:=hZ b5
 obtain⟨l0,-,-,-,-⟩:=A4_gen 68 #[.int .u64 (o.1:Nat),.int .i64 o.2.1.1,.int .i64 o.2.1.2.1,.int .i64 o.2.1.2.2.1,.slice A o.2.1.2.2.2.length d,.int .i64 1] (callL c).toArray #[.int .u64 (o.1:Nat),.int .i64 o.2.1.1,.int .i64 o.2.1.2.1,.int .i64 o.2.1.2.2.1,.slice A o.2.1.2.2.2.length d,.int .i64 1] rZ w
 obtain⟨-,-,m2,m3,mb⟩:=A4_gen 68 #[.int .u64 (o.1:Nat),.int .i64 o.2.1.1,.int .i64 o.2.1.2.1,.int .i64 o.2.1.2.2.1,.slice A o.2.1.2.2.2.length d,.int .i64 1] (callL c).toArray #[.int .u64 (o.1:Nat),.int .i64 o.2.1.1,.int .i64 o.2.1.2.1,.int .i64 o.2.1.2.2.1,.slice A o.2.1.2.2.2.length d,.int .i64 1] #[.int .i64 0,.int .i64 (o.2.1.2.2.2.length:Int),.slice none 0 0] w
 have L0:=hZ l0
 have M2:=hZ m2
 have M3:=hZ m3
 have MB:=hZ mb
 obtain⟨r0,r1,r2,r3,r4,r5⟩:=Q0.out.sixO
 clear q0 q1 q2 q3 b5 l0 m2 m3 mb
 obtain⟨s0,s1,s2,s3,s4,s5⟩:=Q2.out.sixO
 obtain⟨t0,t1,t2⟩:=Q3.out.threeO
 have f0:=Q2.out.free 0
 have f1:=Q2.out.free 1
 have f2:=Q2.out.free 2
 have f3:=Q2.out.free 3
 have f4:=Q2.out.free 4
 have f5:=Q2.out.free 5
 have g0:=Q3.out.free 0
 have g1:=Q3.out.free 1
 have g2:=Q3.out.free 2
 go_enter Tryz.func55,Tryz.ntmps55
 go_upto_region 2 with (fail)
 refine wp_heldK_bar [(7,(fun (w':World)=>w'.cell? ⟨w.heap.size,0,none⟩=some (.int .u64 (o.1:Nat))∧w'.cell? ⟨w.heap.size,1,none⟩=some (.int .i64 o.2.1.1)∧w'.cell? ⟨w.heap.size,2,none⟩=some (.int .i64 o.2.1.2.1)∧w'.cell? ⟨w.heap.size,3,none⟩=some (.int .i64 o.2.1.2.2.1)∧w'.cell? ⟨w.heap.size,4,none⟩=some (.slice A o.2.1.2.2.2.length d)∧w'.cell? ⟨w.heap.size,5,none⟩=some (.int .i64 1)))] 8 (by kernel_rfl) (by decide) ?_
 have hS0:=(show ((fun (w':World)=>w'.cell? ⟨w.heap.size,0,none⟩=some (.int .u64 (o.1:Nat))∧w'.cell? ⟨w.heap.size,1,none⟩=some (.int .i64 o.2.1.1)∧w'.cell? ⟨w.heap.size,2,none⟩=some (.int .i64 o.2.1.2.1)∧w'.cell? ⟨w.heap.size,3,none⟩=some (.int .i64 o.2.1.2.2.1)∧w'.cell? ⟨w.heap.size,4,none⟩=some (.slice A o.2.1.2.2.2.length d)∧w'.cell? ⟨w.heap.size,5,none⟩=some (.int .i64 1))) (W4 68 #[.int .u64 (o.1:Nat),.int .i64 o.2.1.1,.int .i64 o.2.1.2.1,.int .i64 o.2.1.2.2.1,.slice A o.2.1.2.2.2.length d,.int .i64 1] (callL c).toArray oZ rZ w).drew from ⟨r0,r1,r2,r3,r4,r5⟩)
 refine headK_load 0 7 _ rfl (i:=0) (v:=?_) rfl (by kernel_rfl) (fun _ _ _ h=>h) (fun _ _ _ h=>passed_ready h.1) (Or.inl ⟨by rfl,?hy1⟩) ⟨fun _=>hS0,trivial⟩ ?rest1
 case hy1=>intro w hSw;(try dsimp only at hSw);obtain⟨hc0,hc1,hc2,hc3,hc4,hc5⟩:=hSw;go_simp;try (with_reducible rfl)
 case rest1=>
 try simp only [pZa,pZb,pZc,pZd]
 refine headK_take (i:=1) (v:=?_) rfl (by kernel_rfl) (fun _ _ _ h=>h) (fun _ _ _ h=>passed_ready h.1) (Or.inl ⟨by rfl,?hy2⟩) ⟨fun _=>hS0,trivial⟩ ?rest2
 case hy2=>intro w _;go_simp;try (with_reducible rfl)
 case rest2=>
 try simp only [pZa,pZb,pZc,pZd]
 refine headK_take (i:=2) (v:=?_) rfl (by kernel_rfl) (fun _ _ _ h=>h) (fun _ _ _ h=>passed_ready h.1) (Or.inl ⟨by rfl,?hy3⟩) ⟨fun _=>hS0,trivial⟩ ?rest3
 case hy3=>intro w _;go_simp;try (with_reducible rfl)
 case rest3=>
 try simp only [pZa,pZb,pZc,pZd]
 refine headK_load 0 7 _ rfl (i:=3) (v:=?_) rfl (by kernel_rfl) (fun _ _ _ h=>h) (fun _ _ _ h=>passed_ready h.1) (Or.inl ⟨by rfl,?hy4⟩) ⟨fun _=>hS0,trivial⟩ ?rest4
 case hy4=>intro w hSw;(try dsimp only at hSw);obtain⟨hc0,hc1,hc2,hc3,hc4,hc5⟩:=hSw;go_simp;try (with_reducible rfl)
 case rest4=>
 try simp only [pZa,pZb,pZc,pZd]
 refine headK_take (i:=4) (v:=?_) rfl (by kernel_rfl) (fun _ _ _ h=>h) (fun _ _ _ h=>passed_ready h.1) (Or.inl ⟨by rfl,?hy5⟩) ⟨fun _=>hS0,trivial⟩ ?rest5
 case hy5=>intro w _;go_simp;try (with_reducible rfl)
 case rest5=>
 try simp only [pZa,pZb,pZc,pZd]
 refine headK_take (i:=5) (v:=?_) rfl (by kernel_rfl) (fun _ _ _ h=>h) (fun _ _ _ h=>passed_ready h.1) (Or.inl ⟨by rfl,?hy6⟩) ⟨fun _=>hS0,trivial⟩ ?rest6
 case hy6=>intro w _;go_simp;try (with_reducible rfl)
 case rest6=>
 try simp only [pZa,pZb,pZc,pZd]
 refine headK_one (i:=6) (by kernel_rfl) rfl (fun K hK=>?_)
 go_simp
 have hS0:=(show ((fun (w':World)=>w'.cell? ⟨w.heap.size,0,none⟩=some (.int .u64 (o.1:Nat))∧w'.cell? ⟨w.heap.size,1,none⟩=some (.int .i64 o.2.1.1)∧w'.cell? ⟨w.heap.size,2,none⟩=some (.int .i64 o.2.1.2.1)∧w'.cell? ⟨w.heap.size,3,none⟩=some (.int .i64 o.2.1.2.2.1)∧w'.cell? ⟨w.heap.size,4,none⟩=some (.slice A o.2.1.2.2.2.length d)∧w'.cell? ⟨w.heap.size,5,none⟩=some (.int .i64 1))) (W4 68 #[.int .u64 (o.1:Nat),.int .i64 o.2.1.1,.int .i64 o.2.1.2.1,.int .i64 o.2.1.2.2.1,.slice A o.2.1.2.2.2.length d,.int .i64 1] (callL c).toArray #[.int .u64 (o.1:Nat),.int .i64 o.2.1.1,.int .i64 o.2.1.2.1,.int .i64 o.2.1.2.2.1,.slice A o.2.1.2.2.2.length d,.int .i64 1] rZ w).drew from ⟨L0.out.drew.cell 0,L0.out.drew.cell 1,L0.out.drew.cell 2,L0.out.drew.cell 3,L0.out.drew.cell 4,L0.out.drew.cell 5⟩)
 refine hK.out _ _ ⟨fun _=>hS0,trivial⟩ ?_
 clear hK K
 try simp only [pZa,pZb,pZc,pZd]
 refine headK_one (i:=7) (by kernel_rfl) rfl (fun K hK=>?_)
 go_simp
 refine hK.out _ _ ⟨nZ,trivial⟩ ?_
 clear hK K
 try simp only [pZa,pZb,pZc,pZd]
 refine⟨by kernel_rfl,?_⟩
 refine wpAny_done (by kernel_rfl) ?_ _
 go_wp2_with fail
 refine close_two Tryz.results55 rfl rfl rfl M2.out.drew M3.out.drew Tryz.underlying27 Tryz.underlying36 rfl rfl (by kernel_rfl) (by kernel_rfl) ?_
 exact⟨rfl,MB.out.drew⟩
end
section
/- Layer 18: a symbol more, to an object that may be. -/
open Go.RowKit Go.Lib
set_option maxRecDepth 100000
theorem Box.put4h {w:World} {g:Nat} {t:TypeId} {a b c d e f u v x y:Value} (h:Box w g t #[a,b,c,d,e,f]):Box ((((w.setCell ⟨g,1,none⟩ u).setCell ⟨g,2,none⟩ v).setCell ⟨g,3,none⟩ x).setCell ⟨g,4,none⟩ y) g t #[a,u,v,x,y,f]:=(((h.put 1 u).put 2 v).put 3 x).put 4 y
theorem Box.far4h {w:World} {g g':Nat} {t:TypeId} {cs:Array Value} (h:Box w g t cs) (hn:g≠g') (a b c d:Value):Box ((((w.setCell ⟨g',1,none⟩ a).setCell ⟨g',2,none⟩ b).setCell ⟨g',3,none⟩ c).setCell ⟨g',4,none⟩ d) g t cs:=(((h.far (p:=⟨g',1,none⟩) hn a).far (p:=⟨g',2,none⟩) hn b).far (p:=⟨g',3,none⟩) hn c).far (p:=⟨g',4,none⟩) hn d
theorem Syms.far4h {w:World} {g:Nat} {A:Option Addr} {l:Nat} {xs:List SymR} (h:Syms w A l xs) (hn:∀ b off,A=some ⟨b,off,none⟩→0<l→b≠g) (a b c d:Value):Syms ((((w.setCell ⟨g,1,none⟩ a).setCell ⟨g,2,none⟩ b).setCell ⟨g,3,none⟩ c).setCell ⟨g,4,none⟩ d) A l xs:=(((Recs.farB h hn 1 a).farB hn 2 b).farB hn 3 c).farB hn 4 d
theorem below_set4h {B:Nat} {w x:World} (h:Below B w x) {g:Nat} (hg:B≤g) (a b c d:Value):Below B w ((((x.setCell ⟨g,1,none⟩ a).setCell ⟨g,2,none⟩ b).setCell ⟨g,3,none⟩ c).setCell ⟨g,4,none⟩ d):=(((h.setCell (p:=⟨g,1,none⟩) hg a).setCell (p:=⟨g,2,none⟩) hg b).setCell (p:=⟨g,3,none⟩) hg c).setCell (p:=⟨g,4,none⟩) hg d
theorem ids_snoc {xs:List SymR} {x:SymR} (h:Ids xs) (hx:x.1<18446744073709551616):Ids (xs++[x]):=fun j=>by
 by_cases hj:j<xs.length
 ·have e:(xs++[x]).getD j default=xs.getD j default:=by simp [List.getD,List.getElem?_append_left hj]
  rw [e];exact h j
 ·by_cases he:j=xs.length
  ·have e:(xs++[x]).getD j default=x:=by subst he;simp [List.getD]
   rw [e];exact hx
  ·have e:(xs++[x]).getD j default=default:=by
    simp only [List.getD]
    rw [List.getElem?_eq_none (by rw [List.length_append,List.length_singleton];omega)];rfl
   rw [e];decide
set_option maxHeartbeats 8000000 in
theorem hadd_no (id:Nat) (k s cp:Int) (xs:List SymR) (cl:Int) (A:Option Addr) (d:Nat) (c:CallR) (w:World) (hr:storeB k s cp xs=true) (hs:SliceOk A xs.length d) (hx:Syms w A xs.length xs) (hE:¬ whyI s cp xs (c.2.2.2.2.2.1,c.2.2.2.2.2.2)=0) :
  Calls Tryz.prog 52 #[.agg (obA (id,(k,s,cp,xs),cl) A d),callV c] w (Ref2 (id,(k,s,cp,xs),cl) A d (whyI s cp xs (c.2.2.2.2.2.1,c.2.2.2.2.2.2)) w):=by
 have hb4:=storeB_bd hr
 have hx66:xs.length≤66:=by have:=hb4.2.2.1;have:=hb4.2.2.2;omega
 have HA:=hZ (fun wy (hw:Below w.heap.size w wy)=>eadd_law k s cp A xs.length d xs (c.2.2.2.2.2.1,c.2.2.2.2.2.2) wy (Recs.below hx hw) hs.1 hs.2.1 (fun e=>(hs.2.2 e).2) hx66)
 rw [addE_yes hr] at HA
 obtain⟨E,hEe⟩:∃ E,E=whyI s cp xs (c.2.2.2.2.2.1,c.2.2.2.2.2.2):=⟨_,rfl⟩
 rw [← hEe] at HA hE ⊢
 have t9:(E != 0)=true:=by simpa using hE
 clear hEe hE hb4 hx66 hs hx hr
 obtain⟨q0,q1,q2,q3,b5⟩:=A4_gen 68 (obA (id,(k,s,cp,xs),cl) A d) (callL c).toArray oZ rZ w
 have Q0:=hZ q0
 have Q1:=hZ q1
 have Q2:=hZ q2
 have Q3:=hZ q3
 have HB:=hZ b5
 obtain⟨r0,r1,r2,r3,r4,r5⟩:=Q0.out.sixO
 obtain⟨v0,v1,v2,v3,v4,v5,v6⟩:=Q1.out.sevenO
 clear q0 q1 q2 q3 b5
 have HAw:=hZ (HA.out _ HB.out)
 clear HA
 go_enter Tryz.func52,Tryz.ntmps52
 go_wp2_with fail
 refine HAw.out.mono ?_
 rintro e w2 ⟨K,S,C,A',zs,d',rfl,-,-,-,-,-,-,hb⟩
 have b2:Below w2.heap.size w2 (w2.alloc (.cells #[.int .i64 K,.int .i64 S,.int .i64 C,.slice A' zs.length d'] 25)):=(Below.refl _ _).alloc (Nat.le_refl _) _
 have hbb:=chain hb b2
 have P0:=hZ (Q0.out.keep hbb)
 have P1:=hZ (Q1.out.keep hbb)
 have P2:=hZ (Q2.out.keep hbb)
 have P3:=hZ (Q3.out.keep hbb)
 have HB2:=hZ (chain HB.out hbb)
 clear hb b2 hbb HAw r0 r1 r2 r3 r4 r5 v0 v1 v2 v3 v4 v5 v6
 obtain⟨r0,r1,r2,r3,r4,r5⟩:=P0.out.sixO
 obtain⟨v0,v1,v2,v3,v4,v5,v6⟩:=P1.out.sevenO
 go_wp2_with fail
 refine (refused_any (id,(k,s,cp,xs),cl) A d E _).mono ?_
 rintro e w3 ⟨rfl,hb⟩
 have R0:=hZ (P0.out.keep hb)
 have R1:=hZ (P1.out.keep hb)
 have R2:=hZ (P2.out.keep hb)
 have R3:=hZ (P3.out.keep hb)
 have HB3:=hZ (chain HB2.out hb)
 clear hb r0 r1 r2 r3 r4 r5 v0 v1 v2 v3 v4 v5 v6
 obtain⟨s0,s1,s2,s3,s4,s5⟩:=R2.out.sixO
 obtain⟨t0,t1,t2⟩:=R3.out.threeO
 have f0:=R2.out.free 0
 have f1:=R2.out.free 1
 have f2:=R2.out.free 2
 have f3:=R2.out.free 3
 have f4:=R2.out.free 4
 have f5:=R2.out.free 5
 have g0:=R3.out.free 0
 have g1:=R3.out.free 1
 have g2:=R3.out.free 2
 go_wp2_with fail
 refine close_two Tryz.results52 rfl rfl rfl (R2.out.put6o.far3o (by omega) _ _ _) ((R3.out.far6o (g':=w.heap.size+1+1) (by omega) _ _ _ _ _ _).put3o) Tryz.underlying27 Tryz.underlying36 rfl rfl (by kernel_rfl) (by kernel_rfl) ?_
 exact⟨rfl,below_set3o (below_set6o HB3.out (show w.heap.size≤w.heap.size+1+1 by omega) _ _ _ _ _ _) (show w.heap.size≤w.heap.size+1+1+1 by omega) _ _ _⟩
set_option maxHeartbeats 8000000 in
theorem hadd_yes (id:Nat) (k s cp:Int) (xs:List SymR) (cl:Int) (A:Option Addr) (d:Nat) (c:CallR) (w:World) (hr:rightO (id,(k,s,cp,xs),cl)=true) (hs:SliceOk A xs.length d) (hx:Syms w A xs.length xs) (hi:Ids xs) (hci:c.2.2.2.2.2.1<18446744073709551616) (hE:whyI s cp xs (c.2.2.2.2.2.1,c.2.2.2.2.2.2)=0) :
  Calls Tryz.prog 52 #[.agg (obA (id,(k,s,cp,xs),cl) A d),callV c] w (DoOut (id,(k,s,cp,xs++[(c.2.2.2.2.2.1,c.2.2.2.2.2.2)]),cl) (0,(rankF k (xs++[(c.2.2.2.2.2.1,c.2.2.2.2.2.2)]):Int),[]) w):=by
 have hst:storeB k s cp xs=true:=right_store hr
 have hb4:=storeB_bd hst
 have hx66:xs.length≤66:=by have:=hb4.2.2.1;have:=hb4.2.2.2;omega
 have hE2:addE k s cp xs (c.2.2.2.2.2.1,c.2.2.2.2.2.2)=0:=by rw [addE_yes hst];exact hE
 have HA:=hZ (fun wy (hw:Below w.heap.size w wy)=>eadd_law k s cp A xs.length d xs (c.2.2.2.2.2.1,c.2.2.2.2.2.2) wy (Recs.below hx hw) hs.1 hs.2.1 (fun e=>(hs.2.2 e).2) hx66)
 rw [hE2] at HA
 have hg:=storeB_grow hE2
 have hiy:Ids (xs++[(c.2.2.2.2.2.1,c.2.2.2.2.2.2)]):=ids_snoc hi hci
 obtain⟨ys,hys⟩:∃ y,y=xs++[(c.2.2.2.2.2.1,c.2.2.2.2.2.2)]:=⟨_,rfl⟩
 rw [← hys] at HA hg hiy ⊢
 have hr2:rightO (id,(k,s,cp,ys),cl)=true:=by
  unfold rightO at hr ⊢
  rw [Bool.and_eq_true] at hr ⊢
  exact⟨hg,hr.2⟩
 have HIy:=hZ hiy
 have HR2:=hZ hr2
 clear hiy hr2 hg hys hE2 hE hb4 hx66 hs hx hi hr hst hci
 obtain⟨q0,q1,q2,q3,b5⟩:=A4_gen 68 (obA (id,(k,s,cp,xs),cl) A d) (callL c).toArray oZ rZ w
 have Q0:=hZ q0
 have Q1:=hZ q1
 have Q2:=hZ q2
 have Q3:=hZ q3
 have HB:=hZ b5
 obtain⟨r0,r1,r2,r3,r4,r5⟩:=Q0.out.sixO
 obtain⟨v0,v1,v2,v3,v4,v5,v6⟩:=Q1.out.sevenO
 clear q0 q1 q2 q3 b5
 have HAw:=hZ (HA.out _ HB.out)
 clear HA
 go_enter Tryz.func52,Tryz.ntmps52
 go_wp2_with fail
 refine HAw.out.mono ?_
 rintro e w2 ⟨K,S,C,A',zs,d',rfl,⟨h1,-⟩,hz,hz1,hz2,hz3,hz4,hb⟩
 obtain⟨e1,e2,e3,e4⟩:=h1 trivial
 subst e1 e2 e3 e4
 have b2:Below w2.heap.size w2 (w2.alloc (.cells #[.int .i64 K,.int .i64 S,.int .i64 C,.slice A' zs.length d'] 25)):=(Below.refl _ _).alloc (Nat.le_refl _) _
 have hbb:=chain hb b2
 have P0:=hZ (Q0.out.keep hbb)
 have P1:=hZ (Q1.out.keep hbb)
 have P2:=hZ (Q2.out.keep hbb)
 have P3:=hZ (Q3.out.keep hbb)
 have PS:=hZ (Box.new w2 25 #[.int .i64 K,.int .i64 S,.int .i64 C,.slice A' zs.length d'])
 have HB2:=hZ (chain HB.out hbb)
 have HZ:=hZ (Recs.below hz b2)
 have HSl:=hZ (show SliceOk A' zs.length d' from ⟨hz1,hz2,fun e=>⟨by have:=hz3 e;omega,hz3 e⟩⟩)
 have hln:=hz4
 clear hb b2 hbb HAw hz hz1 hz2 hz3 hz4 h1 r0 r1 r2 r3 r4 r5 v0 v1 v2 v3 v4 v5 v6
 obtain⟨r0,r1,r2,r3,r4,r5⟩:=P0.out.sixO
 obtain⟨v0,v1,v2,v3,v4,v5,v6⟩:=P1.out.sevenO
 obtain⟨p0,p1,p2,p3,-,-,-,-⟩:=PS.out.four
 have f1:=P0.out.free 1
 have f2:=P0.out.free 2
 have f3:=P0.out.free 3
 have f4:=P0.out.free 4
 obtain⟨w5,hw5⟩:∃ y,y=((((w2.alloc (.cells #[.int .i64 K,.int .i64 S,.int .i64 C,.slice A' zs.length d'] 25)).setCell ⟨w.heap.size,1,none⟩ (.int .i64 K)).setCell ⟨w.heap.size,2,none⟩ (.int .i64 S)).setCell ⟨w.heap.size,3,none⟩ (.int .i64 C)).setCell ⟨w.heap.size,4,none⟩ (.slice A' zs.length d'):=⟨_,rfl⟩
 have L0:=hZ (show Box w5 w.heap.size 68 (obA (id,(K,S,C,zs),cl) A' d') from hw5 ▸ P0.out.put4h)
 have L1:=hZ (show Box w5 (w.heap.size+1) 31 (callL c).toArray from hw5 ▸ P1.out.far4h (by omega) (.int .i64 K) (.int .i64 S) (.int .i64 C) (.slice A' zs.length d'))
 have L2:=hZ (show Box w5 (w.heap.size+1+1) 27 oZ from hw5 ▸ P2.out.far4h (by omega) (.int .i64 K) (.int .i64 S) (.int .i64 C) (.slice A' zs.length d'))
 have L3:=hZ (show Box w5 (w.heap.size+1+1+1) 36 rZ from hw5 ▸ P3.out.far4h (by omega) (.int .i64 K) (.int .i64 S) (.int .i64 C) (.slice A' zs.length d'))
 have HZ5:=hZ (show Syms w5 A' zs.length zs from hw5 ▸ Syms.far4h HZ.out (Syms.neO HZ.out P0.out (obA_no _ _ _)) (.int .i64 K) (.int .i64 S) (.int .i64 C) (.slice A' zs.length d'))
 have HB5:=hZ (show Below w.heap.size w w5 from hw5 ▸ below_set4h HB2.out (Nat.le_refl _) (.int .i64 K) (.int .i64 S) (.int .i64 C) (.slice A' zs.length d'))
 have HPr:=hZ (hprog_any (id,(K,S,C,zs),cl) A' d' c w5 HR2.out HSl.out HZ5.out HIy.out)
 clear HZ PS P1 P2 P3 HB2
 go_upto_region 5 with (fail)
 rw [← hw5]
 clear hw5 P0 p0 p1 p2 p3 f1 f2 f3 f4 r0 r1 r2 r3 r4 r5 v0 v1 v2 v3 v4 v5 v6
 obtain⟨r0,r1,r2,r3,r4,r5⟩:=L0.out.sixO
 obtain⟨v0,v1,v2,v3,v4,v5,v6⟩:=L1.out.sevenO
 obtain⟨rk,hrk⟩:∃ r:Int,r=(rankF ((id,(K,S,C,zs),cl):ObR).2.1.1 ((id,(K,S,C,zs),cl):ObR).2.1.2.2.2:Int):=⟨_,rfl⟩
 rw [← hrk] at HPr
 have HRk:=hZ hrk
 clear hrk
 go_wp2_with fail
 refine HPr.out.mono ?_
 rintro e w6 ⟨rfl,hb⟩
 have HZ6:=hZ (Recs.below HZ5.out hb)
 have HB6:=hZ (chain HB5.out hb)
 have R0:=hZ (L0.out.keep hb)
 have R1:=hZ (L1.out.keep hb)
 have R2:=hZ (L2.out.keep hb)
 have R3:=hZ (L3.out.keep hb)
 clear hb HPr HZ5 r0 r1 r2 r3 r4 r5 v0 v1 v2 v3 v4 v5 v6
 obtain⟨s0,s1,s2,s3,s4,s5⟩:=R2.out.sixO
 obtain⟨t0,t1,t2⟩:=R3.out.threeO
 have f0:=R2.out.free 0
 have f1:=R2.out.free 1
 have f2:=R2.out.free 2
 have f3:=R2.out.free 3
 have f4:=R2.out.free 4
 have f5:=R2.out.free 5
 have g0:=R3.out.free 0
 have g1:=R3.out.free 1
 have g2:=R3.out.free 2
 go_wp2_with fail
 refine close_two Tryz.results52 rfl rfl rfl (R2.out.put6o.far3o (by omega) _ _ _) ((R3.out.far6o (g':=w.heap.size+1+1) (by omega) _ _ _ _ _ _).put3o) Tryz.underlying27 Tryz.underlying36 rfl rfl (by kernel_rfl) (by kernel_rfl) ?_
 have hrk:(rankF K zs:Int)=rk:=HRk.out.symm
 rw [hrk]
 exact⟨A',d',none,0,rfl,HSl.out,Syms.far9 HZ6.out (Syms.neO HZ6.out R2.out oz_no) (Syms.neO HZ6.out R3.out rz_no) _ _ _ _ _ _ _ _ _,Texts.nil _ _,Nat.le_refl _,Nat.zero_le _,below_set3o (below_set6o HB6.out (show w.heap.size≤w.heap.size+1+1 by omega) _ _ _ _ _ _) (show w.heap.size≤w.heap.size+1+1+1 by omega) _ _ _⟩
end
section
/- Layer 19: what a call does to a receiver, as data. -/
open Go.RowKit Go.Lib
set_option maxRecDepth 100000
abbrev obsR (ps:List RawO):List ObR:=ps.map Prod.fst
def withO (os:List ObR) (o:ObR):List ObR:=(os.filter fun x=>decide (x.1<o.1))++o::os.filter fun x=>decide (o.1<x.1)
theorem filter_all {α:Type} (p:α→Bool) (l:List α) (h:∀ x∈l,p x=true):l.filter p=l:=List.filter_eq_self.2 h
theorem filter_no {α:Type} (p:α→Bool) (l:List α) (h:∀ x∈l,p x=false):l.filter p=[]:=by
 rw [List.filter_eq_nil_iff];intro x hx;rw [h x hx];decide
theorem withO_split (A B:List ObR) (o:ObR) (hA:∀ x∈A,x.1<o.1) (hB:∀ x∈B,o.1<x.1):withO (A++B) o=A++o::B:=by
 unfold withO
 rw [List.filter_append,List.filter_append,filter_all _ A (fun x hx=>decide_eq_true (hA x hx)),filter_no _ B (fun x hx=>decide_eq_false (by have:=hB x hx;omega)),filter_no _ A (fun x hx=>decide_eq_false (by have:=hA x hx;omega)),filter_all _ B (fun x hx=>decide_eq_true (hB x hx)),List.append_nil,List.nil_append]
theorem withO_mid (A B:List ObR) (y o:ObR) (hy:y.1=o.1) (hA:∀ x∈A,x.1<o.1) (hB:∀ x∈B,o.1<x.1):withO (A++y::B) o=A++o::B:=by
 have h:=withO_split A B o hA hB
 unfold withO at h ⊢
 rw [List.filter_append,List.filter_append] at h ⊢
 rw [List.filter_cons_of_neg (by rw [hy];simp),List.filter_cons_of_neg (by rw [hy];simp)]
 exact h
theorem obsR_len (ps:List RawO):(obsR ps).length=ps.length:=List.length_map _
theorem obsR_at (ps:List RawO) (j:Nat):(obsR ps).getD j default=(ps.getD j default).1:=by
 simp only [List.getD,List.getElem?_map]
 cases ps[j]?<;>rfl
theorem mem_takeR {ps:List RawO} {i:Nat} {x:ObR} (hi:i≤ps.length) (h:x∈obsR (ps.take i)):∃ k,k<i∧x=(ps.getD k default).1:=by
 obtain⟨p,hp,rfl⟩:=List.mem_map.1 h
 obtain⟨k,hk,e⟩:=List.getElem_of_mem hp
 rw [List.length_take] at hk
 refine⟨k,by omega,?_⟩
 rw [List.getElem_take] at e
 rw [← e]
 simp [List.getD,show k<ps.length by omega]
theorem mem_dropR {ps:List RawO} {i:Nat} {x:ObR} (h:x∈obsR (ps.drop i)):∃ k,i≤k∧k<ps.length∧x=(ps.getD k default).1:=by
 obtain⟨p,hp,rfl⟩:=List.mem_map.1 h
 obtain⟨k,hk,e⟩:=List.getElem_of_mem hp
 rw [List.length_drop] at hk
 refine⟨i+k,by omega,by omega,?_⟩
 rw [List.getElem_drop] at e
 rw [← e]
 simp [List.getD,show i+k<ps.length by omega]
theorem ins_with {ps:List RawO} {x:RawO} {i:Nat} (h:PlaceR ps x.1.1 i) (hp:RiseR ps) (hn:isR ps x.1.1=false):obsR (ps.take i++x::ps.drop i)=withO (obsR ps) x.1:=by
 rw [place_is h hp] at hn
 have hlt:∀ k,i≤k→k<ps.length→x.1.1<(ps.getD k default).1.1:=fun k hk hk2=>by
  have h1:=h.2.2 i (Nat.le_refl _) (by omega)
  have h2:¬ (ps.getD i default).1.1=x.1.1:=fun e=>by
   rw [decide_eq_true (show i<ps.length by omega),decide_eq_true e] at hn;cases hn
  rcases Nat.lt_or_eq_of_le hk with e | e
  ·have:=hp i k e hk2;omega
  ·subst e;omega
 have hs:=withO_split (obsR (ps.take i)) (obsR (ps.drop i)) x.1 (fun y hy=>by
  obtain⟨k,hk,rfl⟩:=mem_takeR h.1 hy
  exact h.2.1 k hk) (fun y hy=>by
  obtain⟨k,hk,hk2,rfl⟩:=mem_dropR hy
  exact hlt k hk hk2)
 rw [show obsR (ps.take i)++obsR (ps.drop i)=obsR ps by unfold obsR;rw [← List.map_append,List.take_append_drop]] at hs
 rw [hs];simp [obsR]
theorem set_split (ps:List RawO) (i:Nat) (x:RawO) (hi:i<ps.length):ps.set i x=ps.take i++x::ps.drop (i+1):=by
 induction ps generalizing i with
 | nil=>simp at hi
 | cons a l ih=>
   cases i with
   | zero=>simp
   | succ i=>simp only [List.set_cons_succ,List.take_succ_cons,List.drop_succ_cons,List.cons_append];rw [ih i (by simpa using hi)]
theorem at_split (ps:List RawO) (i:Nat) (hi:i<ps.length):ps=ps.take i++ps.getD i default::ps.drop (i+1):=by
 have h:=set_split ps i (ps.getD i default) hi
 rw [← h]
 have e:ps.getD i default=ps[i]:=by simp [List.getD,hi]
 rw [e,List.set_getElem_self]
theorem set_with {ps:List RawO} {x:RawO} {i:Nat} (hi:i<ps.length) (hp:RiseR ps) (he:(ps.getD i default).1.1=x.1.1):obsR (ps.set i x)=withO (obsR ps) x.1:=by
 have hs:=withO_mid (obsR (ps.take i)) (obsR (ps.drop (i+1))) (ps.getD i default).1 x.1 he (fun y hy=>by
  obtain⟨k,hk,rfl⟩:=mem_takeR (by omega) hy
  rw [← he];exact hp k i hk hi) (fun y hy=>by
  obtain⟨k,hk,hk2,rfl⟩:=mem_dropR hy
  rw [← he];exact hp i k (by omega) hk2)
 have h2:obsR ps=obsR (ps.take i)++(ps.getD i default).1::obsR (ps.drop (i+1)):=by
  conv=>lhs;rw [at_split ps i hi]
  simp [obsR]
 rw [h2,hs,set_split ps i x hi]
 simp [obsR]
noncomputable def doR (ps:List RawO) (c:CallR):List ObR×ReplyR:=
 if rightR ps=true∧0≤c.1∧c.1≤4 then
  (if c.1=0 then
   (if isR ps c.2.1=true then (obsR ps,(8,0,[]))
    else if ps.length=8 then (obsR ps,(7,0,[]))
    else if (openO c).2.1=0 then (withO (obsR ps) (openO c).1,(openO c).2)
    else (obsR ps,((openO c).2.1,0,[])))
   else if isR ps c.2.1=true then
    (if (doO (ps.getD (posR ps c.2.1) default).1 c).2.1=0 then (withO (obsR ps) (doO (ps.getD (posR ps c.2.1) default).1 c).1,(doO (ps.getD (posR ps c.2.1) default).1 c).2)
     else (obsR ps,((doO (ps.getD (posR ps c.2.1) default).1 c).2.1,0,[])))
   else (obsR ps,(6,0,[])))
 else (obsR ps,(1,0,[]))
theorem openO_fail (c:CallR) (h:¬ (openO c).2.1=0):(openO c).2=((openO c).2.1,0,[]):=by
 unfold openO at h ⊢
 by_cases h0:c.1=0
 ·rw [if_pos h0] at h ⊢
  cases hz:sizesB c.2.2.1 c.2.2.2.1 c.2.2.2.2.1 with
  | true=>rw [hz] at h;exact absurd rfl h
  | false=>rfl
 ·rw [if_neg h0]
theorem openO_ok (c:CallR) (h:(openO c).2.1=0):(openO c).1.1=c.2.1∧(openO c).1.2.1.2.2.2=[]∧(openO c).2=(0,c.2.2.1,[])∧sizesB c.2.2.1 c.2.2.2.1 c.2.2.2.2.1=true∧(openO c).1=(c.2.1,(c.2.2.1,c.2.2.2.1,c.2.2.2.2.1,[]),0):=by
 unfold openO at h ⊢
 by_cases h0:c.1=0
 ·rw [if_pos h0] at h ⊢
  cases hz:sizesB c.2.2.1 c.2.2.2.1 c.2.2.2.2.1 with
  | true=>exact⟨rfl,rfl,rfl,rfl,rfl⟩
  | false=>rw [hz] at h;exact absurd (show (2:Int)=0 from h) (by decide)
 ·rw [if_neg h0] at h;exact absurd (show (1:Int)=0 from h) (by decide)
theorem actO_fail (o:ObR) (c:CallR) (h:¬ (actO o c).2.1=0):actO o c=(o,((actO o c).2.1,0,[])):=by
 unfold actO at h ⊢
 by_cases h1:c.1=1
 ·rw [if_pos h1] at h ⊢
  by_cases h2:whyI o.2.1.2.1 o.2.1.2.2.1 o.2.1.2.2.2 (c.2.2.2.2.2.1,c.2.2.2.2.2.2)=0
  ·rw [if_pos h2] at h;exact absurd rfl h
  ·rw [if_neg h2]
 ·rw [if_neg h1] at h ⊢
  by_cases h2:c.1=2
  ·rw [if_pos h2] at h;exact absurd rfl h
  ·rw [if_neg h2] at h ⊢
   by_cases h3:c.1=3
   ·rw [if_pos h3] at h ⊢
    have hn:=solveF_nil _ _ _ h
    rw [hn];rfl
   ·rw [if_neg h3] at h;exact absurd rfl h
theorem doO_fail (o:ObR) (c:CallR) (h:¬ (doO o c).2.1=0):doO o c=(o,((doO o c).2.1,0,[])):=by
 unfold doO at h ⊢
 by_cases h1:rightO o=true∧0≤c.1∧c.1≤4
 ·rw [if_pos h1] at h ⊢
  by_cases h2:c.1=0
  ·rw [if_pos h2]
  ·rw [if_neg h2] at h ⊢
   by_cases h3:o.2.2=1
   ·rw [if_pos h3]
   ·rw [if_neg h3] at h ⊢
    exact actO_fail o c h
 ·rw [if_neg h1]
theorem actO_id (o:ObR) (c:CallR):(actO o c).1.1=o.1:=by
 unfold actO
 by_cases h1:c.1=1
 ·rw [if_pos h1]
  by_cases h2:whyI o.2.1.2.1 o.2.1.2.2.1 o.2.1.2.2.2 (c.2.2.2.2.2.1,c.2.2.2.2.2.2)=0
  ·rw [if_pos h2]
  ·rw [if_neg h2]
 ·rw [if_neg h1]
  by_cases h2:c.1=2
  ·rw [if_pos h2]
  ·rw [if_neg h2]
   by_cases h3:c.1=3
   ·rw [if_pos h3]
   ·rw [if_neg h3]
theorem doO_id (o:ObR) (c:CallR):(doO o c).1.1=o.1:=by
 unfold doO
 by_cases h1:rightO o=true∧0≤c.1∧c.1≤4
 ·rw [if_pos h1]
  by_cases h2:c.1=0
  ·rw [if_pos h2]
  ·rw [if_neg h2]
   by_cases h3:o.2.2=1
   ·rw [if_pos h3]
   ·rw [if_neg h3];exact actO_id o c
 ·rw [if_neg h1]
theorem doO_with (os:List ObR) (o:ObR) (c:CallR) (hw:withO os o=os) :
  (if (doO o c).2.1=0 then (withO os (doO o c).1,(doO o c).2) else (os,((doO o c).2.1,0,[])))=(withO os (doO o c).1,(doO o c).2):=by
 by_cases h:(doO o c).2.1=0
 ·rw [if_pos h]
 ·rw [if_neg h]
  have e:=doO_fail o c h
  have e1:(doO o c).1=o:=by rw [e]
  have e2:(doO o c).2=((doO o c).2.1,0,[]):=by conv=>lhs;rw [e]
  rw [e1,hw]
  exact Prod.ext rfl e2.symm
theorem with_self {ps:List RawO} {i:Nat} (hi:i<ps.length) (hp:RiseR ps):withO (obsR ps) (ps.getD i default).1=obsR ps:=by
 have h:=set_with (x:=ps.getD i default) hi hp rfl
 rw [← h]
 have e:ps.getD i default=ps[i]:=by simp [List.getD,hi]
 rw [e,List.set_getElem_self]
def IdsB (os:List ObR):Prop:=∀ o∈os,o.1<18446744073709551616∧Ids o.2.1.2.2.2
theorem ids_obs {ps:List RawO} : IdsO ps↔IdsB (obsR ps):=by
 constructor
 ·intro h o ho
  obtain⟨p,hp,rfl⟩:=List.mem_map.1 ho
  obtain⟨k,hk,e⟩:=List.getElem_of_mem hp
  have:=h k
  rw [show ps.getD k default=p by simp [List.getD,hk,e]] at this
  exact this
 ·intro h j
  by_cases hj:j<ps.length
  ·have e:ps.getD j default=ps[j]:=by simp [List.getD,hj]
   rw [e]
   exact h _ (List.mem_map.2 ⟨ps[j],List.getElem_mem hj,rfl⟩)
  ·have e:ps.getD j default=default:=by simp [List.getD,List.getElem?_eq_none (by omega:ps.length≤j)]
   rw [e]
   exact⟨by simp [default],fun k=>by simp [default]⟩
theorem eqsR_iff (ps qs:List RawO) (m:Nat):eqsR ps qs m=true↔∀ j,j<m→(ps.getD j default).1=(qs.getD j default).1:=by
 unfold eqsR likeO
 rw [List.all_eq_true]
 constructor
 ·intro h j hj;exact of_decide_eq_true (h j (List.mem_range.2 hj))
 ·intro h j hj;exact decide_eq_true (h j (List.mem_range.1 hj))
theorem obs_get (ps:List RawO) (j:Nat) (h:j<(obsR ps).length):(obsR ps)[j]=(ps.getD j default).1:=by
 rw [obsR_len] at h
 simp [List.getD,h]
theorem sameR_iff (ps qs:List RawO):sameR ps qs=true↔obsR ps=obsR qs:=by
 unfold sameR
 rw [Bool.and_eq_true,decide_eq_true_eq,eqsR_iff]
 constructor
 ·rintro ⟨hl,h⟩
  refine List.ext_getElem (by rw [obsR_len,obsR_len,hl]) fun j h1 h2=>?_
  have h3:=h j (by rwa [obsR_len] at h1)
  rw [obs_get,obs_get]
  exact h3
 ·intro h
  refine⟨by rw [← obsR_len,h,obsR_len],fun j _=>?_⟩
  rw [← obsR_at,← obsR_at,h]
theorem sameR_self (ps:List RawO):sameR ps ps=true:=(sameR_iff ps ps).2 rfl
theorem okds_mem {w:World} {ps:List RawO} (h:∀ p∈ps,OkD w p):OkDs w ps:=fun j=>by
 by_cases hj:j<ps.length
 ·have e:ps.getD j default=ps[j]:=by simp [List.getD,hj]
  rw [e];exact h _ (List.getElem_mem hj)
 ·have e:ps.getD j default=default:=by simp [List.getD,List.getElem?_eq_none (by omega:ps.length≤j)]
  rw [e];exact OkD.zero w
theorem okds_of {w:World} {ps:List RawO} (h:OkDs w ps):∀ p∈ps,OkD w p:=fun p hp=>by
 obtain⟨k,hk,e⟩:=List.getElem_of_mem hp
 have:=h k
 rwa [show ps.getD k default=p by simp [List.getD,hk,e]] at this
def RcO (os:List ObR) (r:ReplyR) (w:World) (e:Ending) (w':World):Prop:=∃ qs:List RawO,obsR qs=os∧RcOut qs r w e w'
end
section
/- Layer 19: receivers that may be, and what a call leaves, as data. -/
open Go.RowKit Go.Lib
set_option maxRecDepth 100000
def RightB (os:List ObR):Prop:=os.length≤8∧(∀ o∈os,rightO o=true)∧os.Pairwise fun a b=>a.1<b.1
theorem rightR_iff (ps:List RawO):rightR ps=true↔RightB (obsR ps):=by
 constructor
 ·intro h
  have hr:=rise_of_right h
  unfold rightR rowsR at h
  rw [Bool.and_eq_true,decide_eq_true_eq,List.all_eq_true] at h
  refine⟨by rw [obsR_len];exact h.1,fun o ho=>?_,?_⟩
  ·obtain⟨k,hk,e⟩:=List.getElem_of_mem ho
   rw [obs_get] at e
   have h9:=h.2 k (List.mem_range.2 (by rwa [obsR_len] at hk))
   unfold stR at h9
   rw [Bool.and_eq_true] at h9
   rw [← e];exact h9.1
  ·rw [List.pairwise_iff_getElem]
   intro i j hi hj hij
   rw [obs_get,obs_get]
   exact hr i j hij (by rwa [obsR_len] at hj)
 ·rintro ⟨h1,h2,h3⟩
  unfold rightR rowsR
  rw [Bool.and_eq_true,decide_eq_true_eq,List.all_eq_true]
  refine⟨by rwa [obsR_len] at h1,fun k hk=>?_⟩
  have hk:=List.mem_range.1 hk
  have hk':k<(obsR ps).length:=by rw [obsR_len];exact hk
  unfold stR
  rw [Bool.and_eq_true]
  refine⟨by rw [← obs_get ps k hk'];exact h2 _ (List.getElem_mem hk'),?_⟩
  by_cases h0:k=0
  ·simp [h0]
  ·have h9:=(List.pairwise_iff_getElem.1 h3) (k-1) k (by omega) hk' (by omega)
   rw [obs_get,obs_get] at h9
   rw [decide_eq_true h9];simp
theorem posR_id {ps:List RawO} {id:Nat} (h:isR ps id=true):posR ps id<ps.length∧(ps.getD (posR ps id) default).1.1=id:=by
 have hl:posR ps id<ps.length:=of_decide_eq_true h
 refine⟨hl,?_⟩
 have h9:=List.findIdx_getElem (p:=fun p:RawO=>p.1.1==id) (xs:=ps) (w:=hl)
 have e:ps.getD (posR ps id) default=ps[posR ps id]:=by simp [List.getD,hl]
 rw [e]
 have h8:ps[List.findIdx (fun p:RawO=>p.1.1==id) ps].1.1=id:=by simpa using h9
 exact h8
end
section
/- KTail where just two operations may come up: both ways. No program. -/
section
variable {P:Program} {ops:Array Oper} {Q:Exit→Act→World→Prop} {md:Region.Mode} {Ss:List (Nat×(World→Prop))}
theorem headK_two {m i j:Nat} {o u:Oper} {f:Nat} {listed:Array Bool} {a:Act} {w:World} {L:Array Bool→Act→World→Prop} (hr:(Region.ready md ops listed==[i,j]&&decide (i<m)&&decide (j<m))=true) (ho:ops[i]?=some o) (hu:ops[j]?=some u)
  (h:∀ K':Act→World→Prop,Shut (∀ a w,heldK Ss (listed.setIfInBounds i true) w→headK P md ops Q Ss m L f (listed.setIfInBounds i true) a w→K' a w)→if Region.wanted o (yielded ops a.tmps)=true then Oper.wp P o a w K' Q else K' (a.put o.dst undef) w)
  (h2:∀ K':Act→World→Prop,Shut (∀ a w,heldK Ss (listed.setIfInBounds j true) w→headK P md ops Q Ss m L f (listed.setIfInBounds j true) a w→K' a w)→if Region.wanted u (yielded ops a.tmps)=true then Oper.wp P u a w K' Q else K' (a.put u.dst undef) w):headK P md ops Q Ss m L (f+1) listed a w:=by
 simp only [Bool.and_eq_true,beq_iff_eq,decide_eq_true_eq] at hr
 obtain⟨⟨hr,hi⟩,hj⟩:=hr
 refine⟨by rw [hr];simp,fun k hk=>?_⟩
 rw [hr] at hk
 rcases List.mem_cons.1 hk with rfl | hk
 ·exact⟨hi,wpOp_step ho (fun K' hK=>h K' (fun a w hS hW=>hK a w ⟨hS,hW⟩))⟩
 ·have hkj:k=j:=by simpa using hk
  subst hkj
  exact⟨hj,wpOp_step hu (fun K' hK=>h2 K' (fun a w hS hW=>hK a w ⟨hS,hW⟩))⟩
end
end
section
/- Layer 19: the two results of a call are stored. -/
open Go.RowKit Go.Lib
set_option maxRecDepth 100000
theorem Raws.neO {w:World} {A:Option Addr} {l:Nat} {ps:List RawO} {g:Nat} {t:TypeId} {cs:Array Value} (h:Raws w A l ps) (hb:Box w g t cs) (hns:∀ (i:Nat) (n:Int),cs[i]?≠some (.int .u64 n)):∀ b off,A=some ⟨b,off,none⟩→0<l→b≠g:=fun b off e hp he=>by
 obtain⟨b',off',e',-,hc⟩:=h.2 hp
 rw [e] at e'
 injection e' with e'
 injection e' with e1 e2 _
 subst e1 e2
 have h9:=hc 0 hp 0 _ rfl
 subst he
 rw [hb.cell] at h9
 exact hns _ _ h9
abbrev st4 (y:World) (g h:Nat) (u a b c:Value):World:=(((y.setCell ⟨g,0,none⟩ u).setCell ⟨h,0,none⟩ a).setCell ⟨h,1,none⟩ b).setCell ⟨h,2,none⟩ c
theorem st4_box {y:World} {g h:Nat} {t t':TypeId} {x p q r u a b c:Value} (hg:Box y g t #[x]) (hh:Box y h t' #[p,q,r]) (hn:g≠h):Box (st4 y g h u a b c) g t #[u]∧Box (st4 y g h u a b c) h t' #[a,b,c]:=
 ⟨(hg.put 0 u).far3o hn a b c,(hh.far (p:=⟨g,0,none⟩) hn.symm u).put3o⟩
theorem st4_below {B:Nat} {w y:World} (hb:Below B w y) {g h:Nat} (hg:B≤g) (hh:B≤h) (u a b c:Value):Below B w (st4 y g h u a b c):=below_set3o (hb.setCell (p:=⟨g,0,none⟩) hg u) hh a b c
theorem Raws.st4 {y:World} {A:Option Addr} {l:Nat} {ps:List RawO} {g h:Nat} {t t':TypeId} {cs ds:Array Value} (hx:Raws y A l ps) (hg:Box y g t cs) (hh:Box y h t' ds) (h1:∀ (i:Nat) (n:Int),cs[i]?≠some (.int .u64 n)) (h2:∀ (i:Nat) (n:Int),ds[i]?≠some (.int .u64 n)) (u a b c:Value):Raws (st4 y g h u a b c) A l ps:=by
 have n1:=Raws.neO hx hg h1
 have n2:=Raws.neO hx hh h2
 exact (((Recs.farB hx n1 0 u).farB n2 0 a).farB n2 1 b).farB n2 2 c
theorem OkDs.st4 {y:World} {ps:List RawO} {g h:Nat} {t t':TypeId} {cs ds:Array Value} (hx:OkDs y ps) (hg:Box y g t cs) (hh:Box y h t' ds) (h1:∀ (i:Nat) (s:ByteArray),cs[i]?≠some (.string s)) (h2:∀ (i:Nat) (s:ByteArray),ds[i]?≠some (.string s)) (u a b c:Value):OkDs (st4 y g h u a b c) ps:=fun j=>by
 have n1:=Syms.neO (hx j).2 hg h1
 have n2:=Syms.neO (hx j).2 hh h2
 exact⟨(hx j).1,(((Recs.farB (hx j).2 n1 0 u).farB n2 0 a).farB n2 1 b).farB n2 2 c⟩
theorem Texts.st4 {y:World} {A:Option Addr} {l:Nat} {ss:List ByteArray} {g h:Nat} {t t':TypeId} {cs ds:Array Value} (hx:Texts y A l ss) (hg:Box y g t cs) (hh:Box y h t' ds) (h1:∀ (i:Nat) (s:ByteArray),cs[i]?≠some (.string s)) (h2:∀ (i:Nat) (s:ByteArray),ds[i]?≠some (.string s)) (u a b c:Value):Texts (st4 y g h u a b c) A l ss:=by
 have n1:=Texts.neO hx hg h1
 have n2:=Texts.neO hx hh h2
 exact (((Texts.farN hx n1 0 u).farN (fun b off e hp=>n2 b off e hp) 0 a).farN (fun b off e hp=>n2 b off e hp) 1 b).farN (fun b off e hp=>n2 b off e hp) 2 c
theorem rcz_str (i:Nat) (s:ByteArray):(#[Value.slice none 0 0]:Array Value)[i]?≠some (.string s):=by
 match i with
 | 0=>simp
 | i+1=>simp
theorem rcz_u64 (i:Nat) (n:Int):(#[Value.slice none 0 0]:Array Value)[i]?≠some (.int .u64 n):=by
 match i with
 | 0=>simp
 | i+1=>simp
theorem rz_u64 (i:Nat) (n:Int):rZ[i]?≠some (.int .u64 n):=by
 match i with
 | 0=>simp [rZ]
 | 1=>simp [rZ]
 | 2=>simp [rZ]
 | i+3=>simp [rZ]
abbrev cZ:Array Value:=#[.slice none 0 0]
theorem rc_store {B:Nat} {w y:World} {g h:Nat} {qs:List RawO} {r:ReplyR} {A C:Option Addr} {d e:Nat} (hb:Below B w y) (hg:Box y g 48 cZ) (hh:Box y h 36 rZ) (hn:g≠h) (h1:B≤g) (h2:B≤h)
  (hx:Raws y A qs.length qs) (hd:OkDs y qs) (ht:Texts y C r.2.2.length r.2.2):∃ z,z=st4 y g h (.slice A qs.length d) (.int .i64 r.1) (.int .i64 r.2.1) (.slice C r.2.2.length e)∧Box z g 48 #[.slice A qs.length d]∧Box z h 36 #[.int .i64 r.1,.int .i64 r.2.1,.slice C r.2.2.length e]∧Raws z A qs.length qs∧OkDs z qs∧Texts z C r.2.2.length r.2.2∧Below B w z:=by
 have hq:=st4_box hg hh hn (u:=.slice A qs.length d) (a:=.int .i64 r.1) (b:=.int .i64 r.2.1) (c:=.slice C r.2.2.length e)
 exact⟨_,rfl,hq.1,hq.2,hx.st4 hg hh rcz_u64 rz_u64 _ _ _ _,hd.st4 hg hh rcz_str rz_no _ _ _ _,Texts.st4 ht hg hh rcz_str rz_no _ _ _ _,st4_below hb h1 h2 _ _ _ _⟩
theorem size_set19 (w:World) (a:Addr) (v:Value):(w.setCell a v).heap.size=w.heap.size:=by simp [World.setCell]
theorem fill6 {w:World} {g:Nat} (hb:Box w g 27 oZ) (u v x y z k:Value):∃ w',w'=(((((w.setCell ⟨g,0,none⟩ u).setCell ⟨g,1,none⟩ v).setCell ⟨g,2,none⟩ x).setCell ⟨g,3,none⟩ y).setCell ⟨g,4,none⟩ z).setCell ⟨g,5,none⟩ k∧Box w' g 27 #[u,v,x,y,z,k]∧(∀ {h:Nat} {t:TypeId} {cs:Array Value},h≠g→Box w h t cs→Box w' h t cs)∧(∀ {A:Option Addr} {l:Nat} {xs:List SymR},Syms w A l xs→Syms w' A l xs)∧(∀ {A:Option Addr} {l:Nat} {ss:List ByteArray},Texts w A l ss→Texts w' A l ss)∧(∀ {B:Nat} {w0:World},Below B w0 w→B≤g→Below B w0 w')∧w'.heap.size=w.heap.size:=by
 refine⟨_,rfl,hb.put6o,fun hn h=>h.far6o hn _ _ _ _ _ _,fun h=>?_,fun h=>?_,fun h hg=>below_set6o h hg _ _ _ _ _ _,by simp only [size_set19]⟩
 ·have n:=Syms.neO h hb oz_no
  exact (((((Recs.farB h n 0 u).farB n 1 v).farB n 2 x).farB n 3 y).farB n 4 z).farB n 5 k
 ·have n:=Texts.neO h hb oz_no
  exact (((((Texts.farN h n 0 u).farN (fun b off e hp=>n b off e hp) 1 v).farN (fun b off e hp=>n b off e hp) 2 x).farN (fun b off e hp=>n b off e hp) 3 y).farN (fun b off e hp=>n b off e hp) 4 z).farN (fun b off e hp=>n b off e hp) 5 k
theorem fill3 {w:World} {g:Nat} (hb:Box w g 36 rZ) (u v x:Value):∃ w',w'=((w.setCell ⟨g,0,none⟩ u).setCell ⟨g,1,none⟩ v).setCell ⟨g,2,none⟩ x∧Box w' g 36 #[u,v,x]∧(∀ {h:Nat} {t:TypeId} {cs:Array Value},h≠g→Box w h t cs→Box w' h t cs)∧(∀ {A:Option Addr} {l:Nat} {xs:List SymR},Syms w A l xs→Syms w' A l xs)∧(∀ {A:Option Addr} {l:Nat} {ss:List ByteArray},Texts w A l ss→Texts w' A l ss)∧(∀ {B:Nat} {w0:World},Below B w0 w→B≤g→Below B w0 w')∧w'.heap.size=w.heap.size:=by
 refine⟨_,rfl,hb.put3o,fun hn h=>h.far3o hn _ _ _,fun h=>?_,fun h=>?_,fun h hg=>below_set3o h hg _ _ _,by simp only [size_set19]⟩
 ·have n:=Syms.neO h hb rz_no
  exact ((Recs.farB h n 0 u).farB n 1 v).farB n 2 x
 ·have n:=Texts.neO h hb rz_no
  exact ((Texts.farN h n 0 u).farN (fun b off e hp=>n b off e hp) 1 v).farN (fun b off e hp=>n b off e hp) 2 x
abbrev R4W (a c:Array Value) (w:World):World:=(((w.alloc (.cells a 48)).alloc (.cells c 31)).alloc (.cells cZ 48)).alloc (.cells rZ 36)
theorem R4_gen (a c:Array Value) (w:World):Box (R4W a c w) w.heap.size 48 a∧Box (R4W a c w) (w.heap.size+1) 31 c∧Box (R4W a c w) (w.heap.size+1+1) 48 cZ∧Box (R4W a c w) (w.heap.size+1+1+1) 36 rZ∧Below w.heap.size w (R4W a c w):=by
 refine⟨(((Box.new w _ _).alloc _).alloc _).alloc _,?_,?_,?_,((((Below.refl _ _).alloc (Nat.le_refl _) _).alloc (by simp) _).alloc (by simp;omega) _).alloc (by simp;omega) _⟩
 ·have q:=((Box.new (w.alloc (.cells a 48)) 31 c).alloc (.cells cZ 48)).alloc (.cells rZ 36)
  simpa only [World.size_alloc] using q
 ·have q:=(Box.new ((w.alloc (.cells a 48)).alloc (.cells c 31)) 48 cZ).alloc (.cells rZ 36)
  simpa only [World.size_alloc] using q
 ·have q:=Box.new (((w.alloc (.cells a 48)).alloc (.cells c 31)).alloc (.cells cZ 48)) 36 rZ
  simpa only [World.size_alloc] using q
end
section
/- KTail where just three operations may come up: each way. No program. -/
section
variable {P:Program} {ops:Array Oper} {Q:Exit→Act→World→Prop} {md:Region.Mode} {Ss:List (Nat×(World→Prop))}
theorem headK_three {m i j l:Nat} {o u v:Oper} {f:Nat} {listed:Array Bool} {a:Act} {w:World} {L:Array Bool→Act→World→Prop} (hr:(Region.ready md ops listed==[i,j,l]&&decide (i<m)&&decide (j<m)&&decide (l<m))=true) (ho:ops[i]?=some o) (hu:ops[j]?=some u) (hv:ops[l]?=some v)
  (h:∀ K':Act→World→Prop,Shut (∀ a w,heldK Ss (listed.setIfInBounds i true) w→headK P md ops Q Ss m L f (listed.setIfInBounds i true) a w→K' a w)→if Region.wanted o (yielded ops a.tmps)=true then Oper.wp P o a w K' Q else K' (a.put o.dst undef) w)
  (h2:∀ K':Act→World→Prop,Shut (∀ a w,heldK Ss (listed.setIfInBounds j true) w→headK P md ops Q Ss m L f (listed.setIfInBounds j true) a w→K' a w)→if Region.wanted u (yielded ops a.tmps)=true then Oper.wp P u a w K' Q else K' (a.put u.dst undef) w)
  (h3:∀ K':Act→World→Prop,Shut (∀ a w,heldK Ss (listed.setIfInBounds l true) w→headK P md ops Q Ss m L f (listed.setIfInBounds l true) a w→K' a w)→if Region.wanted v (yielded ops a.tmps)=true then Oper.wp P v a w K' Q else K' (a.put v.dst undef) w):headK P md ops Q Ss m L (f+1) listed a w:=by
 simp only [Bool.and_eq_true,beq_iff_eq,decide_eq_true_eq] at hr
 obtain⟨⟨⟨hr,hi⟩,hj⟩,hl⟩:=hr
 refine⟨by rw [hr];simp,fun k hk=>?_⟩
 rw [hr] at hk
 rcases List.mem_cons.1 hk with rfl | hk
 ·exact⟨hi,wpOp_step ho (fun K' hK=>h K' (fun a w hS hW=>hK a w ⟨hS,hW⟩))⟩
 ·rcases List.mem_cons.1 hk with rfl | hk
  ·exact⟨hj,wpOp_step hu (fun K' hK=>h2 K' (fun a w hS hW=>hK a w ⟨hS,hW⟩))⟩
  ·have hkl:k=l:=by simpa using hk
   subst hkl
   exact⟨hl,wpOp_step hv (fun K' hK=>h3 K' (fun a w hS hW=>hK a w ⟨hS,hW⟩))⟩
end
end
end Go.Proofs.YtcikoaeiopbbbaaGreat
