/- Parts: RvW, RvD, RvY. -/
import Derived.Test.YtcikoaeiopbbbaaGreatZi
import Derived.Shelf.Abstract
namespace Go.Proofs.YtcikoaeiopbbbaaGreat
set_option linter.unusedVariables false
set_option linter.unusedSimpArgs false
set_option linter.unusedSectionVars false
set_option maxHeartbeats 16000000
section
open Go.RowKit Go.Lib
set_option maxRecDepth 100000
theorem rdoD_bad (A:Option Addr) (cp:Nat) (ps:List RawO) (c:CallR) (w:World) (hs:SliceOk A ps.length cp) (hx:Raws w A ps.length ps) (hd:OkDs w ps) (hr:rightR ps=false):Calls Tryz.prog 16 #[.agg #[.slice A ps.length cp],callV c] w (RcD (obsR ps) (1,0,[]) w):=by
 obtain⟨q2,q3,q4,b5⟩:=O3_gen #[.slice A ps.length cp] (callL c).toArray w
 have Q2:=hZ q2
 have Q3:=hZ q3
 have Q4:=hZ q4
 have HB:=hZ b5
 have HX:=hZ (Recs.below hx b5)
 have HD:=hZ (OkDs.below hd b5)
 have r0:=Q2.out.cell 0
 obtain⟨v0,v1,v2,v3,v4,v5,v6⟩:=Q3.out.sevenO
 have HR:=hZ (fun wy (hb:Below w.heap.size w wy)=>rcright19_any (.agg #[.slice A ps.length cp]) ps wy ⟨A,cp,rfl,hs,Recs.below hx hb,OkDs.below hd hb⟩)
 rw [hr] at HR
 clear q2 q3 q4 b5 hx hd
 go_enter Tryz.func16,Tryz.ntmps16
 go_wp2_with fail
 refine (HR.out _ HB.out).mono ?_
 rintro e w0 ⟨rfl,hb⟩
 replace Q2:=hZ (Q2.out.keep hb)
 replace Q3:=hZ (Q3.out.keep hb)
 replace Q4:=hZ (Q4.out.keep hb)
 replace HX:=hZ (Recs.below HX.out hb)
 replace HD:=hZ (OkDs.below HD.out hb)
 replace HB:=hZ (chain HB.out hb)
 clear hb r0 v0 v1 v2 v3 v4 v5 v6 HR
 have r0:=Q2.out.cell 0
 obtain⟨v0,v1,v2,v3,v4,v5,v6⟩:=Q3.out.sevenO
 obtain⟨e0,e1,e2,e3⟩:=Q4.out.fourD
 have f0:=Q4.out.free 0
 have f1:=Q4.out.free 1
 have f2:=Q4.out.free 2
 have f3:=Q4.out.free 3
 go_wp2_with fail
 obtain⟨z,hz,z1,z3,z4,z5,z6⟩:=rd_store (B:=w.heap.size) (r:=((1,0,[]):ReplyR)) (d:=cp) (e:=0) HB.out Q4.out (by omega) HX.out HD.out (C:=none) (Texts.nil _ _)
 subst hz
 refine close_one Tryz.results16 rfl rfl z1 Tryz.underlying53 rfl (by kernel_rfl) ?_
 exact⟨ps,A,cp,none,0,rfl,rfl,hs,z3,z4,z5,z6⟩
theorem rdoD_low (A:Option Addr) (cp:Nat) (ps:List RawO) (c:CallR) (w:World) (hs:SliceOk A ps.length cp) (hx:Raws w A ps.length ps) (hd:OkDs w ps) (hr:rightR ps=true) (h0:c.1<0):Calls Tryz.prog 16 #[.agg #[.slice A ps.length cp],callV c] w (RcD (obsR ps) (1,0,[]) w):=by
 obtain⟨q2,q3,q4,b5⟩:=O3_gen #[.slice A ps.length cp] (callL c).toArray w
 have Q2:=hZ q2
 have Q3:=hZ q3
 have Q4:=hZ q4
 have HB:=hZ b5
 have HX:=hZ (Recs.below hx b5)
 have HD:=hZ (OkDs.below hd b5)
 have r0:=Q2.out.cell 0
 obtain⟨v0,v1,v2,v3,v4,v5,v6⟩:=Q3.out.sevenO
 have HR:=hZ (fun wy (hb:Below w.heap.size w wy)=>rcright19_any (.agg #[.slice A ps.length cp]) ps wy ⟨A,cp,rfl,hs,Recs.below hx hb,OkDs.below hd hb⟩)
 rw [hr] at HR
 have t1:decide (c.1<0)=true:=decide_eq_true h0
 clear q2 q3 q4 b5 hx hd
 go_enter Tryz.func16,Tryz.ntmps16
 go_wp2_with fail
 refine (HR.out _ HB.out).mono ?_
 rintro e w0 ⟨rfl,hb⟩
 replace Q2:=hZ (Q2.out.keep hb)
 replace Q3:=hZ (Q3.out.keep hb)
 replace Q4:=hZ (Q4.out.keep hb)
 replace HX:=hZ (Recs.below HX.out hb)
 replace HD:=hZ (OkDs.below HD.out hb)
 replace HB:=hZ (chain HB.out hb)
 clear hb r0 v0 v1 v2 v3 v4 v5 v6 HR
 have r0:=Q2.out.cell 0
 obtain⟨v0,v1,v2,v3,v4,v5,v6⟩:=Q3.out.sevenO
 obtain⟨e0,e1,e2,e3⟩:=Q4.out.fourD
 have f0:=Q4.out.free 0
 have f1:=Q4.out.free 1
 have f2:=Q4.out.free 2
 have f3:=Q4.out.free 3
 go_wp2_with fail
 obtain⟨z,hz,z1,z3,z4,z5,z6⟩:=rd_store (B:=w.heap.size) (r:=((1,0,[]):ReplyR)) (d:=cp) (e:=0) HB.out Q4.out (by omega) HX.out HD.out (C:=none) (Texts.nil _ _)
 subst hz
 refine close_one Tryz.results16 rfl rfl z1 Tryz.underlying53 rfl (by kernel_rfl) ?_
 exact⟨ps,A,cp,none,0,rfl,rfl,hs,z3,z4,z5,z6⟩
theorem rdoD_high (A:Option Addr) (cp:Nat) (ps:List RawO) (c:CallR) (w:World) (hs:SliceOk A ps.length cp) (hx:Raws w A ps.length ps) (hd:OkDs w ps) (hr:rightR ps=true) (h0:4<c.1):Calls Tryz.prog 16 #[.agg #[.slice A ps.length cp],callV c] w (RcD (obsR ps) (1,0,[]) w):=by
 obtain⟨q2,q3,q4,b5⟩:=O3_gen #[.slice A ps.length cp] (callL c).toArray w
 have Q2:=hZ q2
 have Q3:=hZ q3
 have Q4:=hZ q4
 have HB:=hZ b5
 have HX:=hZ (Recs.below hx b5)
 have HD:=hZ (OkDs.below hd b5)
 have r0:=Q2.out.cell 0
 obtain⟨v0,v1,v2,v3,v4,v5,v6⟩:=Q3.out.sevenO
 have HR:=hZ (fun wy (hb:Below w.heap.size w wy)=>rcright19_any (.agg #[.slice A ps.length cp]) ps wy ⟨A,cp,rfl,hs,Recs.below hx hb,OkDs.below hd hb⟩)
 rw [hr] at HR
 have t1:¬ c.1<0:=by omega
 have t2:c.1>4:=h0
 clear q2 q3 q4 b5 hx hd
 go_enter Tryz.func16,Tryz.ntmps16
 go_wp2_with fail
 refine (HR.out _ HB.out).mono ?_
 rintro e w0 ⟨rfl,hb⟩
 replace Q2:=hZ (Q2.out.keep hb)
 replace Q3:=hZ (Q3.out.keep hb)
 replace Q4:=hZ (Q4.out.keep hb)
 replace HX:=hZ (Recs.below HX.out hb)
 replace HD:=hZ (OkDs.below HD.out hb)
 replace HB:=hZ (chain HB.out hb)
 clear hb r0 v0 v1 v2 v3 v4 v5 v6 HR
 have r0:=Q2.out.cell 0
 obtain⟨v0,v1,v2,v3,v4,v5,v6⟩:=Q3.out.sevenO
 obtain⟨e0,e1,e2,e3⟩:=Q4.out.fourD
 have f0:=Q4.out.free 0
 have f1:=Q4.out.free 1
 have f2:=Q4.out.free 2
 have f3:=Q4.out.free 3
 go_wp2_with fail
 obtain⟨z,hz,z1,z3,z4,z5,z6⟩:=rd_store (B:=w.heap.size) (r:=((1,0,[]):ReplyR)) (d:=cp) (e:=0) HB.out Q4.out (by omega) HX.out HD.out (C:=none) (Texts.nil _ _)
 subst hz
 refine close_one Tryz.results16 rfl rfl z1 Tryz.underlying53 rfl (by kernel_rfl) ?_
 exact⟨ps,A,cp,none,0,rfl,rfl,hs,z3,z4,z5,z6⟩
theorem rdoD_open (A:Option Addr) (cp:Nat) (ps:List RawO) (c:CallR) (w:World) (hs:SliceOk A ps.length cp) (hx:Raws w A ps.length ps) (hd:OkDs w ps) (hr:rightR ps=true) (h0:c.1=0):Calls Tryz.prog 16 #[.agg #[.slice A ps.length cp],callV c] w (RcD (doR ps c).1 (doR ps c).2 w):=by
 obtain⟨q2,q3,q4,b5⟩:=O3_gen #[.slice A ps.length cp] (callL c).toArray w
 have Q2:=hZ q2
 have Q3:=hZ q3
 have Q4:=hZ q4
 have HB:=hZ b5
 have HX:=hZ (Recs.below hx b5)
 have HD:=hZ (OkDs.below hd b5)
 have r0:=Q2.out.cell 0
 obtain⟨v0,v1,v2,v3,v4,v5,v6⟩:=Q3.out.sevenO
 have HR:=hZ (fun wy (hb:Below w.heap.size w wy)=>rcright19_any (.agg #[.slice A ps.length cp]) ps wy ⟨A,cp,rfl,hs,Recs.below hx hb,OkDs.below hd hb⟩)
 rw [hr] at HR
 have t1:¬ c.1<0:=by omega
 have t2:¬ c.1>4:=by omega
 have t3:(c.1==0)=true:=by simpa using h0
 have HOp:=hZ (fun wy (hb:Below w.heap.size w wy)=>ropen19_any A cp ps c wy hs (Recs.below hx hb) (OkDs.below hd hb) hr h0)
 obtain⟨rr,hrr⟩:∃ y,y=doR ps c:=⟨_,rfl⟩
 rw [← hrr] at HOp ⊢
 clear h0 hr hrr
 obtain⟨os,r1,r2,bl⟩:=rr
 clear q2 q3 q4 b5 hx hd
 go_enter Tryz.func16,Tryz.ntmps16
 go_wp2_with fail
 refine (HR.out _ HB.out).mono ?_
 rintro e w0 ⟨rfl,hb⟩
 replace Q2:=hZ (Q2.out.keep hb)
 replace Q3:=hZ (Q3.out.keep hb)
 replace Q4:=hZ (Q4.out.keep hb)
 replace HX:=hZ (Recs.below HX.out hb)
 replace HD:=hZ (OkDs.below HD.out hb)
 replace HB:=hZ (chain HB.out hb)
 clear hb r0 v0 v1 v2 v3 v4 v5 v6 HR
 have r0:=Q2.out.cell 0
 obtain⟨v0,v1,v2,v3,v4,v5,v6⟩:=Q3.out.sevenO
 go_wp2_with fail
 refine (HOp.out _ HB.out).mono ?_
 rintro e y ⟨qs,A2,d2,B2,c2,hqs,rfl,hs2,hx2,hd2,ht2,hb⟩
 have HX2:=hZ hx2
 have HD2:=hZ hd2
 have HT2:=hZ ht2
 replace Q4:=hZ (Q4.out.keep hb)
 replace HB:=hZ (chain HB.out hb)
 clear hb hx2 hd2 ht2 HOp r0 v0 v1 v2 v3 v4 v5 v6 HX HD Q2 Q3
 replace HX:=HX2
 replace HD:=HD2
 obtain⟨e0,e1,e2,e3⟩:=Q4.out.fourD
 have f0:=Q4.out.free 0
 have f1:=Q4.out.free 1
 have f2:=Q4.out.free 2
 have f3:=Q4.out.free 3
 go_wp2_with fail
 obtain⟨z,hz,z1,z3,z4,z5,z6⟩:=rd_store (B:=w.heap.size) (r:=((r1,r2,bl):ReplyR)) (d:=d2) (e:=c2) HB.out Q4.out (by omega) HX.out HD.out (C:=B2) (HT2.out)
 subst hz
 refine close_one Tryz.results16 rfl rfl z1 Tryz.underlying53 rfl (by kernel_rfl) ?_
 exact⟨qs,A2,d2,B2,c2,hqs,rfl,hs2,z3,z4,z5,z6⟩
theorem rdoD_none (A:Option Addr) (cp:Nat) (ps:List RawO) (c:CallR) (w:World) (hs:SliceOk A ps.length cp) (hx:Raws w A ps.length ps) (hd:OkDs w ps) (hr:rightR ps=true) (h0:0<c.1) (h4:c.1≤4) (hn:isR ps c.2.1=false):Calls Tryz.prog 16 #[.agg #[.slice A ps.length cp],callV c] w (RcD (obsR ps) (6,0,[]) w):=by
 obtain⟨q2,q3,q4,b5⟩:=O3_gen #[.slice A ps.length cp] (callL c).toArray w
 have Q2:=hZ q2
 have Q3:=hZ q3
 have Q4:=hZ q4
 have HB:=hZ b5
 have HX:=hZ (Recs.below hx b5)
 have HD:=hZ (OkDs.below hd b5)
 have r0:=Q2.out.cell 0
 obtain⟨v0,v1,v2,v3,v4,v5,v6⟩:=Q3.out.sevenO
 have HR:=hZ (fun wy (hb:Below w.heap.size w wy)=>rcright19_any (.agg #[.slice A ps.length cp]) ps wy ⟨A,cp,rfl,hs,Recs.below hx hb,OkDs.below hd hb⟩)
 have HAt:=hZ (fun wy (hb:Below w.heap.size w wy)=>rcat_any (.agg #[.slice A ps.length cp]) ps c.2.1 wy ⟨A,cp,rfl,hs,Recs.below hx hb,OkDs.below hd hb⟩)
 rw [hr] at HR
 have t1:¬ c.1<0:=by omega
 have t2:¬ c.1>4:=by omega
 have t3:(c.1==0)=false:=by rw [beq_eq_false_iff_ne];omega
 rw [at_no hn] at HAt
 clear hn h0 h4
 clear q2 q3 q4 b5 hx hd
 go_enter Tryz.func16,Tryz.ntmps16
 go_wp2_with fail
 refine (HR.out _ HB.out).mono ?_
 rintro e w0 ⟨rfl,hb⟩
 replace Q2:=hZ (Q2.out.keep hb)
 replace Q3:=hZ (Q3.out.keep hb)
 replace Q4:=hZ (Q4.out.keep hb)
 replace HX:=hZ (Recs.below HX.out hb)
 replace HD:=hZ (OkDs.below HD.out hb)
 replace HB:=hZ (chain HB.out hb)
 clear hb r0 v0 v1 v2 v3 v4 v5 v6 HR
 have r0:=Q2.out.cell 0
 obtain⟨v0,v1,v2,v3,v4,v5,v6⟩:=Q3.out.sevenO
 go_wp2_with fail
 refine (HAt.out _ HB.out).mono ?_
 rintro e wa ⟨rfl,hb⟩
 replace Q2:=hZ (Q2.out.keep hb)
 replace Q3:=hZ (Q3.out.keep hb)
 replace Q4:=hZ (Q4.out.keep hb)
 replace HX:=hZ (Recs.below HX.out hb)
 replace HD:=hZ (OkDs.below HD.out hb)
 replace HB:=hZ (chain HB.out hb)
 clear hb r0 v0 v1 v2 v3 v4 v5 v6 HAt
 have r0:=Q2.out.cell 0
 obtain⟨v0,v1,v2,v3,v4,v5,v6⟩:=Q3.out.sevenO
 obtain⟨e0,e1,e2,e3⟩:=Q4.out.fourD
 have f0:=Q4.out.free 0
 have f1:=Q4.out.free 1
 have f2:=Q4.out.free 2
 have f3:=Q4.out.free 3
 go_wp2_with fail
 obtain⟨z,hz,z1,z3,z4,z5,z6⟩:=rd_store (B:=w.heap.size) (r:=((6,0,[]):ReplyR)) (d:=cp) (e:=0) HB.out Q4.out (by omega) HX.out HD.out (C:=none) (Texts.nil _ _)
 subst hz
 refine close_one Tryz.results16 rfl rfl z1 Tryz.underlying53 rfl (by kernel_rfl) ?_
 exact⟨ps,A,cp,none,0,rfl,rfl,hs,z3,z4,z5,z6⟩
theorem rdoD_there (A:Option Addr) (cp:Nat) (ps:List RawO) (c:CallR) (w:World) (hs:SliceOk A ps.length cp) (hx:Raws w A ps.length ps) (hd:OkDs w ps) (hids:IdsO ps) (hci:c.2.2.2.2.2.1<18446744073709551616) (hr:rightR ps=true) (h0:0<c.1) (h4:c.1≤4) (hn:isR ps c.2.1=true):Calls Tryz.prog 16 #[.agg #[.slice A ps.length cp],callV c] w (RcD (withO (obsR ps) (doO (ps.getD (posR ps c.2.1) default).1 c).1) (doO (ps.getD (posR ps c.2.1) default).1 c).2 w):=by
 have hpi:=posR_id hn
 have hlm:ps.length≤8:=by have:=((rightR_iff ps).1 hr).1;rwa [obsR_len] at this
 obtain⟨q2,q3,q4,b5⟩:=O3_gen #[.slice A ps.length cp] (callL c).toArray w
 have Q2:=hZ q2
 have Q3:=hZ q3
 have Q4:=hZ q4
 have HB:=hZ b5
 have HX:=hZ (Recs.below hx b5)
 have HD:=hZ (OkDs.below hd b5)
 have r0:=Q2.out.cell 0
 obtain⟨v0,v1,v2,v3,v4,v5,v6⟩:=Q3.out.sevenO
 have HR:=hZ (fun wy (hb:Below w.heap.size w wy)=>rcright19_any (.agg #[.slice A ps.length cp]) ps wy ⟨A,cp,rfl,hs,Recs.below hx hb,OkDs.below hd hb⟩)
 have HAt:=hZ (fun wy (hb:Below w.heap.size w wy)=>rcat_any (.agg #[.slice A ps.length cp]) ps c.2.1 wy ⟨A,cp,rfl,hs,Recs.below hx hb,OkDs.below hd hb⟩)
 rw [hr] at HR
 have t1:¬ c.1<0:=by omega
 have t2:¬ c.1>4:=by omega
 have t3:(c.1==0)=false:=by rw [beq_eq_false_iff_ne];omega
 rw [at_yes hn] at HAt
 obtain⟨i,hi⟩:∃ i,i=posR ps c.2.1:=⟨_,rfl⟩
 rw [← hi] at HAt hpi ⊢
 have hil:=hpi.1
 have HDo:=hZ (fun (wx wy:World) (h:Below w.heap.size w wx) (hb:Below wx.heap.size wx wy)=>rdo_any (ps.getD i default).1 (ps.getD i default).2.1 (ps.getD i default).2.2 c wy (hd i).1 (Recs.below (Recs.below (hd i).2 h) hb) (hids i).2 hci)
 have hil':(i:Int)<(ps.length:Int):=by omega
 have hi0:(0:Int)≤(i:Int):=by omega
 have hi1:¬ (i:Int)<0:=by omega
 have HSo:=hZ hs
 have HLM:=hZ hlm
 have HI:=hZ hil
 obtain⟨p,hp⟩:∃ y,y=ps.getD i default:=⟨_,rfl⟩
 rw [← hp] at HDo ⊢
 have HP:=hZ hp
 obtain⟨dd,hdd⟩:∃ y,y=doO p.1 c:=⟨_,rfl⟩
 rw [← hdd] at HDo ⊢
 clear hn h0 h4 hids hci hpi hr hi hil hp hdd hlm
 obtain⟨oo,r1,r2,bl⟩:=dd
 clear q2 q3 q4 b5 hx hd
 go_enter Tryz.func16,Tryz.ntmps16
 go_wp2_with fail
 refine (HR.out _ HB.out).mono ?_
 rintro e w0 ⟨rfl,hb⟩
 replace Q2:=hZ (Q2.out.keep hb)
 replace Q3:=hZ (Q3.out.keep hb)
 replace Q4:=hZ (Q4.out.keep hb)
 replace HX:=hZ (Recs.below HX.out hb)
 replace HD:=hZ (OkDs.below HD.out hb)
 replace HB:=hZ (chain HB.out hb)
 clear hb r0 v0 v1 v2 v3 v4 v5 v6 HR
 have r0:=Q2.out.cell 0
 obtain⟨v0,v1,v2,v3,v4,v5,v6⟩:=Q3.out.sevenO
 go_wp2_with fail
 refine (HAt.out _ HB.out).mono ?_
 rintro e wa ⟨rfl,hb⟩
 replace Q2:=hZ (Q2.out.keep hb)
 replace Q3:=hZ (Q3.out.keep hb)
 replace Q4:=hZ (Q4.out.keep hb)
 replace HX:=hZ (Recs.below HX.out hb)
 replace HD:=hZ (OkDs.below HD.out hb)
 replace HB:=hZ (chain HB.out hb)
 clear hb r0 v0 v1 v2 v3 v4 v5 v6 HAt
 have r0:=Q2.out.cell 0
 obtain⟨v0,v1,v2,v3,v4,v5,v6⟩:=Q3.out.sevenO
 clear v0 v1 v2 v3 v4 v5 v6
 obtain⟨b,off,hA,hbk,x0,x1,x2,x3,x4,x5⟩:=HX.out.six i HI.out
 rw [← HP.out] at x0 x1 x2 x3 x4 x5
 subst hA
 have HBK:=hZ hbk
 clear r0
 have r0:=Q2.out.cell 0
 obtain⟨v0,v1,v2,v3,v4,v5,v6⟩:=Q3.out.sevenO
 obtain⟨WW,rfl⟩:∃ x:World,x=wa:=⟨_,rfl⟩
 replace HDo:=hZ (fun wy hy=>HDo.out WW wy HB.out hy)
 clear hbk
 go_upto_region 8 with (fail)
 go_cut [6] (fun pv wx=>∃ (g6:Nat) (A3:Option Addr) (d3:Nat) (B3:Option Addr) (c3:Nat),pv=.pointer (some ⟨g6,0,none⟩)∧Hid (Box wx g6 40 #[.int .u64 (oo.1:Nat),.int .i64 oo.2.1.1,.int .i64 oo.2.1.2.1,.int .i64 oo.2.1.2.2.1,.slice A3 oo.2.1.2.2.2.length d3,.int .i64 oo.2.2,.int .i64 r1,.int .i64 r2,.slice B3 bl.length c3])∧Hid (SliceOk A3 oo.2.1.2.2.2.length d3)∧Hid (Below WW.heap.size WW wx)∧Hid (Syms wx A3 oo.2.1.2.2.2.length oo.2.1.2.2.2)∧Hid (Texts wx B3 bl.length bl)∧Hid (WW.heap.size≤g6))
 case first=>
  refine wp_heldK_bar [(8,(fun (w':World)=>w'.cell? ⟨w.heap.size,0,none⟩=some (.slice (some ⟨b,off,none⟩) ps.length cp))),(6,(fun (w':World)=>w'.cell? ⟨b,off+i*6,none⟩=some (.int .u64 (p.1.1:Nat))∧w'.cell? ⟨b,off+i*6+1,none⟩=some (.int .i64 p.1.2.1.1)∧w'.cell? ⟨b,off+i*6+2,none⟩=some (.int .i64 p.1.2.1.2.1)∧w'.cell? ⟨b,off+i*6+3,none⟩=some (.int .i64 p.1.2.1.2.2.1)∧w'.cell? ⟨b,off+i*6+4,none⟩=some (.slice p.2.1 p.1.2.1.2.2.2.length p.2.2)∧w'.cell? ⟨b,off+i*6+5,none⟩=some (.int .i64 p.1.2.2))),(6,(fun (w':World)=>w'.cell? ⟨w.heap.size+1,0,none⟩=some (.int .i64 c.1)∧w'.cell? ⟨w.heap.size+1,1,none⟩=some (.int .u64 (c.2.1:Int))∧w'.cell? ⟨w.heap.size+1,2,none⟩=some (.int .i64 c.2.2.1)∧w'.cell? ⟨w.heap.size+1,3,none⟩=some (.int .i64 c.2.2.2.1)∧w'.cell? ⟨w.heap.size+1,4,none⟩=some (.int .i64 c.2.2.2.2.1)∧w'.cell? ⟨w.heap.size+1,5,none⟩=some (.int .u64 (c.2.2.2.2.2.1:Int))∧w'.cell? ⟨w.heap.size+1,6,none⟩=some (.string c.2.2.2.2.2.2)))] 9 (by kernel_rfl) (by decide) ?_
  have hS0:=(show (fun (w':World)=>w'.cell? ⟨w.heap.size,0,none⟩=some (.slice (some ⟨b,off,none⟩) ps.length cp)) WW.drew from r0)
  have hS1:=(show (fun (w':World)=>w'.cell? ⟨b,off+i*6,none⟩=some (.int .u64 (p.1.1:Nat))∧w'.cell? ⟨b,off+i*6+1,none⟩=some (.int .i64 p.1.2.1.1)∧w'.cell? ⟨b,off+i*6+2,none⟩=some (.int .i64 p.1.2.1.2.1)∧w'.cell? ⟨b,off+i*6+3,none⟩=some (.int .i64 p.1.2.1.2.2.1)∧w'.cell? ⟨b,off+i*6+4,none⟩=some (.slice p.2.1 p.1.2.1.2.2.2.length p.2.2)∧w'.cell? ⟨b,off+i*6+5,none⟩=some (.int .i64 p.1.2.2)) WW.drew from ⟨x0,x1,x2,x3,x4,x5⟩)
  have hS2:=(show (fun (w':World)=>w'.cell? ⟨w.heap.size+1,0,none⟩=some (.int .i64 c.1)∧w'.cell? ⟨w.heap.size+1,1,none⟩=some (.int .u64 (c.2.1:Int))∧w'.cell? ⟨w.heap.size+1,2,none⟩=some (.int .i64 c.2.2.1)∧w'.cell? ⟨w.heap.size+1,3,none⟩=some (.int .i64 c.2.2.2.1)∧w'.cell? ⟨w.heap.size+1,4,none⟩=some (.int .i64 c.2.2.2.2.1)∧w'.cell? ⟨w.heap.size+1,5,none⟩=some (.int .u64 (c.2.2.2.2.2.1:Int))∧w'.cell? ⟨w.heap.size+1,6,none⟩=some (.string c.2.2.2.2.2.2)) WW.drew from ⟨v0,v1,v2,v3,v4,v5,v6⟩)
  refine headK_take (i:=0) (v:=?_) rfl (by kernel_rfl) (fun _ _ _ h=>h) (fun _ _ _ h=>passed_ready h.1) (Or.inl ⟨by rfl,?y7⟩) ⟨fun _=>hS0,fun _=>hS1,fun _=>hS2,trivial⟩ ?r7
  case y7=>intro w _;go_simp;try (with_reducible rfl)
  case r7=>
  try simp only [pZa,pZb,pZc,pZd]
  refine headK_load 0 8 _ rfl (i:=1) (v:=?_) rfl (by kernel_rfl) (fun _ _ _ h=>h) (fun _ _ _ h=>passed_ready h.1) (Or.inl ⟨by rfl,?y8⟩) ⟨fun _=>hS0,fun _=>hS1,fun _=>hS2,trivial⟩ ?r8
  case y8=>intro w hSw;(try dsimp only at hSw);go_simp;try (with_reducible rfl)
  case r8=>
  try simp only [pZa,pZb,pZc,pZd]
  refine headK_take (i:=2) (v:=?_) rfl (by kernel_rfl) (fun _ _ _ h=>h) (fun _ _ _ h=>passed_ready h.1) (Or.inl ⟨by rfl,?y9⟩) ⟨fun _=>hS0,fun _=>hS1,fun _=>hS2,trivial⟩ ?r9
  case y9=>intro w _;go_simp;try (with_reducible rfl)
  case r9=>
  try simp only [pZa,pZb,pZc,pZd]
  refine headK_take (i:=3) (v:=?_) rfl (by kernel_rfl) (fun _ _ _ h=>h) (fun _ _ _ h=>passed_ready h.1) (Or.inl ⟨by rfl,?y10⟩) ⟨fun _=>hS0,fun _=>hS1,fun _=>hS2,trivial⟩ ?r10
  case y10=>intro w _;go_simp;try (with_reducible rfl)
  case r10=>
  try simp only [pZa,pZb,pZc,pZd]
  refine headK_load 1 6 _ rfl (i:=4) (v:=?_) rfl (by kernel_rfl) (fun _ _ _ h=>h) (fun _ _ _ h=>passed_ready h.1) (Or.inl ⟨by rfl,?y11⟩) ⟨fun _=>hS0,fun _=>hS1,fun _=>hS2,trivial⟩ ?r11
  case y11=>intro w hSw;(try dsimp only at hSw);obtain⟨hc0,hc1,hc2,hc3,hc4,hc5⟩:=hSw;go_simp;try (with_reducible rfl)
  case r11=>
  try simp only [pZa,pZb,pZc,pZd]
  refine headK_load 2 6 _ rfl (i:=5) (v:=?_) rfl (by kernel_rfl) (fun _ _ _ h=>h) (fun _ _ _ h=>passed_ready h.1) (Or.inl ⟨by rfl,?y12⟩) ⟨fun _=>hS0,fun _=>hS1,fun _=>hS2,trivial⟩ ?r12
  case y12=>intro w hSw;(try dsimp only at hSw);obtain⟨hc0,hc1,hc2,hc3,hc4,hc5,hc6⟩:=hSw;go_simp;try (with_reducible rfl)
  case r12=>
  try simp only [pZa,pZb,pZc,pZd]
  refine headK_two (i:=6) (j:=7) (by kernel_rfl) rfl rfl (fun K hK=>?_) (fun K hK=>?_)
  ·go_simp
   refine (HDo.out _ (Below.refl _ _).drew).mono ?_
   rintro e y ⟨A3,d3,B3,c3,rfl,hs3,hx3,ht3,hb⟩
   have HS3:=hZ hs3
   have B1:=hZ (show Below WW.heap.size WW y from chain ((Below.refl _ _).drew) hb)
   have BY:=hZ (show Below y.heap.size y (y.alloc (.cells #[.int .u64 (oo.1:Nat),.int .i64 oo.2.1.1,.int .i64 oo.2.1.2.1,.int .i64 oo.2.1.2.2.1,.slice A3 oo.2.1.2.2.2.length d3,.int .i64 oo.2.2,.int .i64 r1,.int .i64 r2,.slice B3 bl.length c3] 40)) from (Below.refl _ _).alloc (Nat.le_refl _) _)
   have HX3:=hZ (Recs.below hx3 BY.out)
   have HT3:=hZ (ht3.below BY.out)
   clear hx3 ht3 hs3 hb
   have hS0:=(show (fun (w':World)=>w'.cell? ⟨w.heap.size,0,none⟩=some (.slice (some ⟨b,off,none⟩) ps.length cp)) y from (Q2.out.keep B1.out).cell 0)
   refine hK.out _ _ ⟨fun _=>hS0,nZ,nZ,trivial⟩ ?_
   clear hK K
   try simp only [pZa,pZb,pZc,pZd]
   refine headK_one (i:=7) (by kernel_rfl) rfl (fun K hK=>?_)
   go_simp
   have hS0:=(show (fun (w':World)=>w'.cell? ⟨w.heap.size,0,none⟩=some (.slice (some ⟨b,off,none⟩) ps.length cp)) (y.alloc (.cells #[.int .u64 0,.int .i64 0,.int .i64 0,.int .i64 0,.slice none 0 0,.int .i64 0,.int .i64 0,.int .i64 0,.slice none 0 0] 40)) from ((Q2.out.keep B1.out).alloc _).cell 0)
   refine hK.out _ _ ⟨fun _=>hS0,nZ,nZ,trivial⟩ ?_
   clear hK K
   try simp only [pZa,pZb,pZc,pZd]
   refine headK_one (i:=8) (by kernel_rfl) rfl (fun K hK=>?_)
   go_simp
   refine hK.out _ _ ⟨nZ,nZ,nZ,trivial⟩ ?_
   clear hK K
   try simp only [pZa,pZb,pZc,pZd]
   refine⟨by kernel_rfl,?_⟩
   refine wpAny_done (by kernel_rfl) ?_ _
   go_wp2_with fail
   go_meet
   exact⟨_,A3,d3,B3,c3,rfl,hZ (Box.new y 40 #[.int .u64 (oo.1:Nat),.int .i64 oo.2.1.1,.int .i64 oo.2.1.2.1,.int .i64 oo.2.1.2.2.1,.slice A3 oo.2.1.2.2.2.length d3,.int .i64 oo.2.2,.int .i64 r1,.int .i64 r2,.slice B3 bl.length c3]),HS3,hZ (chain B1.out BY.out),HX3,HT3,hZ B1.out.size⟩
  ·go_simp
   have ZB:=hZ (show Below WW.heap.size WW (WW.drew.alloc (.cells #[.int .u64 0,.int .i64 0,.int .i64 0,.int .i64 0,.slice none 0 0,.int .i64 0,.int .i64 0,.int .i64 0,.slice none 0 0] 40)) from ((Below.refl _ _).drew).alloc (Nat.le_refl _) _)
   have ZO:=hZ (show Box (WW.drew.alloc (.cells #[.int .u64 0,.int .i64 0,.int .i64 0,.int .i64 0,.slice none 0 0,.int .i64 0,.int .i64 0,.int .i64 0,.slice none 0 0] 40)) WW.heap.size 40 dZ from Box.new WW.drew _ _)
   have PC:=hZ (Q3.out.keep ZB.out)
   have hS0:=(show (fun (w':World)=>w'.cell? ⟨w.heap.size,0,none⟩=some (.slice (some ⟨b,off,none⟩) ps.length cp)) (WW.drew.alloc (.cells #[.int .u64 0,.int .i64 0,.int .i64 0,.int .i64 0,.slice none 0 0,.int .i64 0,.int .i64 0,.int .i64 0,.slice none 0 0] 40)) from (Q2.out.keep ZB.out).cell 0)
   have hS1:=(show (fun (w':World)=>w'.cell? ⟨b,off+i*6,none⟩=some (.int .u64 (p.1.1:Nat))∧w'.cell? ⟨b,off+i*6+1,none⟩=some (.int .i64 p.1.2.1.1)∧w'.cell? ⟨b,off+i*6+2,none⟩=some (.int .i64 p.1.2.1.2.1)∧w'.cell? ⟨b,off+i*6+3,none⟩=some (.int .i64 p.1.2.1.2.2.1)∧w'.cell? ⟨b,off+i*6+4,none⟩=some (.slice p.2.1 p.1.2.1.2.2.2.length p.2.2)∧w'.cell? ⟨b,off+i*6+5,none⟩=some (.int .i64 p.1.2.2)) (WW.drew.alloc (.cells #[.int .u64 0,.int .i64 0,.int .i64 0,.int .i64 0,.slice none 0 0,.int .i64 0,.int .i64 0,.int .i64 0,.slice none 0 0] 40)) from ⟨(ZB.out.cell (p:=⟨b,_,none⟩) HBK.out).trans x0,(ZB.out.cell (p:=⟨b,_,none⟩) HBK.out).trans x1,(ZB.out.cell (p:=⟨b,_,none⟩) HBK.out).trans x2,(ZB.out.cell (p:=⟨b,_,none⟩) HBK.out).trans x3,(ZB.out.cell (p:=⟨b,_,none⟩) HBK.out).trans x4,(ZB.out.cell (p:=⟨b,_,none⟩) HBK.out).trans x5⟩)
   have hS2:=(show (fun (w':World)=>w'.cell? ⟨w.heap.size+1,0,none⟩=some (.int .i64 c.1)∧w'.cell? ⟨w.heap.size+1,1,none⟩=some (.int .u64 (c.2.1:Int))∧w'.cell? ⟨w.heap.size+1,2,none⟩=some (.int .i64 c.2.2.1)∧w'.cell? ⟨w.heap.size+1,3,none⟩=some (.int .i64 c.2.2.2.1)∧w'.cell? ⟨w.heap.size+1,4,none⟩=some (.int .i64 c.2.2.2.2.1)∧w'.cell? ⟨w.heap.size+1,5,none⟩=some (.int .u64 (c.2.2.2.2.2.1:Int))∧w'.cell? ⟨w.heap.size+1,6,none⟩=some (.string c.2.2.2.2.2.2)) (WW.drew.alloc (.cells #[.int .u64 0,.int .i64 0,.int .i64 0,.int .i64 0,.slice none 0 0,.int .i64 0,.int .i64 0,.int .i64 0,.slice none 0 0] 40)) from ⟨PC.out.cell 0,PC.out.cell 1,PC.out.cell 2,PC.out.cell 3,PC.out.cell 4,PC.out.cell 5,PC.out.cell 6⟩)
   refine hK.out _ _ ⟨fun _=>hS0,fun _=>hS1,fun _=>hS2,trivial⟩ ?_
   clear hK K
   try simp only [pZa,pZb,pZc,pZd]
   refine headK_one (i:=6) (by kernel_rfl) rfl (fun K hK=>?_)
   go_simp
   refine (HDo.out _ ZB.out).mono ?_
   rintro e y ⟨A3,d3,B3,c3,rfl,hs3,hx3,ht3,hb⟩
   have HS3:=hZ hs3
   have B1:=hZ (show Below WW.heap.size WW y from chain ZB.out hb)
   have KO:=hZ (ZO.out.keep hb)
   have HX0:=hZ hx3
   have HT0:=hZ ht3
   clear hx3 ht3 hs3 hb
   obtain⟨k0,k1,k2,k3,k4,k5,k6,k7,k8⟩:=KO.out.nineD
   have fo0:=KO.out.free 0
   have fo1:=KO.out.free 1
   have fo2:=KO.out.free 2
   have fo3:=KO.out.free 3
   have fo4:=KO.out.free 4
   have fo5:=KO.out.free 5
   have fo6:=KO.out.free 6
   have fo7:=KO.out.free 7
   have fo8:=KO.out.free 8
   have hS0:=(show (fun (w':World)=>w'.cell? ⟨w.heap.size,0,none⟩=some (.slice (some ⟨b,off,none⟩) ps.length cp)) y from (Q2.out.keep B1.out).cell 0)
   refine hK.out _ _ ⟨fun _=>hS0,nZ,nZ,trivial⟩ ?_
   clear hK K
   try simp only [pZa,pZb,pZc,pZd]
   refine headK_one (i:=8) (by kernel_rfl) rfl (fun K hK=>?_)
   go_simp
   refine hK.out _ _ ⟨nZ,nZ,nZ,trivial⟩ ?_
   clear hK K
   try simp only [pZa,pZb,pZc,pZd]
   refine⟨by kernel_rfl,?_⟩
   refine wpAny_done (by kernel_rfl) ?_ _
   go_wp2_with fail
   go_meet
   have n1:=Syms.neO HX0.out KO.out dz_no
   have n2:=Texts.neO HT0.out KO.out dz_no
   exact⟨_,A3,d3,B3,c3,rfl,hZ (Box.put9s KO.out (u:=.int .u64 (oo.1:Nat)) (v:=.int .i64 oo.2.1.1) (x:=.int .i64 oo.2.1.2.1) (y:=.int .i64 oo.2.1.2.2.1) (z:=.slice A3 oo.2.1.2.2.2.length d3) (k:=.int .i64 oo.2.2) (u1:=.int .i64 r1) (v1:=.int .i64 r2) (x1:=.slice B3 bl.length c3)),HS3,hZ (below_set9s B1.out (Nat.le_refl _) (.int .u64 (oo.1:Nat)) (.int .i64 oo.2.1.1) (.int .i64 oo.2.1.2.1) (.int .i64 oo.2.1.2.2.1) (.slice A3 oo.2.1.2.2.2.length d3) (.int .i64 oo.2.2) (.int .i64 r1) (.int .i64 r2) (.slice B3 bl.length c3)),hZ (Syms.far9s HX0.out n1 (.int .u64 (oo.1:Nat)) (.int .i64 oo.2.1.1) (.int .i64 oo.2.1.2.1) (.int .i64 oo.2.1.2.2.1) (.slice A3 oo.2.1.2.2.2.length d3) (.int .i64 oo.2.2) (.int .i64 r1) (.int .i64 r2) (.slice B3 bl.length c3)),hZ (Texts.far9s HT0.out n2 (.int .u64 (oo.1:Nat)) (.int .i64 oo.2.1.1) (.int .i64 oo.2.1.2.1) (.int .i64 oo.2.1.2.2.1) (.slice A3 oo.2.1.2.2.2.length d3) (.int .i64 oo.2.2) (.int .i64 r1) (.int .i64 r2) (.slice B3 bl.length c3)),hZ (Nat.le_refl _)⟩
 case rest=>
  obtain⟨wv,rfl⟩:∃ x:World,x=wc:=⟨_,rfl⟩
  obtain⟨g6,A3,d3,B3,c3,rfl,PD,HS3,HBw,HX3,HT3,HGt⟩:=hcut
  replace Q2:=hZ (Q2.out.keep HBw.out)
  have HGG:=hZ (show w.heap.size+1+1<g6 from Nat.lt_of_lt_of_le Q4.out.lt HGt.out)
  replace Q4:=hZ (Q4.out.keep HBw.out)
  replace HX:=hZ (Recs.below HX.out HBw.out)
  replace HD:=hZ (OkDs.below HD.out HBw.out)
  replace HB:=hZ (chain HB.out HBw.out)
  have hgg:=HGG.out
  clear HBw HBK HDo r0 v0 v1 v2 v3 v4 v5 v6 x0 x1 x2 x3 x4 x5 Q3
  have r0:=Q2.out.cell 0
  obtain⟨p0,p1,p2,p3,p4,p5,p6,p7,p8⟩:=PD.out.nineD
  go_upto_region 9 with (fail)
  refine wp_heldK_bar [(3,(fun (w':World)=>w'.cell? ⟨w.heap.size,0,none⟩=some (.slice (some ⟨b,off,none⟩) ps.length cp))),(3,(fun (w':World)=>w'.cell? ⟨g6,0,none⟩=some (.int .u64 (oo.1:Nat))∧w'.cell? ⟨g6,1,none⟩=some (.int .i64 oo.2.1.1)∧w'.cell? ⟨g6,2,none⟩=some (.int .i64 oo.2.1.2.1)∧w'.cell? ⟨g6,3,none⟩=some (.int .i64 oo.2.1.2.2.1)∧w'.cell? ⟨g6,4,none⟩=some (.slice A3 oo.2.1.2.2.2.length d3)∧w'.cell? ⟨g6,5,none⟩=some (.int .i64 oo.2.2))),(7,(fun (w':World)=>w'.cell? ⟨g6,6,none⟩=some (.int .i64 r1)∧w'.cell? ⟨g6,7,none⟩=some (.int .i64 r2)∧w'.cell? ⟨g6,8,none⟩=some (.slice B3 bl.length c3)))] 8 (by kernel_rfl) (by decide) ?_
  have hS0:=(show (fun (w':World)=>w'.cell? ⟨w.heap.size,0,none⟩=some (.slice (some ⟨b,off,none⟩) ps.length cp)) wv.drew from Q2.out.drew.cell 0)
  have hS1:=(show (fun (w':World)=>w'.cell? ⟨g6,0,none⟩=some (.int .u64 (oo.1:Nat))∧w'.cell? ⟨g6,1,none⟩=some (.int .i64 oo.2.1.1)∧w'.cell? ⟨g6,2,none⟩=some (.int .i64 oo.2.1.2.1)∧w'.cell? ⟨g6,3,none⟩=some (.int .i64 oo.2.1.2.2.1)∧w'.cell? ⟨g6,4,none⟩=some (.slice A3 oo.2.1.2.2.2.length d3)∧w'.cell? ⟨g6,5,none⟩=some (.int .i64 oo.2.2)) wv.drew from ⟨PD.out.drew.cell 0,PD.out.drew.cell 1,PD.out.drew.cell 2,PD.out.drew.cell 3,PD.out.drew.cell 4,PD.out.drew.cell 5⟩)
  have hS2:=(show (fun (w':World)=>w'.cell? ⟨g6,6,none⟩=some (.int .i64 r1)∧w'.cell? ⟨g6,7,none⟩=some (.int .i64 r2)∧w'.cell? ⟨g6,8,none⟩=some (.slice B3 bl.length c3)) wv.drew from ⟨PD.out.drew.cell 6,PD.out.drew.cell 7,PD.out.drew.cell 8⟩)
  refine headK_load 0 3 _ rfl (i:=0) (v:=?_) rfl (by kernel_rfl) (fun _ _ _ h=>h) (fun _ _ _ h=>passed_ready h.1) (Or.inl ⟨by rfl,?y13⟩) ⟨fun _=>hS0,fun _=>hS1,fun _=>hS2,trivial⟩ ?r13
  case y13=>intro w hSw;(try dsimp only at hSw);go_simp;try (with_reducible rfl)
  case r13=>
  try simp only [pZa,pZb,pZc,pZd]
  refine headK_take (i:=1) (v:=?_) rfl (by kernel_rfl) (fun _ _ _ h=>h) (fun _ _ _ h=>passed_ready h.1) (Or.inl ⟨by rfl,?y14⟩) ⟨fun _=>hS0,fun _=>hS1,fun _=>hS2,trivial⟩ ?r14
  case y14=>intro w _;go_simp;try (with_reducible rfl)
  case r14=>
  try simp only [pZa,pZb,pZc,pZd]
  refine headK_load 1 3 _ rfl (i:=2) (v:=?_) rfl (by kernel_rfl) (fun _ _ _ h=>h) (fun _ _ _ h=>passed_ready h.1) (Or.inl ⟨by rfl,?y15⟩) ⟨fun _=>hS0,fun _=>hS1,fun _=>hS2,trivial⟩ ?r15
  case y15=>intro w hSw;(try dsimp only at hSw);obtain⟨hc0,hc1,hc2,hc3,hc4,hc5⟩:=hSw;go_simp;try (with_reducible rfl)
  case r15=>
  try simp only [pZa,pZb,pZc,pZd]
  refine headK_take (i:=4) (v:=?_) rfl (by kernel_rfl) (fun _ _ _ h=>h) (fun _ _ _ h=>passed_ready h.1) (Or.inl ⟨by rfl,?y16⟩) ⟨fun _=>hS0,fun _=>hS1,fun _=>hS2,trivial⟩ ?r16
  case y16=>intro w _;go_simp;try (with_reducible rfl)
  case r16=>
  try simp only [pZa,pZb,pZc,pZd]
  refine headK_load 2 7 _ rfl (i:=5) (v:=?_) rfl (by kernel_rfl) (fun _ _ _ h=>h) (fun _ _ _ h=>passed_ready h.1) (Or.inl ⟨by rfl,?y17⟩) ⟨fun _=>hS0,fun _=>hS1,fun _=>hS2,trivial⟩ ?r17
  case y17=>intro w hSw;(try dsimp only at hSw);obtain⟨hc0,hc1,hc2⟩:=hSw;go_simp;try (with_reducible rfl)
  case r17=>
  try simp only [pZa,pZb,pZc,pZd]
  refine headK_one (i:=3) (by kernel_rfl) rfl (fun K hK=>?_)
  go_simp
  refine (refWith19_any (some ⟨b,off,none⟩) cp ps (oo,(A3,d3)) _ HX.out.drew (by have:=HLM.out;omega)).mono ?_
  rintro e y ⟨A9,c9,rfl,hs9,hx9,hb⟩
  have BY:=hZ (show Below wv.heap.size wv y from chain ((Below.refl _ _).drew) hb)
  have HX9:=hZ hx9
  have HS9:=hZ hs9
  have R4:=hZ (Q4.out.keep BY.out)
  have RD:=hZ (PD.out.keep BY.out)
  clear hb hx9 hs9
  obtain⟨e0,e1,e2,e3⟩:=R4.out.fourD
  have f0:=R4.out.free 0
  have f1:=R4.out.free 1
  have f2:=R4.out.free 2
  have f3:=R4.out.free 3
  have hS2:=(show (fun (w':World)=>w'.cell? ⟨g6,6,none⟩=some (.int .i64 r1)∧w'.cell? ⟨g6,7,none⟩=some (.int .i64 r2)∧w'.cell? ⟨g6,8,none⟩=some (.slice B3 bl.length c3)) y from ⟨RD.out.cell 6,RD.out.cell 7,RD.out.cell 8⟩)
  refine hK.out _ _ ⟨nZ,nZ,fun _=>hS2,trivial⟩ ?_
  clear hK K
  try simp only [pZa,pZb,pZc,pZd]
  refine headK_take (i:=6) (v:=?_) rfl (by kernel_rfl) (fun _ _ _ h=>h) (fun _ _ _ h=>passed_ready h.1) (Or.inl ⟨by rfl,?y18⟩) ⟨nZ,nZ,fun _=>hS2,trivial⟩ ?r18
  case y18=>intro w _;go_simp;try (with_reducible rfl)
  case r18=>
  try simp only [pZa,pZb,pZc,pZd]
  refine headK_one (i:=7) (by kernel_rfl) rfl (fun K hK=>?_)
  go_simp
  refine hK.out _ _ ⟨nZ,nZ,nZ,trivial⟩ ?_
  clear hK K
  try simp only [pZa,pZb,pZc,pZd]
  refine⟨by kernel_rfl,?_⟩
  refine wpAny_done (by kernel_rfl) ?_ _
  go_wp2_with fail
  have hok:=rfW_ok (d:=(oo,(A3,d3))) (OkDs.below HD.out BY.out) ⟨HS3.out,Recs.below HX3.out BY.out⟩
  obtain⟨z,hz,z1,z3,z4,z5,z6⟩:=rd_store (B:=w.heap.size) (r:=((r1,r2,bl):ReplyR)) (d:=c9) (e:=c3) (HB.out.trans (BY.out.mono HB.out.size)) R4.out (by omega) HX9.out hok (HT3.out.below BY.out)
  subst hz
  refine close_one Tryz.results16 rfl rfl z1 Tryz.underlying53 rfl (by kernel_rfl) ?_
  exact⟨rfW ps (oo,(A3,d3)),A9,c9,B3,c3,rfW_obs ps (oo,(A3,d3)),rfl,HS9.out,z3,z4,z5,z6⟩
theorem rdoD_any (A:Option Addr) (cp:Nat) (ps:List RawO) (c:CallR) (w:World) (hs:SliceOk A ps.length cp) (hx:Raws w A ps.length ps) (hd:OkDs w ps) (hids:IdsO ps) (hci:c.2.2.2.2.2.1<18446744073709551616):Calls Tryz.prog 16 #[.agg #[.slice A ps.length cp],callV c] w (RcD (doR ps c).1 (doR ps c).2 w):=by
 cases hr:rightR ps with
 | false=>
   have HE:doR ps c=(obsR ps,(1,0,[])):=by unfold doR;rw [if_neg (fun h=>by rw [hr] at h;cases h.1)]
   rw [HE];exact rdoD_bad A cp ps c w hs hx hd hr
 | true=>
   by_cases h1:c.1<0
   ·have HE:doR ps c=(obsR ps,(1,0,[])):=by unfold doR;rw [if_neg (fun h=>by omega)]
    rw [HE];exact rdoD_low A cp ps c w hs hx hd hr h1
   ·by_cases h2:4<c.1
    ·have HE:doR ps c=(obsR ps,(1,0,[])):=by unfold doR;rw [if_neg (fun h=>by omega)]
     rw [HE];exact rdoD_high A cp ps c w hs hx hd hr h2
    ·by_cases h0:c.1=0
     ·exact rdoD_open A cp ps c w hs hx hd hr h0
     ·cases hn:isR ps c.2.1 with
      | false=>
        have HE:doR ps c=(obsR ps,(6,0,[])):=by unfold doR;rw [if_pos ⟨hr,by omega,by omega⟩,if_neg h0,hn];rfl
        rw [HE];exact rdoD_none A cp ps c w hs hx hd hr (by omega) (by omega) hn
      | true=>
        have hpi:=posR_id hn
        have HE:doR ps c=(withO (obsR ps) (doO (ps.getD (posR ps c.2.1) default).1 c).1,(doO (ps.getD (posR ps c.2.1) default).1 c).2):=by
         rw [← doO_with (obsR ps) (ps.getD (posR ps c.2.1) default).1 c (with_self hpi.1 (rise_of_right hr))]
         unfold doR;rw [if_pos ⟨hr,by omega,by omega⟩,if_neg h0,if_pos hn]
        rw [HE];exact rdoD_there A cp ps c w hs hx hd hids hci hr (by omega) (by omega) hn
end
section
open Go.RowKit Go.Lib
set_option maxRecDepth 100000
theorem eqObs_any (A:Option Addr) (ps:List RawO) (c:Nat) (B:Option Addr) (qs:List RawO) (c2:Nat) (w:World) (hx:Raws w A ps.length ps) (hd:OkDs w ps) (hx2:Raws w B qs.length qs) (hd2:OkDs w qs) (hmx:ps.length≤maxLen) :
  Calls Tryz.prog 43 #[.slice A ps.length c,.slice B qs.length c2,.func (.func 44) #[] #[]] w fun e w'=>e=.returned (.bool (sameR ps qs))∧Below w.heap.size w w':=by
 unfold maxLen at hmx
 have HX:=hZ hx
 have HD:=hZ hd
 have HX2:=hZ hx2
 have HD2:=hZ hd2
 clear hx hd hx2 hd2
 have eg:∀ args w,(callFunc 44 args).run Tryz.prog w=.ok (.enter 44 args) w:=enters_of Tryz.func44 (by kernel_rfl) rfl
 by_cases hl:ps.length=qs.length
 ·have HL:=hZ hl
  have tl:((qs.length:Int) != (qs.length:Int))=false:=by simp
  rw [hl] at HX hmx ⊢
  clear hl
  go_enter Tryz.func43,Tryz.ntmps43
  go_wp2_with fail
  go_loopw [17] (fun t wr=>∃ i:Nat,i≤qs.length∧t=.int .i64 (i:Int)∧Hid (eqsR ps qs i=true)∧Hid (Below w.heap.size w wr)) (fun t _=>qs.length-(Go.RowKit.intOf t).toNat)
  case atStart=>exact⟨0,Nat.zero_le _,rfl,hZ rfl,hZ (Below.refl _ _)⟩
  case round=>
   obtain⟨i,hi,rfl,HT,HB⟩:=hrel
   by_cases hlt:i<qs.length
   ·have hlt':(i:Int)<(qs.length:Int):=Int.ofNat_lt.2 hlt
    obtain⟨b,off,rfl,hb,x0,x1,x2,x3,x4,x5⟩:=(HX.out.six i hlt)
    obtain⟨b2,off2,rfl,hb2,y0,y1,y2,y3,y4,y5⟩:=(HX2.out.six i hlt)
    have HN:=hZ (eqsR_snoc ps qs i)
    have HU:=hZ (eqsR_no ps qs qs.length i hlt)
    have HO:=hZ (HD.out i)
    have HP:=hZ (HD2.out i)
    obtain⟨p,hp⟩:∃ y,y=ps.getD i default:=⟨_,rfl⟩
    obtain⟨q,hq⟩:∃ y,y=qs.getD i default:=⟨_,rfl⟩
    rw [← hp] at HO x0 x1 x2 x3 x4 x5 HN HU
    rw [← hq] at HP y0 y1 y2 y3 y4 y5 HN HU
    clear hp hq
    have HB1:=hZ (HB.out.alloc HB.out.size (.cells (obA p.1 p.2.1 p.2.2) 27))
    have HB2:=hZ (HB1.out.alloc HB1.out.size (.cells (obA q.1 q.2.1 q.2.2) 27))
    have x0:=(HB.out.cell (p:=⟨b,_,none⟩) hb).trans x0
    have y0:=(HB1.out.cell (p:=⟨b2,_,none⟩) hb2).trans y0
    have x1:=(HB.out.cell (p:=⟨b,_,none⟩) hb).trans x1
    have y1:=(HB1.out.cell (p:=⟨b2,_,none⟩) hb2).trans y1
    have x2:=(HB.out.cell (p:=⟨b,_,none⟩) hb).trans x2
    have y2:=(HB1.out.cell (p:=⟨b2,_,none⟩) hb2).trans y2
    have x3:=(HB.out.cell (p:=⟨b,_,none⟩) hb).trans x3
    have y3:=(HB1.out.cell (p:=⟨b2,_,none⟩) hb2).trans y3
    have x4:=(HB.out.cell (p:=⟨b,_,none⟩) hb).trans x4
    have y4:=(HB1.out.cell (p:=⟨b2,_,none⟩) hb2).trans y4
    have x5:=(HB.out.cell (p:=⟨b,_,none⟩) hb).trans x5
    have y5:=(HB1.out.cell (p:=⟨b2,_,none⟩) hb2).trans y5
    have G:=hZ ((Box.new wr 27 (obA p.1 p.2.1 p.2.2)).alloc (.cells (obA q.1 q.2.1 q.2.2) 27))
    have G0:=Box.new (wr.alloc (.cells (obA p.1 p.2.1 p.2.2) 27)) 27 (obA q.1 q.2.1 q.2.2)
    simp only [World.size_alloc] at G0
    have K:=hZ G0
    clear G0
    obtain⟨g0,g1,g2,g3,g4,g5⟩:=G.out.sixO
    obtain⟨k0,k1,k2,k3,k4,k5⟩:=K.out.sixO
    have HC:=hZ (olike_any _ p.1 _ q.1 _ (HO.out.below (HB2.out.mono (Nat.le_refl _))).at (HP.out.below (HB2.out.mono (Nat.le_refl _))).at)
    cases hr:likeO p.1 q.1 with
    | false=>
      rw [hr] at HC
      have HE:=hZ (HU.out hr)
      clear HN HU HT hr
      go_wp2_with fail
      refine HC.out.mono ?_
      rintro e w1 ⟨rfl,hb1⟩
      have HB3:=hZ (chain HB2.out hb1)
      clear hb1
      go_wp2_with fail
      go_ret
      exact⟨by simp [sameR,HL.out,HE.out],HB3.out⟩
    | true=>
      rw [hr] at HC
      have HN2:=hZ (show eqsR ps qs (i+1)=true by rw [HN.out,HT.out,hr];rfl)
      clear HN HU HT hr
      go_wp2_with fail
      refine HC.out.mono ?_
      rintro e w1 ⟨rfl,hb1⟩
      have HB3:=hZ (chain HB2.out hb1)
      clear hb1
      go_wp2_with fail
      go_roundw
      case rel=>exact⟨i+1,hlt,by go_num,HN2,HB3⟩
      case measure=>simp [Go.RowKit.intOf]<;>omega
   ·obtain rfl:i=qs.length:=Nat.le_antisymm hi (Nat.le_of_not_lt hlt)
    have hlt':¬ (qs.length:Int)<(qs.length:Int):=Int.lt_irrefl _
    have HE:=HT
    clear HT
    go_wp2_with fail
    go_ret
    exact⟨by simp [sameR,HL.out,HE.out],HB.out⟩
 ·have hl2:((ps.length:Int) != (qs.length:Int))=true:=by simp;omega
  go_enter Tryz.func43,Tryz.ntmps43
  go_wp2_with fail
  go_ret
  exact⟨by simp [sameR,hl],Below.refl _ _⟩
theorem rclike_any (va vb:Value) (ps qs:List RawO) (w:World) (ha:RcAt w va ps) (hb:RcAt w vb qs):Calls Tryz.prog 21 #[va,vb] w fun e w'=>e=.returned (.bool (sameR ps qs))∧Below w.heap.size w w':=by
 obtain⟨A,c,rfl,hs,hx,hd⟩:=ha
 obtain⟨B,c2,rfl,hs2,hx2,hd2⟩:=hb
 have hmx:=Nat.le_trans hs.1 hs.2.1
 have b1:=(Below.refl w.heap.size w).alloc (Nat.le_refl _) (.cells #[.slice A ps.length c] 48)
 have b2:=b1.alloc b1.size (.cells #[.slice B qs.length c2] 48)
 have W1:=hZ b2
 have HC:=hZ (eqObs_any A ps c B qs c2 _ (Recs.below hx b2) (OkDs.below hd b2) (Recs.below hx2 b2) (OkDs.below hd2 b2) hmx)
 have Q:=hZ ((Box.new w 48 #[.slice A ps.length c]).alloc (.cells #[.slice B qs.length c2] 48))
 have R0:=Box.new (w.alloc (.cells #[.slice A ps.length c] 48)) 48 #[.slice B qs.length c2]
 simp only [World.size_alloc] at R0
 have R:=hZ R0
 clear R0 b1 b2 hs hs2 hx hd hx2 hd2
 have r0:=Q.out.cell 0
 have s0:=R.out.cell 0
 go_enter Tryz.func21,Tryz.ntmps21
 go_wp2_with fail
 refine HC.out.mono ?_
 rintro e w1 ⟨rfl,hb1⟩
 have HB3:=hZ (chain W1.out hb1)
 clear hb1
 go_wp2_with fail
 go_ret
 exact⟨rfl,HB3.out⟩
end
section
open Go.RowKit Go.Lib
set_option maxRecDepth 100000
theorem RRC_gen (a b c:Array Value) (w:World):Box (((w.alloc (.cells a 48)).alloc (.cells b 48)).alloc (.cells c 31)) w.heap.size 48 a∧Box (((w.alloc (.cells a 48)).alloc (.cells b 48)).alloc (.cells c 31)) (w.heap.size+1) 48 b∧Box (((w.alloc (.cells a 48)).alloc (.cells b 48)).alloc (.cells c 31)) (w.heap.size+1+1) 31 c∧Below w.heap.size w (((w.alloc (.cells a 48)).alloc (.cells b 48)).alloc (.cells c 31)):=by
 refine⟨((Box.new w _ _).alloc _).alloc _,?_,?_,(((Below.refl _ _).alloc (Nat.le_refl _) _).alloc (by simp) _).alloc (by simp;omega) _⟩
 ·have q:=(Box.new (w.alloc (.cells a 48)) 48 b).alloc (.cells c 31)
  simpa only [World.size_alloc] using q
 ·have q:=Box.new ((w.alloc (.cells a 48)).alloc (.cells b 48)) 31 c
  simpa only [World.size_alloc] using q
def RcIn (w:World) (A:Option Addr) (c:Nat) (ps:List RawO):Prop:=SliceOk A ps.length c∧Raws w A ps.length ps∧OkDs w ps
theorem RcIn.at {w:World} {A:Option Addr} {c:Nat} {ps:List RawO} (h:RcIn w A c ps):RcAt w (.agg #[.slice A ps.length c]) ps:=⟨A,c,rfl,h.1,h.2.1,h.2.2⟩
theorem RcIn.below {w w':World} {A:Option Addr} {c:Nat} {ps:List RawO} (h:RcIn w A c ps) (hb:Below w.heap.size w w'):RcIn w' A c ps:=⟨h.1,Recs.below h.2.1 hb,OkDs.below h.2.2 hb⟩
theorem own_rcin {w w0:World} {base:Nat} {A:Option Addr} {c:Nat} {ps:List RawO} (h:w.ownsRow base 27 6 (.slice A ps.length c) ps.length (ps.flatMap encRO)) (hd:OkDs w0 ps) (hb:Below w0.heap.size w0 w):RcIn w A c ps:=⟨own_cap6 h,own_recs encRO_len h (by decide),OkDs.below hd hb⟩
theorem recdoes_any (A1:Option Addr) (d1:Nat) (ps:List RawO) (A2:Option Addr) (d2:Nat) (qs:List RawO) (wh:Int) (ob:Nat) (k s cp:Int) (id:Nat) (dt:ByteArray) (W:World) (ha:RcIn W A1 d1 ps) (hi:IdsO ps) (hb:RcIn W A2 d2 qs) (hci:id<18446744073709551616) :
  Calls Tryz.prog 4 #[.agg #[.slice A1 ps.length d1],.agg #[.slice A2 qs.length d2],callV (wh,ob,k,s,cp,id,dt)] W fun e w'=>e=.returned (.bool true)∧Below W.heap.size W w':=by
 obtain⟨qa,qb,qc,b3⟩:=RRC_gen #[.slice A1 ps.length d1] #[.slice A2 qs.length d2] (callL (wh,ob,k,s,cp,id,dt)).toArray W
 have QA:=hZ qa
 have QB:=hZ qb
 have QC:=hZ qc
 have HB:=hZ b3
 have H1:=hZ (fun (wx wy:World) (h:Below W.heap.size W wx) (hx:Below wx.heap.size wx wy)=>few19_any A1 d1 ps wy ha.1 (Recs.below (Recs.below ha.2.1 h) hx) (OkDs.below (OkDs.below ha.2.2 h) hx))
 have H2:=hZ (fun (wx wy:World) (h:Below W.heap.size W wx) (hx:Below wx.heap.size wx wy)=>few19_any A2 d2 qs wy hb.1 (Recs.below (Recs.below hb.2.1 h) hx) (OkDs.below (OkDs.below hb.2.2 h) hx))
 have HDp:=hZ (fewRs_ok ha.2.2)
 have HDq:=hZ (fewRs_ok hb.2.2)
 have HI:=hZ (fewRs_ids hi)
 have HC1:=hZ (cutX_noO dt)
 have HC2:=hZ (show 66≤dt.size→cutX dt=dt.extract 0 66 from fun h=>(cutX_min dt 66 (by omega)).symm)
 obtain⟨ct,hct⟩:∃ y,y=cutX dt:=⟨_,rfl⟩
 rw [← hct] at HC1 HC2
 clear qa qb qc b3 ha hb hi hct
 have ra:=QA.out.cell 0
 have rb:=QB.out.cell 0
 obtain⟨v0,v1,v2,v3,v4,v5,v6⟩:=QC.out.sevenO
 go_enter Tryz.func4,Tryz.ntmps4
 go_upto_region 1 with (fail)
 go_cut [] (fun wx=>∃ A3 d3 A4 d4,Hid (Box wx W.heap.size 48 #[.slice A3 (fewRs ps).length d3])∧Hid (Box wx (W.heap.size+1) 48 #[.slice A4 (fewRs qs).length d4])∧Hid (Box wx (W.heap.size+1+1) 31 (callL (wh,ob,k,s,cp,id,ct)).toArray)∧Hid (RcIn wx A3 d3 (fewRs ps))∧Hid (RcIn wx A4 d4 (fewRs qs))∧Hid (Below W.heap.size W wx))
 case first=>
  obtain⟨WW,hWW⟩:∃ y,y=(((W.alloc (.cells #[.slice A1 ps.length d1] 48)).alloc (.cells #[.slice A2 qs.length d2] 48)).alloc (.cells (callL (wh,ob,k,s,cp,id,dt)).toArray 31)):=⟨_,rfl⟩
  rw [← hWW] at QA QB QC HB ra rb v0 v1 v2 v3 v4 v5 v6 ⊢
  clear hWW
  replace H1:=hZ (fun wy hy=>H1.out WW wy HB.out hy)
  replace H2:=hZ (fun wy hy=>H2.out WW wy HB.out hy)
  by_cases hd:dt.size≤66
  ·have hdc:=(HC1.out hd).symm
   have hd1:(dt.size:Int)≤66:=by omega
   have hd2:¬ (66:Int)<dt.size:=by omega
   have hdm:min (dt.size:Int) 66=(dt.size:Int):=by omega
   subst hdc
   refine wp_heldK_bar [(13,(fun (w':World)=>w'.cell? ⟨W.heap.size,0,none⟩=some (.slice A1 ps.length d1))),(14,(fun (w':World)=>w'.cell? ⟨W.heap.size+1,0,none⟩=some (.slice A2 qs.length d2))),(17,(fun (w':World)=>w'.cell? ⟨W.heap.size+1+1,6,none⟩=some (.string dt)))] 18 (by kernel_rfl) (by decide) ?_
   have hS0:=(show (fun (w':World)=>w'.cell? ⟨W.heap.size,0,none⟩=some (.slice A1 ps.length d1)) WW.drew from QA.out.drew.cell 0)
   have hS1:=(show (fun (w':World)=>w'.cell? ⟨W.heap.size+1,0,none⟩=some (.slice A2 qs.length d2)) WW.drew from QB.out.drew.cell 0)
   have hS2:=(show (fun (w':World)=>w'.cell? ⟨W.heap.size+1+1,6,none⟩=some (.string dt)) WW.drew from QC.out.drew.cell 6)
   refine headK_load 0 13 _ rfl (i:=0) (v:=?_) rfl (by kernel_rfl) (fun _ _ _ h=>h) (fun _ _ _ h=>passed_ready h.1) (Or.inl ⟨by rfl,?y1⟩) ⟨fun _=>hS0,fun _=>hS1,fun _=>hS2,trivial⟩ ?r1
   case y1=>intro w hSw;(try dsimp only at hSw);go_simp;try (with_reducible rfl)
   case r1=>
   try simp only [pZa,pZb,pZc,pZd]
   refine headK_load 1 14 _ rfl (i:=2) (v:=?_) rfl (by kernel_rfl) (fun _ _ _ h=>h) (fun _ _ _ h=>passed_ready h.1) (Or.inl ⟨by rfl,?y2⟩) ⟨fun _=>hS0,fun _=>hS1,fun _=>hS2,trivial⟩ ?r2
   case y2=>intro w hSw;(try dsimp only at hSw);go_simp;try (with_reducible rfl)
   case r2=>
   try simp only [pZa,pZb,pZc,pZd]
   refine headK_take (i:=4) (v:=?_) rfl (by kernel_rfl) (fun _ _ _ h=>h) (fun _ _ _ h=>passed_ready h.1) (Or.inl ⟨by rfl,?y3⟩) ⟨fun _=>hS0,fun _=>hS1,fun _=>hS2,trivial⟩ ?r3
   case y3=>intro w _;go_simp;try (with_reducible rfl)
   case r3=>
   try simp only [pZa,pZb,pZc,pZd]
   refine headK_take (i:=5) (v:=?_) rfl (by kernel_rfl) (fun _ _ _ h=>h) (fun _ _ _ h=>passed_ready h.1) (Or.inl ⟨by rfl,?y4⟩) ⟨fun _=>hS0,fun _=>hS1,fun _=>hS2,trivial⟩ ?r4
   case y4=>intro w _;go_simp;try (with_reducible rfl)
   case r4=>
   try simp only [pZa,pZb,pZc,pZd]
   refine headK_load 2 17 _ rfl (i:=6) (v:=?_) rfl (by kernel_rfl) (fun _ _ _ h=>h) (fun _ _ _ h=>passed_ready h.1) (Or.inl ⟨by rfl,?y5⟩) ⟨fun _=>hS0,fun _=>hS1,fun _=>hS2,trivial⟩ ?r5
   case y5=>intro w hSw;(try dsimp only at hSw);go_simp;try (with_reducible rfl)
   case r5=>
   try simp only [pZa,pZb,pZc,pZd]
   refine headK_take (i:=7) (v:=?_) rfl (by kernel_rfl) (fun _ _ _ h=>h) (fun _ _ _ h=>passed_ready h.1) (Or.inl ⟨by rfl,?y6⟩) ⟨fun _=>hS0,fun _=>hS1,fun _=>hS2,trivial⟩ ?r6
   case y6=>intro w _;go_simp;try (with_reducible rfl)
   case r6=>
   try simp only [pZa,pZb,pZc,pZd]
   refine headK_take (i:=8) (v:=?_) rfl (by kernel_rfl) (fun _ _ _ h=>h) (fun _ _ _ h=>passed_ready h.1) (Or.inl ⟨by rfl,?y7⟩) ⟨fun _=>hS0,fun _=>hS1,fun _=>hS2,trivial⟩ ?r7
   case y7=>intro w _;go_simp;try (with_reducible rfl)
   case r7=>
   try simp only [pZa,pZb,pZc,pZd]
   refine headK_load 2 17 _ rfl (i:=9) (v:=?_) rfl (by kernel_rfl) (fun _ _ _ h=>h) (fun _ _ _ h=>passed_ready h.1) (Or.inl ⟨by rfl,?y8⟩) ⟨fun _=>hS0,fun _=>hS1,fun _=>hS2,trivial⟩ ?r8
   case y8=>intro w hSw;(try dsimp only at hSw);go_simp;try (with_reducible rfl)
   case r8=>
   try simp only [pZa,pZb,pZc,pZd]
   refine headK_take (i:=10) (v:=?_) rfl (by kernel_rfl) (fun _ _ _ h=>h) (fun _ _ _ h=>passed_ready h.1) (Or.inl ⟨by rfl,?y9⟩) ⟨fun _=>hS0,fun _=>hS1,fun _=>hS2,trivial⟩ ?r9
   case y9=>intro w _;go_simp;try (with_reducible rfl)
   case r9=>
   try simp only [pZa,pZb,pZc,pZd]
   refine headK_take (i:=11) (v:=?_) rfl (by kernel_rfl) (fun _ _ _ h=>h) (fun _ _ _ h=>passed_ready h.1) (Or.inl ⟨by rfl,?y10⟩) ⟨fun _=>hS0,fun _=>hS1,fun _=>hS2,trivial⟩ ?r10
   case y10=>intro w _;go_simp;try (with_reducible rfl)
   case r10=>
   try simp only [pZa,pZb,pZc,pZd]
   refine headK_take (i:=12) (v:=?_) rfl (by kernel_rfl) (fun _ _ _ h=>h) (fun _ _ _ h=>passed_ready h.1) (Or.inl ⟨by rfl,?y11⟩) ⟨fun _=>hS0,fun _=>hS1,fun _=>hS2,trivial⟩ ?r11
   case y11=>intro w _;go_simp;try (with_reducible rfl)
   case r11=>
   try simp only [pZa,pZb,pZc,pZd]
   refine headK_one (i:=1) (by kernel_rfl) rfl (fun K hK=>?_)
   go_simp
   refine (H1.out _ (Below.refl _ _).drew).mono ?_
   rintro e y1 ⟨A3,d3,rfl,ho3,hb⟩
   have B1:=hZ (show Below WW.heap.size WW y1 from chain ((Below.refl _ _).drew) hb)
   have O3:=hZ ho3
   clear ho3 hb
   have PA:=hZ (QA.out.keep B1.out)
   have PB:=hZ (QB.out.keep B1.out)
   have PC:=hZ (QC.out.keep B1.out)
   have hS0:=(show (fun (w':World)=>w'.cell? ⟨W.heap.size,0,none⟩=some (.slice A1 ps.length d1)) y1 from PA.out.cell 0)
   have hS1:=(show (fun (w':World)=>w'.cell? ⟨W.heap.size+1,0,none⟩=some (.slice A2 qs.length d2)) y1 from PB.out.cell 0)
   have hS2:=(show (fun (w':World)=>w'.cell? ⟨W.heap.size+1+1,6,none⟩=some (.string dt)) y1 from PC.out.cell 6)
   refine hK.out _ _ ⟨fun _=>hS0,fun _=>hS1,fun _=>hS2,trivial⟩ ?_
   clear hK K
   try simp only [pZa,pZb,pZc,pZd]
   refine headK_one (i:=3) (by kernel_rfl) rfl (fun K hK=>?_)
   go_simp
   refine (H2.out _ B1.out).mono ?_
   rintro e y2 ⟨A4,d4,rfl,ho4,hb⟩
   have B2:=hZ (show Below WW.heap.size WW y2 from chain B1.out hb)
   have O4:=hZ ho4
   replace O3:=hZ (own_keep O3.out hb)
   replace PA:=hZ (PA.out.keep hb)
   replace PB:=hZ (PB.out.keep hb)
   replace PC:=hZ (PC.out.keep hb)
   clear ho4 hb
   have sa:=PA.out.cell 0
   have sb:=PB.out.cell 0
   have sc:=PC.out.cell 6
   have fa:=PA.out.free 0
   have fb:=PB.out.free 0
   have fc:=PC.out.free 6
   have hS0:=(show (fun (w':World)=>w'.cell? ⟨W.heap.size,0,none⟩=some (.slice A1 ps.length d1)) y2 from PA.out.cell 0)
   have hS1:=(show (fun (w':World)=>w'.cell? ⟨W.heap.size+1,0,none⟩=some (.slice A2 qs.length d2)) y2 from PB.out.cell 0)
   have hS2:=(show (fun (w':World)=>w'.cell? ⟨W.heap.size+1+1,6,none⟩=some (.string dt)) y2 from PC.out.cell 6)
   refine hK.out _ _ ⟨fun _=>hS0,fun _=>hS1,fun _=>hS2,trivial⟩ ?_
   clear hK K
   try simp only [pZa,pZb,pZc,pZd]
   refine headK_one (i:=13) (by kernel_rfl) rfl (fun K hK=>?_)
   go_simp
   have hS1:=(show (fun (w':World)=>w'.cell? ⟨W.heap.size+1,0,none⟩=some (.slice A2 qs.length d2)) (y2.setCell ⟨W.heap.size,0,none⟩ (.slice A3 (fewRs ps).length d3)) from (PB.out.far (p:=⟨W.heap.size,0,none⟩) (by show W.heap.size+1≠W.heap.size;omega) (.slice A3 (fewRs ps).length d3)).cell 0)
   have hS2:=(show (fun (w':World)=>w'.cell? ⟨W.heap.size+1+1,6,none⟩=some (.string dt)) (y2.setCell ⟨W.heap.size,0,none⟩ (.slice A3 (fewRs ps).length d3)) from (PC.out.far (p:=⟨W.heap.size,0,none⟩) (by show W.heap.size+1+1≠W.heap.size;omega) (.slice A3 (fewRs ps).length d3)).cell 6)
   refine hK.out _ _ ⟨nZ,fun _=>hS1,fun _=>hS2,trivial⟩ ?_
   clear hK K
   try simp only [pZa,pZb,pZc,pZd]
   refine headK_one (i:=14) (by kernel_rfl) rfl (fun K hK=>?_)
   go_simp
   have hS2:=(show (fun (w':World)=>w'.cell? ⟨W.heap.size+1+1,6,none⟩=some (.string dt)) ((y2.setCell ⟨W.heap.size,0,none⟩ (.slice A3 (fewRs ps).length d3)).setCell ⟨W.heap.size+1,0,none⟩ (.slice A4 (fewRs qs).length d4)) from ((PC.out.far (p:=⟨W.heap.size,0,none⟩) (by show W.heap.size+1+1≠W.heap.size;omega) (.slice A3 (fewRs ps).length d3)).far (p:=⟨W.heap.size+1,0,none⟩) (by show W.heap.size+1+1≠W.heap.size+1;omega) (.slice A4 (fewRs qs).length d4)).cell 6)
   refine hK.out _ _ ⟨nZ,nZ,fun _=>hS2,trivial⟩ ?_
   clear hK K
   try simp only [pZa,pZb,pZc,pZd]
   refine headK_take (i:=15) (v:=?_) rfl (by kernel_rfl) (fun _ _ _ h=>h) (fun _ _ _ h=>passed_ready h.1) (Or.inl ⟨by rfl,?y12⟩) ⟨nZ,nZ,fun _=>hS2,trivial⟩ ?r12
   case y12=>intro w _;go_simp;try (with_reducible rfl)
   case r12=>
   try simp only [pZa,pZb,pZc,pZd]
   refine headK_take (i:=16) (v:=?_) rfl (by kernel_rfl) (fun _ _ _ h=>h) (fun _ _ _ h=>passed_ready h.1) (Or.inl ⟨by rfl,?y13⟩) ⟨nZ,nZ,fun _=>hS2,trivial⟩ ?r13
   case y13=>intro w _;go_simp;try (with_reducible rfl)
   case r13=>
   try simp only [pZa,pZb,pZc,pZd]
   refine headK_one (i:=17) (by kernel_rfl) rfl (fun K hK=>?_)
   go_simp
   refine hK.out _ _ ⟨nZ,nZ,nZ,trivial⟩ ?_
   clear hK K
   try simp only [pZa,pZb,pZc,pZd]
   refine⟨by kernel_rfl,?_⟩
   refine wpAny_done (by kernel_rfl) ?_ _
   go_wp2_with fail
   go_meet
   have ZA:=((PA.out.put 0 (.slice A3 (fewRs ps).length d3)).far (p:=⟨W.heap.size+1,0,none⟩) (by show W.heap.size≠W.heap.size+1;omega) (.slice A4 (fewRs qs).length d4)).far (p:=⟨W.heap.size+1+1,6,none⟩) (by show W.heap.size≠W.heap.size+1+1;omega) (.string dt)
   have ZB:=((PB.out.far (p:=⟨W.heap.size,0,none⟩) (by show W.heap.size+1≠W.heap.size;omega) (.slice A3 (fewRs ps).length d3)).put 0 (.slice A4 (fewRs qs).length d4)).far (p:=⟨W.heap.size+1+1,6,none⟩) (by show W.heap.size+1≠W.heap.size+1+1;omega) (.string dt)
   have ZC:=((PC.out.far (p:=⟨W.heap.size,0,none⟩) (by show W.heap.size+1+1≠W.heap.size;omega) (.slice A3 (fewRs ps).length d3)).far (p:=⟨W.heap.size+1,0,none⟩) (by show W.heap.size+1+1≠W.heap.size+1;omega) (.slice A4 (fewRs qs).length d4)).put 6 (.string dt)
   have ZW:=(((HB.out.trans (B2.out.mono HB.out.size)).setCell (p:=⟨W.heap.size,0,none⟩) (Nat.le_refl _) (.slice A3 (fewRs ps).length d3)).setCell (p:=⟨W.heap.size+1,0,none⟩) (by show W.heap.size≤W.heap.size+1;omega) (.slice A4 (fewRs qs).length d4)).setCell (p:=⟨W.heap.size+1+1,6,none⟩) (by show W.heap.size≤W.heap.size+1+1;omega) (.string dt)
   have P1:=PB.out.far (p:=⟨W.heap.size,0,none⟩) (by show W.heap.size+1≠W.heap.size;omega) (.slice A3 (fewRs ps).length d3)
   have P2:=(PC.out.far (p:=⟨W.heap.size,0,none⟩) (by show W.heap.size+1+1≠W.heap.size;omega) (.slice A3 (fewRs ps).length d3)).far (p:=⟨W.heap.size+1,0,none⟩) (by show W.heap.size+1+1≠W.heap.size+1;omega) (.slice A4 (fewRs qs).length d4)
   have J3:=own_rcin (own_far (own_far (own_far O3.out PA.out (by decide) 0 (.slice A3 (fewRs ps).length d3)) P1 (by decide) 0 (.slice A4 (fewRs qs).length d4)) P2 (by decide) 6 (.string dt)) HDp.out ZW
   have J4:=own_rcin (own_far (own_far (own_far O4.out PA.out (by decide) 0 (.slice A3 (fewRs ps).length d3)) P1 (by decide) 0 (.slice A4 (fewRs qs).length d4)) P2 (by decide) 6 (.string dt)) HDq.out ZW
   exact⟨A3,d3,A4,d4,hZ ZA,hZ ZB,hZ ZC,hZ J3,hZ J4,hZ ZW⟩
  ·have hdc:=HC2.out (by omega)
   have hd1:(66:Int)<dt.size:=by omega
   have hd3:(66:Int)≤dt.size:=by omega
   have hdm:min (dt.size:Int) 66=66:=by omega
   subst hdc
   refine wp_heldK_bar [(13,(fun (w':World)=>w'.cell? ⟨W.heap.size,0,none⟩=some (.slice A1 ps.length d1))),(14,(fun (w':World)=>w'.cell? ⟨W.heap.size+1,0,none⟩=some (.slice A2 qs.length d2))),(17,(fun (w':World)=>w'.cell? ⟨W.heap.size+1+1,6,none⟩=some (.string dt)))] 18 (by kernel_rfl) (by decide) ?_
   have hS0:=(show (fun (w':World)=>w'.cell? ⟨W.heap.size,0,none⟩=some (.slice A1 ps.length d1)) WW.drew from QA.out.drew.cell 0)
   have hS1:=(show (fun (w':World)=>w'.cell? ⟨W.heap.size+1,0,none⟩=some (.slice A2 qs.length d2)) WW.drew from QB.out.drew.cell 0)
   have hS2:=(show (fun (w':World)=>w'.cell? ⟨W.heap.size+1+1,6,none⟩=some (.string dt)) WW.drew from QC.out.drew.cell 6)
   refine headK_load 0 13 _ rfl (i:=0) (v:=?_) rfl (by kernel_rfl) (fun _ _ _ h=>h) (fun _ _ _ h=>passed_ready h.1) (Or.inl ⟨by rfl,?y14⟩) ⟨fun _=>hS0,fun _=>hS1,fun _=>hS2,trivial⟩ ?r14
   case y14=>intro w hSw;(try dsimp only at hSw);go_simp;try (with_reducible rfl)
   case r14=>
   try simp only [pZa,pZb,pZc,pZd]
   refine headK_load 1 14 _ rfl (i:=2) (v:=?_) rfl (by kernel_rfl) (fun _ _ _ h=>h) (fun _ _ _ h=>passed_ready h.1) (Or.inl ⟨by rfl,?y15⟩) ⟨fun _=>hS0,fun _=>hS1,fun _=>hS2,trivial⟩ ?r15
   case y15=>intro w hSw;(try dsimp only at hSw);go_simp;try (with_reducible rfl)
   case r15=>
   try simp only [pZa,pZb,pZc,pZd]
   refine headK_take (i:=4) (v:=?_) rfl (by kernel_rfl) (fun _ _ _ h=>h) (fun _ _ _ h=>passed_ready h.1) (Or.inl ⟨by rfl,?y16⟩) ⟨fun _=>hS0,fun _=>hS1,fun _=>hS2,trivial⟩ ?r16
   case y16=>intro w _;go_simp;try (with_reducible rfl)
   case r16=>
   try simp only [pZa,pZb,pZc,pZd]
   refine headK_take (i:=5) (v:=?_) rfl (by kernel_rfl) (fun _ _ _ h=>h) (fun _ _ _ h=>passed_ready h.1) (Or.inl ⟨by rfl,?y17⟩) ⟨fun _=>hS0,fun _=>hS1,fun _=>hS2,trivial⟩ ?r17
   case y17=>intro w _;go_simp;try (with_reducible rfl)
   case r17=>
   try simp only [pZa,pZb,pZc,pZd]
   refine headK_load 2 17 _ rfl (i:=6) (v:=?_) rfl (by kernel_rfl) (fun _ _ _ h=>h) (fun _ _ _ h=>passed_ready h.1) (Or.inl ⟨by rfl,?y18⟩) ⟨fun _=>hS0,fun _=>hS1,fun _=>hS2,trivial⟩ ?r18
   case y18=>intro w hSw;(try dsimp only at hSw);go_simp;try (with_reducible rfl)
   case r18=>
   try simp only [pZa,pZb,pZc,pZd]
   refine headK_take (i:=7) (v:=?_) rfl (by kernel_rfl) (fun _ _ _ h=>h) (fun _ _ _ h=>passed_ready h.1) (Or.inl ⟨by rfl,?y19⟩) ⟨fun _=>hS0,fun _=>hS1,fun _=>hS2,trivial⟩ ?r19
   case y19=>intro w _;go_simp;try (with_reducible rfl)
   case r19=>
   try simp only [pZa,pZb,pZc,pZd]
   refine headK_take (i:=8) (v:=?_) rfl (by kernel_rfl) (fun _ _ _ h=>h) (fun _ _ _ h=>passed_ready h.1) (Or.inl ⟨by rfl,?y20⟩) ⟨fun _=>hS0,fun _=>hS1,fun _=>hS2,trivial⟩ ?r20
   case y20=>intro w _;go_simp;try (with_reducible rfl)
   case r20=>
   try simp only [pZa,pZb,pZc,pZd]
   refine headK_load 2 17 _ rfl (i:=9) (v:=?_) rfl (by kernel_rfl) (fun _ _ _ h=>h) (fun _ _ _ h=>passed_ready h.1) (Or.inl ⟨by rfl,?y21⟩) ⟨fun _=>hS0,fun _=>hS1,fun _=>hS2,trivial⟩ ?r21
   case y21=>intro w hSw;(try dsimp only at hSw);go_simp;try (with_reducible rfl)
   case r21=>
   try simp only [pZa,pZb,pZc,pZd]
   refine headK_take (i:=10) (v:=?_) rfl (by kernel_rfl) (fun _ _ _ h=>h) (fun _ _ _ h=>passed_ready h.1) (Or.inl ⟨by rfl,?y22⟩) ⟨fun _=>hS0,fun _=>hS1,fun _=>hS2,trivial⟩ ?r22
   case y22=>intro w _;go_simp;try (with_reducible rfl)
   case r22=>
   try simp only [pZa,pZb,pZc,pZd]
   refine headK_take (i:=11) (v:=?_) rfl (by kernel_rfl) (fun _ _ _ h=>h) (fun _ _ _ h=>passed_ready h.1) (Or.inl ⟨by rfl,?y23⟩) ⟨fun _=>hS0,fun _=>hS1,fun _=>hS2,trivial⟩ ?r23
   case y23=>intro w _;go_simp;try (with_reducible rfl)
   case r23=>
   try simp only [pZa,pZb,pZc,pZd]
   refine headK_take (i:=12) (v:=?_) rfl (by kernel_rfl) (fun _ _ _ h=>h) (fun _ _ _ h=>passed_ready h.1) (Or.inl ⟨by rfl,?y24⟩) ⟨fun _=>hS0,fun _=>hS1,fun _=>hS2,trivial⟩ ?r24
   case y24=>intro w _;go_simp;try (with_reducible rfl)
   case r24=>
   try simp only [pZa,pZb,pZc,pZd]
   refine headK_one (i:=1) (by kernel_rfl) rfl (fun K hK=>?_)
   go_simp
   refine (H1.out _ (Below.refl _ _).drew).mono ?_
   rintro e y1 ⟨A3,d3,rfl,ho3,hb⟩
   have B1:=hZ (show Below WW.heap.size WW y1 from chain ((Below.refl _ _).drew) hb)
   have O3:=hZ ho3
   clear ho3 hb
   have PA:=hZ (QA.out.keep B1.out)
   have PB:=hZ (QB.out.keep B1.out)
   have PC:=hZ (QC.out.keep B1.out)
   have hS0:=(show (fun (w':World)=>w'.cell? ⟨W.heap.size,0,none⟩=some (.slice A1 ps.length d1)) y1 from PA.out.cell 0)
   have hS1:=(show (fun (w':World)=>w'.cell? ⟨W.heap.size+1,0,none⟩=some (.slice A2 qs.length d2)) y1 from PB.out.cell 0)
   have hS2:=(show (fun (w':World)=>w'.cell? ⟨W.heap.size+1+1,6,none⟩=some (.string dt)) y1 from PC.out.cell 6)
   refine hK.out _ _ ⟨fun _=>hS0,fun _=>hS1,fun _=>hS2,trivial⟩ ?_
   clear hK K
   try simp only [pZa,pZb,pZc,pZd]
   refine headK_one (i:=3) (by kernel_rfl) rfl (fun K hK=>?_)
   go_simp
   refine (H2.out _ B1.out).mono ?_
   rintro e y2 ⟨A4,d4,rfl,ho4,hb⟩
   have B2:=hZ (show Below WW.heap.size WW y2 from chain B1.out hb)
   have O4:=hZ ho4
   replace O3:=hZ (own_keep O3.out hb)
   replace PA:=hZ (PA.out.keep hb)
   replace PB:=hZ (PB.out.keep hb)
   replace PC:=hZ (PC.out.keep hb)
   clear ho4 hb
   have sa:=PA.out.cell 0
   have sb:=PB.out.cell 0
   have sc:=PC.out.cell 6
   have fa:=PA.out.free 0
   have fb:=PB.out.free 0
   have fc:=PC.out.free 6
   have hS0:=(show (fun (w':World)=>w'.cell? ⟨W.heap.size,0,none⟩=some (.slice A1 ps.length d1)) y2 from PA.out.cell 0)
   have hS1:=(show (fun (w':World)=>w'.cell? ⟨W.heap.size+1,0,none⟩=some (.slice A2 qs.length d2)) y2 from PB.out.cell 0)
   have hS2:=(show (fun (w':World)=>w'.cell? ⟨W.heap.size+1+1,6,none⟩=some (.string dt)) y2 from PC.out.cell 6)
   refine hK.out _ _ ⟨fun _=>hS0,fun _=>hS1,fun _=>hS2,trivial⟩ ?_
   clear hK K
   try simp only [pZa,pZb,pZc,pZd]
   refine headK_one (i:=13) (by kernel_rfl) rfl (fun K hK=>?_)
   go_simp
   have hS1:=(show (fun (w':World)=>w'.cell? ⟨W.heap.size+1,0,none⟩=some (.slice A2 qs.length d2)) (y2.setCell ⟨W.heap.size,0,none⟩ (.slice A3 (fewRs ps).length d3)) from (PB.out.far (p:=⟨W.heap.size,0,none⟩) (by show W.heap.size+1≠W.heap.size;omega) (.slice A3 (fewRs ps).length d3)).cell 0)
   have hS2:=(show (fun (w':World)=>w'.cell? ⟨W.heap.size+1+1,6,none⟩=some (.string dt)) (y2.setCell ⟨W.heap.size,0,none⟩ (.slice A3 (fewRs ps).length d3)) from (PC.out.far (p:=⟨W.heap.size,0,none⟩) (by show W.heap.size+1+1≠W.heap.size;omega) (.slice A3 (fewRs ps).length d3)).cell 6)
   refine hK.out _ _ ⟨nZ,fun _=>hS1,fun _=>hS2,trivial⟩ ?_
   clear hK K
   try simp only [pZa,pZb,pZc,pZd]
   refine headK_one (i:=14) (by kernel_rfl) rfl (fun K hK=>?_)
   go_simp
   have hS2:=(show (fun (w':World)=>w'.cell? ⟨W.heap.size+1+1,6,none⟩=some (.string dt)) ((y2.setCell ⟨W.heap.size,0,none⟩ (.slice A3 (fewRs ps).length d3)).setCell ⟨W.heap.size+1,0,none⟩ (.slice A4 (fewRs qs).length d4)) from ((PC.out.far (p:=⟨W.heap.size,0,none⟩) (by show W.heap.size+1+1≠W.heap.size;omega) (.slice A3 (fewRs ps).length d3)).far (p:=⟨W.heap.size+1,0,none⟩) (by show W.heap.size+1+1≠W.heap.size+1;omega) (.slice A4 (fewRs qs).length d4)).cell 6)
   refine hK.out _ _ ⟨nZ,nZ,fun _=>hS2,trivial⟩ ?_
   clear hK K
   try simp only [pZa,pZb,pZc,pZd]
   refine headK_take (i:=15) (v:=?_) rfl (by kernel_rfl) (fun _ _ _ h=>h) (fun _ _ _ h=>passed_ready h.1) (Or.inl ⟨by rfl,?y25⟩) ⟨nZ,nZ,fun _=>hS2,trivial⟩ ?r25
   case y25=>intro w _;go_simp;try (with_reducible rfl)
   case r25=>
   try simp only [pZa,pZb,pZc,pZd]
   refine headK_take (i:=16) (v:=?_) rfl (by kernel_rfl) (fun _ _ _ h=>h) (fun _ _ _ h=>passed_ready h.1) (Or.inl ⟨by rfl,?y26⟩) ⟨nZ,nZ,fun _=>hS2,trivial⟩ ?r26
   case y26=>intro w _;go_simp;try (with_reducible rfl)
   case r26=>
   try simp only [pZa,pZb,pZc,pZd]
   refine headK_one (i:=17) (by kernel_rfl) rfl (fun K hK=>?_)
   go_simp
   refine hK.out _ _ ⟨nZ,nZ,nZ,trivial⟩ ?_
   clear hK K
   try simp only [pZa,pZb,pZc,pZd]
   refine⟨by kernel_rfl,?_⟩
   refine wpAny_done (by kernel_rfl) ?_ _
   go_wp2_with fail
   go_meet
   have ZA:=((PA.out.put 0 (.slice A3 (fewRs ps).length d3)).far (p:=⟨W.heap.size+1,0,none⟩) (by show W.heap.size≠W.heap.size+1;omega) (.slice A4 (fewRs qs).length d4)).far (p:=⟨W.heap.size+1+1,6,none⟩) (by show W.heap.size≠W.heap.size+1+1;omega) (.string (dt.extract 0 66))
   have ZB:=((PB.out.far (p:=⟨W.heap.size,0,none⟩) (by show W.heap.size+1≠W.heap.size;omega) (.slice A3 (fewRs ps).length d3)).put 0 (.slice A4 (fewRs qs).length d4)).far (p:=⟨W.heap.size+1+1,6,none⟩) (by show W.heap.size+1≠W.heap.size+1+1;omega) (.string (dt.extract 0 66))
   have ZC:=((PC.out.far (p:=⟨W.heap.size,0,none⟩) (by show W.heap.size+1+1≠W.heap.size;omega) (.slice A3 (fewRs ps).length d3)).far (p:=⟨W.heap.size+1,0,none⟩) (by show W.heap.size+1+1≠W.heap.size+1;omega) (.slice A4 (fewRs qs).length d4)).put 6 (.string (dt.extract 0 66))
   have ZW:=(((HB.out.trans (B2.out.mono HB.out.size)).setCell (p:=⟨W.heap.size,0,none⟩) (Nat.le_refl _) (.slice A3 (fewRs ps).length d3)).setCell (p:=⟨W.heap.size+1,0,none⟩) (by show W.heap.size≤W.heap.size+1;omega) (.slice A4 (fewRs qs).length d4)).setCell (p:=⟨W.heap.size+1+1,6,none⟩) (by show W.heap.size≤W.heap.size+1+1;omega) (.string (dt.extract 0 66))
   have P1:=PB.out.far (p:=⟨W.heap.size,0,none⟩) (by show W.heap.size+1≠W.heap.size;omega) (.slice A3 (fewRs ps).length d3)
   have P2:=(PC.out.far (p:=⟨W.heap.size,0,none⟩) (by show W.heap.size+1+1≠W.heap.size;omega) (.slice A3 (fewRs ps).length d3)).far (p:=⟨W.heap.size+1,0,none⟩) (by show W.heap.size+1+1≠W.heap.size+1;omega) (.slice A4 (fewRs qs).length d4)
   have J3:=own_rcin (own_far (own_far (own_far O3.out PA.out (by decide) 0 (.slice A3 (fewRs ps).length d3)) P1 (by decide) 0 (.slice A4 (fewRs qs).length d4)) P2 (by decide) 6 (.string (dt.extract 0 66))) HDp.out ZW
   have J4:=own_rcin (own_far (own_far (own_far O4.out PA.out (by decide) 0 (.slice A3 (fewRs ps).length d3)) P1 (by decide) 0 (.slice A4 (fewRs qs).length d4)) P2 (by decide) 6 (.string (dt.extract 0 66))) HDq.out ZW
   exact⟨A3,d3,A4,d4,hZ ZA,hZ ZB,hZ ZC,hZ J3,hZ J4,hZ ZW⟩
 case rest=>
  obtain⟨A3,d3,A4,d4,K0,K1,K2,I3,I4,KB⟩:=hcut
  clear QA QB QC HB H1 H2 HC1 HC2 HDp HDq ra rb v0 v1 v2 v3 v4 v5 v6
  obtain⟨wa,rfl⟩:∃ x:World,x=wc:=⟨_,rfl⟩
  obtain⟨fp,hfp⟩:∃ y,y=fewRs ps:=⟨_,rfl⟩
  obtain⟨fq,hfq⟩:∃ y,y=fewRs qs:=⟨_,rfl⟩
  rw [← hfp] at K0 I3 HI
  rw [← hfq] at K1 I4
  clear hfp hfq
  have HD:=hZ (fun (wy:World) (h:RcIn wy A3 d3 fp)=>rdo19_any A3 d3 fp (wh,ob,k,s,cp,id,ct) wy h.1 h.2.1 h.2.2 HI.out hci)
  have HE:=hZ (fun (wy:World) (h:RcIn wy A3 d3 fp)=>rdoD_any A3 d3 fp (wh,ob,k,s,cp,id,ct) wy h.1 h.2.1 h.2.2 HI.out hci)
  obtain⟨ro,hro⟩:∃ x,x=doR fp (wh,ob,k,s,cp,id,ct):=⟨_,rfl⟩
  rw [← hro] at HD HE
  clear hro
  obtain⟨os,r1,r2,bl⟩:=ro
  have ra:=K0.out.cell 0
  obtain⟨v0,v1,v2,v3,v4,v5,v6⟩:=K2.out.sevenO
  have HDw:=hZ (HD.out _ I3.out)
  go_wp2_with fail
  refine HDw.out.mono ?_
  rintro e w1 ⟨ps1,hps1,A5,d5,B5,c5,rfl,hs5,hx5,hd5,ht5,hc5,hm5,hb⟩
  have b1:Below w1.heap.size w1 (w1.alloc (.cells #[.slice A5 ps1.length d5] 48)):=(Below.refl _ _).alloc (Nat.le_refl _) _
  have b2:=b1.alloc b1.size (.cells #[.int .i64 r1,.int .i64 r2,.slice B5 bl.length c5] 36)
  have hb2:=chain hb b2
  have u1:=Box.new (w1.alloc (.cells #[.slice A5 ps1.length d5] 48)) 36 #[.int .i64 r1,.int .i64 r2,.slice B5 bl.length c5]
  simp only [World.size_alloc] at u1
  have L0:=hZ (K0.out.keep hb2)
  have L1:=hZ (K1.out.keep hb2)
  have L2:=hZ (K2.out.keep hb2)
  have LP:=hZ ((Box.new w1 48 #[.slice A5 ps1.length d5]).alloc (.cells #[.int .i64 r1,.int .i64 r2,.slice B5 bl.length c5] 36))
  have LR:=hZ u1
  have J3:=hZ (I3.out.below hb2)
  have J4:=hZ (I4.out.below hb2)
  have TP:=hZ (show RcIn _ A5 d5 ps1 from ⟨hs5,Recs.below hx5 b2,OkDs.below hd5 b2⟩)
  have TR:=hZ (show RpAt _ (.agg #[.int .i64 r1,.int .i64 r2,.slice B5 bl.length c5]) (r1,r2,bl) from ⟨B5,c5,rfl,ht5.below b2,hc5,hm5⟩)
  have HC:=hZ (KB.out.trans (hb2.mono KB.out.size))
  have HP1:=hZ hps1
  clear b1 b2 hb2 u1 hb hs5 hx5 hd5 ht5 hc5 hm5 hps1 HD HDw I3 I4 K0 K1 K2 KB ra v0 v1 v2 v3 v4 v5 v6
  obtain⟨gP,hgP⟩:∃ y,y=w1.heap.size:=⟨_,rfl⟩
  rw [← hgP] at LP LR
  obtain⟨wb,hwb⟩:∃ y,y=(w1.alloc (.cells #[.slice A5 ps1.length d5] 48)).alloc (.cells #[.int .i64 r1,.int .i64 r2,.slice B5 bl.length c5] 36):=⟨_,rfl⟩
  rw [← hwb] at L0 L1 L2 LP LR J3 J4 TP TR HC
  go_upto_region 3 with (fail)
  rw [← hgP,← hwb]
  clear hgP hwb
  have ra:=L0.out.cell 0
  obtain⟨v0,v1,v2,v3,v4,v5,v6⟩:=L2.out.sevenO
  have HEw:=hZ (HE.out _ J3.out)
  go_wp2_with fail
  refine HEw.out.mono ?_
  rintro e w3 ⟨ps2,A6,d6,B6,c6,hps2,rfl,hs6,hx6,hd6,ht6,hb⟩
  have b1:Below w3.heap.size w3 (w3.alloc (.cells #[.slice A6 ps2.length d6,.int .i64 r1,.int .i64 r2,.slice B6 bl.length c6] 53)):=(Below.refl _ _).alloc (Nat.le_refl _) _
  have hb2:=chain hb b1
  have M0:=hZ (L0.out.keep hb2)
  have M1:=hZ (L1.out.keep hb2)
  have MP:=hZ (LP.out.keep hb2)
  have MR:=hZ (LR.out.keep hb2)
  have MD:=hZ (Box.new w3 53 #[.slice A6 ps2.length d6,.int .i64 r1,.int .i64 r2,.slice B6 bl.length c6])
  have N3:=hZ (J3.out.below hb2)
  have N4:=hZ (J4.out.below hb2)
  have UP:=hZ (TP.out.below hb2)
  have UR:=hZ (TR.out.below hb2)
  have VP:=hZ (show RcIn _ A6 d6 ps2 from ⟨hs6,Recs.below hx6 b1,OkDs.below hd6 b1⟩)
  have VR:=hZ (show RpW _ (.agg #[.int .i64 r1,.int .i64 r2,.slice B6 bl.length c6]) (r1,r2,bl) from ⟨B6,c6,rfl,ht6.below b1⟩)
  have HG:=hZ (HC.out.trans (hb2.mono HC.out.size))
  have HSm:=hZ (show sameR ps1 ps2=true from (sameR_iff ps1 ps2).2 (HP1.out.trans hps2.symm))
  clear b1 hb2 hb hs6 hx6 hd6 ht6 hps2 HE HEw J3 J4 TP TR L0 L1 L2 LP LR HC HP1 ra v0 v1 v2 v3 v4 v5 v6
  obtain⟨gD,hgD⟩:∃ y,y=w3.heap.size:=⟨_,rfl⟩
  rw [← hgD] at MD
  obtain⟨wd,hwd⟩:∃ y,y=w3.alloc (.cells #[.slice A6 ps2.length d6,.int .i64 r1,.int .i64 r2,.slice B6 bl.length c6] 53):=⟨_,rfl⟩
  rw [← hwd] at M0 M1 MP MR MD N3 N4 UP UR VP VR HG
  go_upto_region 4 with (fail)
  rw [← hgD,← hwd]
  clear hgD hwd
  have E1:=hZ (fun w (hw:Below wd.heap.size wd w)=>rcsame_any _ _ ps1 ps2 w (UP.out.below hw).at (VP.out.below hw).at)
  have E2:=hZ (fun w (hw:Below wd.heap.size wd w)=>replies_w _ _ (r1,r2,bl) w (UR.out.below hw) (VR.out.below hw))
  have E3:=hZ (fun w (hw:Below wd.heap.size wd w)=>rcright_any _ fp w (N3.out.below hw).at)
  have E4:=hZ (fun w (hw:Below wd.heap.size wd w)=>rcright19_any _ fp w (N3.out.below hw).at)
  have E5:=hZ (fun w (hw:Below wd.heap.size wd w)=>rclike_any _ _ fp fq w (N3.out.below hw).at (N4.out.below hw).at)
  have E6:=hZ (fun w (hw:Below wd.heap.size wd w)=>rcsame_any _ _ fp fq w (N3.out.below hw).at (N4.out.below hw).at)
  have E7:=hZ (fun w (hw:Below wd.heap.size wd w)=>rclike_any _ _ fp fp w (N3.out.below hw).at (N3.out.below hw).at)
  rw [HSm.out] at E1
  rw [sameR_self] at E7
  generalize rightR fp=bx at *
  generalize sameR fp fq=by9 at *
  have eq1:(bx==bx)=true:=by simp
  have eq2:(by9==by9)=true:=by simp
  clear HSm HI
  have BC:=hZ (show Below wd.heap.size wd wd.drew from (Below.refl _ _).drew)
  refine wp_heldK_bar [(35,(fun (w':World)=>w'.cell? ⟨W.heap.size,0,none⟩=some (.slice A3 fp.length d3)∧w'.cell? ⟨W.heap.size+1,0,none⟩=some (.slice A4 fq.length d4)∧w'.cell? ⟨gP,0,none⟩=some (.slice A5 ps1.length d5)∧w'.cell? ⟨gP+1,0,none⟩=some (.int .i64 r1)∧w'.cell? ⟨gP+1,1,none⟩=some (.int .i64 r2)∧w'.cell? ⟨gP+1,2,none⟩=some (.slice B5 bl.length c5)∧w'.cell? ⟨gD,0,none⟩=some (.slice A6 ps2.length d6)∧w'.cell? ⟨gD,1,none⟩=some (.int .i64 r1)∧w'.cell? ⟨gD,2,none⟩=some (.int .i64 r2)∧w'.cell? ⟨gD,3,none⟩=some (.slice B6 bl.length c6)))] 35 (by kernel_rfl) (by decide) ?_
  have hS0:=(show (fun (w':World)=>w'.cell? ⟨W.heap.size,0,none⟩=some (.slice A3 fp.length d3)∧w'.cell? ⟨W.heap.size+1,0,none⟩=some (.slice A4 fq.length d4)∧w'.cell? ⟨gP,0,none⟩=some (.slice A5 ps1.length d5)∧w'.cell? ⟨gP+1,0,none⟩=some (.int .i64 r1)∧w'.cell? ⟨gP+1,1,none⟩=some (.int .i64 r2)∧w'.cell? ⟨gP+1,2,none⟩=some (.slice B5 bl.length c5)∧w'.cell? ⟨gD,0,none⟩=some (.slice A6 ps2.length d6)∧w'.cell? ⟨gD,1,none⟩=some (.int .i64 r1)∧w'.cell? ⟨gD,2,none⟩=some (.int .i64 r2)∧w'.cell? ⟨gD,3,none⟩=some (.slice B6 bl.length c6)) wd.drew from ⟨(M0.out.keep BC.out).cell 0,(M1.out.keep BC.out).cell 0,(MP.out.keep BC.out).cell 0,(MR.out.keep BC.out).cell 0,(MR.out.keep BC.out).cell 1,(MR.out.keep BC.out).cell 2,(MD.out.keep BC.out).cell 0,(MD.out.keep BC.out).cell 1,(MD.out.keep BC.out).cell 2,(MD.out.keep BC.out).cell 3⟩)
  refine headK_one (i:=0) (by kernel_rfl) rfl (fun K hK=>?_)
  go_simp
  refine (alive19_any _).mono ?_
  rintro e x1 ⟨rfl,hb⟩
  replace BC:=hZ (chain BC.out hb)
  clear hb
  have hS0:=(show (fun (w':World)=>w'.cell? ⟨W.heap.size,0,none⟩=some (.slice A3 fp.length d3)∧w'.cell? ⟨W.heap.size+1,0,none⟩=some (.slice A4 fq.length d4)∧w'.cell? ⟨gP,0,none⟩=some (.slice A5 ps1.length d5)∧w'.cell? ⟨gP+1,0,none⟩=some (.int .i64 r1)∧w'.cell? ⟨gP+1,1,none⟩=some (.int .i64 r2)∧w'.cell? ⟨gP+1,2,none⟩=some (.slice B5 bl.length c5)∧w'.cell? ⟨gD,0,none⟩=some (.slice A6 ps2.length d6)∧w'.cell? ⟨gD,1,none⟩=some (.int .i64 r1)∧w'.cell? ⟨gD,2,none⟩=some (.int .i64 r2)∧w'.cell? ⟨gD,3,none⟩=some (.slice B6 bl.length c6)) x1 from ⟨(M0.out.keep BC.out).cell 0,(M1.out.keep BC.out).cell 0,(MP.out.keep BC.out).cell 0,(MR.out.keep BC.out).cell 0,(MR.out.keep BC.out).cell 1,(MR.out.keep BC.out).cell 2,(MD.out.keep BC.out).cell 0,(MD.out.keep BC.out).cell 1,(MD.out.keep BC.out).cell 2,(MD.out.keep BC.out).cell 3⟩)
  refine hK.out _ _ ⟨fun _=>hS0,trivial⟩ ?_
  clear hK K
  try simp only [pZa,pZb,pZc,pZd]
  refine headK_take (i:=1) (v:=?_) rfl (by kernel_rfl) (fun _ _ _ h=>h) (fun _ _ _ h=>passed_ready h.1) (Or.inl ⟨by rfl,?y27⟩) ⟨fun _=>hS0,trivial⟩ ?r27
  case y27=>intro w _;go_simp;try (with_reducible rfl)
  case r27=>
  try simp only [pZa,pZb,pZc,pZd]
  refine headK_load 0 35 _ rfl (i:=2) (v:=?_) rfl (by kernel_rfl) (fun _ _ _ h=>h) (fun _ _ _ h=>passed_ready h.1) (Or.inl ⟨by rfl,?y28⟩) ⟨fun _=>hS0,trivial⟩ ?r28
  case y28=>intro w hSw;(try dsimp only at hSw);obtain⟨hc0,hc1,hc2,hc3,hc4,hc5,hc6,hc7,hc8,hc9⟩:=hSw;go_simp;try (with_reducible rfl)
  case r28=>
  try simp only [pZa,pZb,pZc,pZd]
  refine headK_take (i:=3) (v:=?_) rfl (by kernel_rfl) (fun _ _ _ h=>h) (fun _ _ _ h=>passed_ready h.1) (Or.inl ⟨by rfl,?y29⟩) ⟨fun _=>hS0,trivial⟩ ?r29
  case y29=>intro w _;go_simp;try (with_reducible rfl)
  case r29=>
  try simp only [pZa,pZb,pZc,pZd]
  refine headK_load 0 35 _ rfl (i:=4) (v:=?_) rfl (by kernel_rfl) (fun _ _ _ h=>h) (fun _ _ _ h=>passed_ready h.1) (Or.inl ⟨by rfl,?y30⟩) ⟨fun _=>hS0,trivial⟩ ?r30
  case y30=>intro w hSw;(try dsimp only at hSw);obtain⟨hc0,hc1,hc2,hc3,hc4,hc5,hc6,hc7,hc8,hc9⟩:=hSw;go_simp;try (with_reducible rfl)
  case r30=>
  try simp only [pZa,pZb,pZc,pZd]
  refine headK_one (i:=5) (by kernel_rfl) rfl (fun K hK=>?_)
  go_simp
  refine (E1.out _ BC.out).mono ?_
  rintro e x2 ⟨rfl,hb⟩
  replace BC:=hZ (chain BC.out hb)
  clear hb
  have hS0:=(show (fun (w':World)=>w'.cell? ⟨W.heap.size,0,none⟩=some (.slice A3 fp.length d3)∧w'.cell? ⟨W.heap.size+1,0,none⟩=some (.slice A4 fq.length d4)∧w'.cell? ⟨gP,0,none⟩=some (.slice A5 ps1.length d5)∧w'.cell? ⟨gP+1,0,none⟩=some (.int .i64 r1)∧w'.cell? ⟨gP+1,1,none⟩=some (.int .i64 r2)∧w'.cell? ⟨gP+1,2,none⟩=some (.slice B5 bl.length c5)∧w'.cell? ⟨gD,0,none⟩=some (.slice A6 ps2.length d6)∧w'.cell? ⟨gD,1,none⟩=some (.int .i64 r1)∧w'.cell? ⟨gD,2,none⟩=some (.int .i64 r2)∧w'.cell? ⟨gD,3,none⟩=some (.slice B6 bl.length c6)) x2 from ⟨(M0.out.keep BC.out).cell 0,(M1.out.keep BC.out).cell 0,(MP.out.keep BC.out).cell 0,(MR.out.keep BC.out).cell 0,(MR.out.keep BC.out).cell 1,(MR.out.keep BC.out).cell 2,(MD.out.keep BC.out).cell 0,(MD.out.keep BC.out).cell 1,(MD.out.keep BC.out).cell 2,(MD.out.keep BC.out).cell 3⟩)
  refine hK.out _ _ ⟨fun _=>hS0,trivial⟩ ?_
  clear hK K
  try simp only [pZa,pZb,pZc,pZd]
  refine headK_take (i:=6) (v:=?_) rfl (by kernel_rfl) (fun _ _ _ h=>h) (fun _ _ _ h=>passed_ready h.1) (Or.inl ⟨by rfl,?y31⟩) ⟨fun _=>hS0,trivial⟩ ?r31
  case y31=>intro w _;go_simp;try (with_reducible rfl)
  case r31=>
  try simp only [pZa,pZb,pZc,pZd]
  refine headK_take (i:=7) (v:=?_) rfl (by kernel_rfl) (fun _ _ _ h=>h) (fun _ _ _ h=>passed_ready h.1) (Or.inl ⟨by rfl,?y32⟩) ⟨fun _=>hS0,trivial⟩ ?r32
  case y32=>intro w _;go_simp;try (with_reducible rfl)
  case r32=>
  try simp only [pZa,pZb,pZc,pZd]
  refine headK_load 0 35 _ rfl (i:=8) (v:=?_) rfl (by kernel_rfl) (fun _ _ _ h=>h) (fun _ _ _ h=>passed_ready h.1) (Or.inl ⟨by rfl,?y33⟩) ⟨fun _=>hS0,trivial⟩ ?r33
  case y33=>intro w hSw;(try dsimp only at hSw);obtain⟨hc0,hc1,hc2,hc3,hc4,hc5,hc6,hc7,hc8,hc9⟩:=hSw;go_simp;try (with_reducible rfl)
  case r33=>
  try simp only [pZa,pZb,pZc,pZd]
  refine headK_take (i:=9) (v:=?_) rfl (by kernel_rfl) (fun _ _ _ h=>h) (fun _ _ _ h=>passed_ready h.1) (Or.inl ⟨by rfl,?y34⟩) ⟨fun _=>hS0,trivial⟩ ?r34
  case y34=>intro w _;go_simp;try (with_reducible rfl)
  case r34=>
  try simp only [pZa,pZb,pZc,pZd]
  refine headK_load 0 35 _ rfl (i:=10) (v:=?_) rfl (by kernel_rfl) (fun _ _ _ h=>h) (fun _ _ _ h=>passed_ready h.1) (Or.inl ⟨by rfl,?y35⟩) ⟨fun _=>hS0,trivial⟩ ?r35
  case y35=>intro w hSw;(try dsimp only at hSw);obtain⟨hc0,hc1,hc2,hc3,hc4,hc5,hc6,hc7,hc8,hc9⟩:=hSw;go_simp;try (with_reducible rfl)
  case r35=>
  try simp only [pZa,pZb,pZc,pZd]
  refine headK_one (i:=11) (by kernel_rfl) rfl (fun K hK=>?_)
  go_simp
  refine (E2.out _ BC.out).mono ?_
  rintro e x3 ⟨rfl,hb⟩
  replace BC:=hZ (chain BC.out hb)
  clear hb
  have hS0:=(show (fun (w':World)=>w'.cell? ⟨W.heap.size,0,none⟩=some (.slice A3 fp.length d3)∧w'.cell? ⟨W.heap.size+1,0,none⟩=some (.slice A4 fq.length d4)∧w'.cell? ⟨gP,0,none⟩=some (.slice A5 ps1.length d5)∧w'.cell? ⟨gP+1,0,none⟩=some (.int .i64 r1)∧w'.cell? ⟨gP+1,1,none⟩=some (.int .i64 r2)∧w'.cell? ⟨gP+1,2,none⟩=some (.slice B5 bl.length c5)∧w'.cell? ⟨gD,0,none⟩=some (.slice A6 ps2.length d6)∧w'.cell? ⟨gD,1,none⟩=some (.int .i64 r1)∧w'.cell? ⟨gD,2,none⟩=some (.int .i64 r2)∧w'.cell? ⟨gD,3,none⟩=some (.slice B6 bl.length c6)) x3 from ⟨(M0.out.keep BC.out).cell 0,(M1.out.keep BC.out).cell 0,(MP.out.keep BC.out).cell 0,(MR.out.keep BC.out).cell 0,(MR.out.keep BC.out).cell 1,(MR.out.keep BC.out).cell 2,(MD.out.keep BC.out).cell 0,(MD.out.keep BC.out).cell 1,(MD.out.keep BC.out).cell 2,(MD.out.keep BC.out).cell 3⟩)
  refine hK.out _ _ ⟨fun _=>hS0,trivial⟩ ?_
  clear hK K
  try simp only [pZa,pZb,pZc,pZd]
  refine headK_take (i:=12) (v:=?_) rfl (by kernel_rfl) (fun _ _ _ h=>h) (fun _ _ _ h=>passed_ready h.1) (Or.inl ⟨by rfl,?y36⟩) ⟨fun _=>hS0,trivial⟩ ?r36
  case y36=>intro w _;go_simp;try (with_reducible rfl)
  case r36=>
  try simp only [pZa,pZb,pZc,pZd]
  refine headK_take (i:=13) (v:=?_) rfl (by kernel_rfl) (fun _ _ _ h=>h) (fun _ _ _ h=>passed_ready h.1) (Or.inl ⟨by rfl,?y37⟩) ⟨fun _=>hS0,trivial⟩ ?r37
  case y37=>intro w _;go_simp;try (with_reducible rfl)
  case r37=>
  try simp only [pZa,pZb,pZc,pZd]
  refine headK_load 0 35 _ rfl (i:=14) (v:=?_) rfl (by kernel_rfl) (fun _ _ _ h=>h) (fun _ _ _ h=>passed_ready h.1) (Or.inl ⟨by rfl,?y38⟩) ⟨fun _=>hS0,trivial⟩ ?r38
  case y38=>intro w hSw;(try dsimp only at hSw);obtain⟨hc0,hc1,hc2,hc3,hc4,hc5,hc6,hc7,hc8,hc9⟩:=hSw;go_simp;try (with_reducible rfl)
  case r38=>
  try simp only [pZa,pZb,pZc,pZd]
  refine headK_load 0 35 _ rfl (i:=16) (v:=?_) rfl (by kernel_rfl) (fun _ _ _ h=>h) (fun _ _ _ h=>passed_ready h.1) (Or.inl ⟨by rfl,?y39⟩) ⟨fun _=>hS0,trivial⟩ ?r39
  case y39=>intro w hSw;(try dsimp only at hSw);obtain⟨hc0,hc1,hc2,hc3,hc4,hc5,hc6,hc7,hc8,hc9⟩:=hSw;go_simp;try (with_reducible rfl)
  case r39=>
  try simp only [pZa,pZb,pZc,pZd]
  refine headK_one (i:=15) (by kernel_rfl) rfl (fun K hK=>?_)
  go_simp
  refine (E3.out _ BC.out).mono ?_
  rintro e x4 ⟨rfl,hb⟩
  replace BC:=hZ (chain BC.out hb)
  clear hb
  have hS0:=(show (fun (w':World)=>w'.cell? ⟨W.heap.size,0,none⟩=some (.slice A3 fp.length d3)∧w'.cell? ⟨W.heap.size+1,0,none⟩=some (.slice A4 fq.length d4)∧w'.cell? ⟨gP,0,none⟩=some (.slice A5 ps1.length d5)∧w'.cell? ⟨gP+1,0,none⟩=some (.int .i64 r1)∧w'.cell? ⟨gP+1,1,none⟩=some (.int .i64 r2)∧w'.cell? ⟨gP+1,2,none⟩=some (.slice B5 bl.length c5)∧w'.cell? ⟨gD,0,none⟩=some (.slice A6 ps2.length d6)∧w'.cell? ⟨gD,1,none⟩=some (.int .i64 r1)∧w'.cell? ⟨gD,2,none⟩=some (.int .i64 r2)∧w'.cell? ⟨gD,3,none⟩=some (.slice B6 bl.length c6)) x4 from ⟨(M0.out.keep BC.out).cell 0,(M1.out.keep BC.out).cell 0,(MP.out.keep BC.out).cell 0,(MR.out.keep BC.out).cell 0,(MR.out.keep BC.out).cell 1,(MR.out.keep BC.out).cell 2,(MD.out.keep BC.out).cell 0,(MD.out.keep BC.out).cell 1,(MD.out.keep BC.out).cell 2,(MD.out.keep BC.out).cell 3⟩)
  refine hK.out _ _ ⟨fun _=>hS0,trivial⟩ ?_
  clear hK K
  try simp only [pZa,pZb,pZc,pZd]
  refine headK_one (i:=17) (by kernel_rfl) rfl (fun K hK=>?_)
  go_simp
  refine (E4.out _ BC.out).mono ?_
  rintro e x5 ⟨rfl,hb⟩
  replace BC:=hZ (chain BC.out hb)
  clear hb
  have hS0:=(show (fun (w':World)=>w'.cell? ⟨W.heap.size,0,none⟩=some (.slice A3 fp.length d3)∧w'.cell? ⟨W.heap.size+1,0,none⟩=some (.slice A4 fq.length d4)∧w'.cell? ⟨gP,0,none⟩=some (.slice A5 ps1.length d5)∧w'.cell? ⟨gP+1,0,none⟩=some (.int .i64 r1)∧w'.cell? ⟨gP+1,1,none⟩=some (.int .i64 r2)∧w'.cell? ⟨gP+1,2,none⟩=some (.slice B5 bl.length c5)∧w'.cell? ⟨gD,0,none⟩=some (.slice A6 ps2.length d6)∧w'.cell? ⟨gD,1,none⟩=some (.int .i64 r1)∧w'.cell? ⟨gD,2,none⟩=some (.int .i64 r2)∧w'.cell? ⟨gD,3,none⟩=some (.slice B6 bl.length c6)) x5 from ⟨(M0.out.keep BC.out).cell 0,(M1.out.keep BC.out).cell 0,(MP.out.keep BC.out).cell 0,(MR.out.keep BC.out).cell 0,(MR.out.keep BC.out).cell 1,(MR.out.keep BC.out).cell 2,(MD.out.keep BC.out).cell 0,(MD.out.keep BC.out).cell 1,(MD.out.keep BC.out).cell 2,(MD.out.keep BC.out).cell 3⟩)
  refine hK.out _ _ ⟨fun _=>hS0,trivial⟩ ?_
  clear hK K
  try simp only [pZa,pZb,pZc,pZd]
  refine headK_take (i:=18) (v:=?_) rfl (by kernel_rfl) (fun _ _ _ h=>h) (fun _ _ _ h=>passed_ready h.1) (Or.inl ⟨by rfl,?y40⟩) ⟨fun _=>hS0,trivial⟩ ?r40
  case y40=>intro w _;go_simp;try (with_reducible rfl)
  case r40=>
  try simp only [pZa,pZb,pZc,pZd]
  refine headK_take (i:=19) (v:=?_) rfl (by kernel_rfl) (fun _ _ _ h=>h) (fun _ _ _ h=>passed_ready h.1) (Or.inl ⟨by rfl,?y41⟩) ⟨fun _=>hS0,trivial⟩ ?r41
  case y41=>intro w _;go_simp;try (with_reducible rfl)
  case r41=>
  try simp only [pZa,pZb,pZc,pZd]
  refine headK_take (i:=20) (v:=?_) rfl (by kernel_rfl) (fun _ _ _ h=>h) (fun _ _ _ h=>passed_ready h.1) (Or.inl ⟨by rfl,?y42⟩) ⟨fun _=>hS0,trivial⟩ ?r42
  case y42=>intro w _;go_simp;try (with_reducible rfl)
  case r42=>
  try simp only [pZa,pZb,pZc,pZd]
  refine headK_load 0 35 _ rfl (i:=21) (v:=?_) rfl (by kernel_rfl) (fun _ _ _ h=>h) (fun _ _ _ h=>passed_ready h.1) (Or.inl ⟨by rfl,?y43⟩) ⟨fun _=>hS0,trivial⟩ ?r43
  case y43=>intro w hSw;(try dsimp only at hSw);obtain⟨hc0,hc1,hc2,hc3,hc4,hc5,hc6,hc7,hc8,hc9⟩:=hSw;go_simp;try (with_reducible rfl)
  case r43=>
  try simp only [pZa,pZb,pZc,pZd]
  refine headK_load 0 35 _ rfl (i:=22) (v:=?_) rfl (by kernel_rfl) (fun _ _ _ h=>h) (fun _ _ _ h=>passed_ready h.1) (Or.inl ⟨by rfl,?y44⟩) ⟨fun _=>hS0,trivial⟩ ?r44
  case y44=>intro w hSw;(try dsimp only at hSw);obtain⟨hc0,hc1,hc2,hc3,hc4,hc5,hc6,hc7,hc8,hc9⟩:=hSw;go_simp;try (with_reducible rfl)
  case r44=>
  try simp only [pZa,pZb,pZc,pZd]
  refine headK_load 0 35 _ rfl (i:=24) (v:=?_) rfl (by kernel_rfl) (fun _ _ _ h=>h) (fun _ _ _ h=>passed_ready h.1) (Or.inl ⟨by rfl,?y45⟩) ⟨fun _=>hS0,trivial⟩ ?r45
  case y45=>intro w hSw;(try dsimp only at hSw);obtain⟨hc0,hc1,hc2,hc3,hc4,hc5,hc6,hc7,hc8,hc9⟩:=hSw;go_simp;try (with_reducible rfl)
  case r45=>
  try simp only [pZa,pZb,pZc,pZd]
  refine headK_load 0 35 _ rfl (i:=25) (v:=?_) rfl (by kernel_rfl) (fun _ _ _ h=>h) (fun _ _ _ h=>passed_ready h.1) (Or.inl ⟨by rfl,?y46⟩) ⟨fun _=>hS0,trivial⟩ ?r46
  case y46=>intro w hSw;(try dsimp only at hSw);obtain⟨hc0,hc1,hc2,hc3,hc4,hc5,hc6,hc7,hc8,hc9⟩:=hSw;go_simp;try (with_reducible rfl)
  case r46=>
  try simp only [pZa,pZb,pZc,pZd]
  refine headK_one (i:=23) (by kernel_rfl) rfl (fun K hK=>?_)
  go_simp
  refine (E5.out _ BC.out).mono ?_
  rintro e x6 ⟨rfl,hb⟩
  replace BC:=hZ (chain BC.out hb)
  clear hb
  have hS0:=(show (fun (w':World)=>w'.cell? ⟨W.heap.size,0,none⟩=some (.slice A3 fp.length d3)∧w'.cell? ⟨W.heap.size+1,0,none⟩=some (.slice A4 fq.length d4)∧w'.cell? ⟨gP,0,none⟩=some (.slice A5 ps1.length d5)∧w'.cell? ⟨gP+1,0,none⟩=some (.int .i64 r1)∧w'.cell? ⟨gP+1,1,none⟩=some (.int .i64 r2)∧w'.cell? ⟨gP+1,2,none⟩=some (.slice B5 bl.length c5)∧w'.cell? ⟨gD,0,none⟩=some (.slice A6 ps2.length d6)∧w'.cell? ⟨gD,1,none⟩=some (.int .i64 r1)∧w'.cell? ⟨gD,2,none⟩=some (.int .i64 r2)∧w'.cell? ⟨gD,3,none⟩=some (.slice B6 bl.length c6)) x6 from ⟨(M0.out.keep BC.out).cell 0,(M1.out.keep BC.out).cell 0,(MP.out.keep BC.out).cell 0,(MR.out.keep BC.out).cell 0,(MR.out.keep BC.out).cell 1,(MR.out.keep BC.out).cell 2,(MD.out.keep BC.out).cell 0,(MD.out.keep BC.out).cell 1,(MD.out.keep BC.out).cell 2,(MD.out.keep BC.out).cell 3⟩)
  refine hK.out _ _ ⟨fun _=>hS0,trivial⟩ ?_
  clear hK K
  try simp only [pZa,pZb,pZc,pZd]
  refine headK_one (i:=26) (by kernel_rfl) rfl (fun K hK=>?_)
  go_simp
  refine (E6.out _ BC.out).mono ?_
  rintro e x7 ⟨rfl,hb⟩
  replace BC:=hZ (chain BC.out hb)
  clear hb
  have hS0:=(show (fun (w':World)=>w'.cell? ⟨W.heap.size,0,none⟩=some (.slice A3 fp.length d3)∧w'.cell? ⟨W.heap.size+1,0,none⟩=some (.slice A4 fq.length d4)∧w'.cell? ⟨gP,0,none⟩=some (.slice A5 ps1.length d5)∧w'.cell? ⟨gP+1,0,none⟩=some (.int .i64 r1)∧w'.cell? ⟨gP+1,1,none⟩=some (.int .i64 r2)∧w'.cell? ⟨gP+1,2,none⟩=some (.slice B5 bl.length c5)∧w'.cell? ⟨gD,0,none⟩=some (.slice A6 ps2.length d6)∧w'.cell? ⟨gD,1,none⟩=some (.int .i64 r1)∧w'.cell? ⟨gD,2,none⟩=some (.int .i64 r2)∧w'.cell? ⟨gD,3,none⟩=some (.slice B6 bl.length c6)) x7 from ⟨(M0.out.keep BC.out).cell 0,(M1.out.keep BC.out).cell 0,(MP.out.keep BC.out).cell 0,(MR.out.keep BC.out).cell 0,(MR.out.keep BC.out).cell 1,(MR.out.keep BC.out).cell 2,(MD.out.keep BC.out).cell 0,(MD.out.keep BC.out).cell 1,(MD.out.keep BC.out).cell 2,(MD.out.keep BC.out).cell 3⟩)
  refine hK.out _ _ ⟨fun _=>hS0,trivial⟩ ?_
  clear hK K
  try simp only [pZa,pZb,pZc,pZd]
  refine headK_take (i:=27) (v:=?_) rfl (by kernel_rfl) (fun _ _ _ h=>h) (fun _ _ _ h=>passed_ready h.1) (Or.inl ⟨by rfl,?y47⟩) ⟨fun _=>hS0,trivial⟩ ?r47
  case y47=>intro w _;go_simp;try (with_reducible rfl)
  case r47=>
  try simp only [pZa,pZb,pZc,pZd]
  refine headK_take (i:=28) (v:=?_) rfl (by kernel_rfl) (fun _ _ _ h=>h) (fun _ _ _ h=>passed_ready h.1) (Or.inl ⟨by rfl,?y48⟩) ⟨fun _=>hS0,trivial⟩ ?r48
  case y48=>intro w _;go_simp;try (with_reducible rfl)
  case r48=>
  try simp only [pZa,pZb,pZc,pZd]
  refine headK_take (i:=29) (v:=?_) rfl (by kernel_rfl) (fun _ _ _ h=>h) (fun _ _ _ h=>passed_ready h.1) (Or.inl ⟨by rfl,?y49⟩) ⟨fun _=>hS0,trivial⟩ ?r49
  case y49=>intro w _;go_simp;try (with_reducible rfl)
  case r49=>
  try simp only [pZa,pZb,pZc,pZd]
  refine headK_load 0 35 _ rfl (i:=30) (v:=?_) rfl (by kernel_rfl) (fun _ _ _ h=>h) (fun _ _ _ h=>passed_ready h.1) (Or.inl ⟨by rfl,?y50⟩) ⟨fun _=>hS0,trivial⟩ ?r50
  case y50=>intro w hSw;(try dsimp only at hSw);obtain⟨hc0,hc1,hc2,hc3,hc4,hc5,hc6,hc7,hc8,hc9⟩:=hSw;go_simp;try (with_reducible rfl)
  case r50=>
  try simp only [pZa,pZb,pZc,pZd]
  refine headK_load 0 35 _ rfl (i:=31) (v:=?_) rfl (by kernel_rfl) (fun _ _ _ h=>h) (fun _ _ _ h=>passed_ready h.1) (Or.inl ⟨by rfl,?y51⟩) ⟨fun _=>hS0,trivial⟩ ?r51
  case y51=>intro w hSw;(try dsimp only at hSw);obtain⟨hc0,hc1,hc2,hc3,hc4,hc5,hc6,hc7,hc8,hc9⟩:=hSw;go_simp;try (with_reducible rfl)
  case r51=>
  try simp only [pZa,pZb,pZc,pZd]
  refine headK_one (i:=32) (by kernel_rfl) rfl (fun K hK=>?_)
  go_simp
  refine (E7.out _ BC.out).mono ?_
  rintro e x8 ⟨rfl,hb⟩
  replace BC:=hZ (chain BC.out hb)
  clear hb
  have hS0:=(show (fun (w':World)=>w'.cell? ⟨W.heap.size,0,none⟩=some (.slice A3 fp.length d3)∧w'.cell? ⟨W.heap.size+1,0,none⟩=some (.slice A4 fq.length d4)∧w'.cell? ⟨gP,0,none⟩=some (.slice A5 ps1.length d5)∧w'.cell? ⟨gP+1,0,none⟩=some (.int .i64 r1)∧w'.cell? ⟨gP+1,1,none⟩=some (.int .i64 r2)∧w'.cell? ⟨gP+1,2,none⟩=some (.slice B5 bl.length c5)∧w'.cell? ⟨gD,0,none⟩=some (.slice A6 ps2.length d6)∧w'.cell? ⟨gD,1,none⟩=some (.int .i64 r1)∧w'.cell? ⟨gD,2,none⟩=some (.int .i64 r2)∧w'.cell? ⟨gD,3,none⟩=some (.slice B6 bl.length c6)) x8 from ⟨(M0.out.keep BC.out).cell 0,(M1.out.keep BC.out).cell 0,(MP.out.keep BC.out).cell 0,(MR.out.keep BC.out).cell 0,(MR.out.keep BC.out).cell 1,(MR.out.keep BC.out).cell 2,(MD.out.keep BC.out).cell 0,(MD.out.keep BC.out).cell 1,(MD.out.keep BC.out).cell 2,(MD.out.keep BC.out).cell 3⟩)
  refine hK.out _ _ ⟨fun _=>hS0,trivial⟩ ?_
  clear hK K
  try simp only [pZa,pZb,pZc,pZd]
  refine headK_take (i:=33) (v:=?_) rfl (by kernel_rfl) (fun _ _ _ h=>h) (fun _ _ _ h=>passed_ready h.1) (Or.inl ⟨by rfl,?y52⟩) ⟨fun _=>hS0,trivial⟩ ?r52
  case y52=>intro w _;go_simp;try (with_reducible rfl)
  case r52=>
  try simp only [pZa,pZb,pZc,pZd]
  refine headK_take (i:=34) (v:=?_) rfl (by kernel_rfl) (fun _ _ _ h=>h) (fun _ _ _ h=>passed_ready h.1) (Or.inl ⟨by rfl,?y53⟩) ⟨fun _=>hS0,trivial⟩ ?r53
  case y53=>intro w _;go_simp;try (with_reducible rfl)
  case r53=>
  try simp only [pZa,pZb,pZc,pZd]
  refine⟨by kernel_rfl,?_⟩
  refine wpAny_done (by kernel_rfl) ?_ _
  go_wp2_with fail
  go_ret
  exact⟨rfl,HG.out.trans (BC.out.mono HG.out.size)⟩
end
end Go.Proofs.YtcikoaeiopbbbaaGreat
