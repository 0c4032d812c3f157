/- Parts: RvT, RvU, RvX, RvZ, ObL, ObM, ObN, ObO, RvV, RvW, RvD, RvY, RwA. -/
import Derived.Test.YtcikoaeiopbbbaaGreatYi
import Derived.RegionTactic
import Derived.Shelf.Abstract
namespace Go.Proofs.YtcikoaeiopbbbaaGreat
set_option linter.unusedVariables false
set_option linter.unusedSimpArgs false
set_option linter.unusedSectionVars false
section
/- Layer 19: receiver.Do. -/
open Go.RowKit Go.Lib
set_option maxRecDepth 100000
set_option maxHeartbeats 4000000 in
theorem rdo19_bad (A:Option Addr) (cp:Nat) (ps:List RawO) (c:CallR) (w:World) (hs:SliceOk A ps.length cp) (hx:Raws w A ps.length ps) (hd:OkDs w ps) (hr:rightR ps=false):Calls Tryz.prog 15 #[.agg #[.slice A ps.length cp],callV c] w (RcO (obsR ps) (1,0,[]) w):=by
 obtain⟨q4,q5,q8,q9,b5⟩:=R4_gen #[.slice A ps.length cp] (callL c).toArray w
 have Q4:=hZ q4
 have Q5:=hZ q5
 have Q8:=hZ q8
 have Q9:=hZ q9
 have HB:=hZ b5
 have HX:=hZ (Recs.below hx b5)
 have HD:=hZ (OkDs.below hd b5)
 have r0:=Q4.out.cell 0
 obtain⟨v0,v1,v2,v3,v4,v5,v6⟩:=Q5.out.sevenO
 have HR:=hZ (fun wy (hb:Below w.heap.size w wy)=>rcright_any (.agg #[.slice A ps.length cp]) ps wy ⟨A,cp,rfl,hs,Recs.below hx hb,OkDs.below hd hb⟩)
 rw [hr] at HR
 clear q4 q5 q8 q9 b5 hx hd
 go_enter Tryz.func15,Tryz.ntmps15
 go_wp2_with fail
 refine (HR.out _ HB.out).mono ?_
 rintro e w1 ⟨rfl,hb⟩
 replace Q4:=hZ (Q4.out.keep hb)
 replace Q5:=hZ (Q5.out.keep hb)
 replace Q8:=hZ (Q8.out.keep hb)
 replace Q9:=hZ (Q9.out.keep hb)
 replace HX:=hZ (Recs.below HX.out hb)
 replace HD:=hZ (OkDs.below HD.out hb)
 replace HB:=hZ (chain HB.out hb)
 clear hb r0 v0 v1 v2 v3 v4 v5 v6 HR
 have r0:=Q4.out.cell 0
 obtain⟨v0,v1,v2,v3,v4,v5,v6⟩:=Q5.out.sevenO
 go_wp2_with fail
 refine (rrefused_any A cp ps 1 _ hs HX.out HD.out).mono ?_
 rintro e y ⟨A2,d2,B2,c2,rfl,hs2,hx2,hd2,ht2,hc2,hm2,hb⟩
 have HX2:=hZ hx2
 have HD2:=hZ hd2
 have HT2:=hZ ht2
 have P8:=hZ (Q8.out.keep hb)
 have P9:=hZ (Q9.out.keep hb)
 have HB2:=hZ (chain HB.out hb)
 clear hb hx2 hd2 ht2 Q4 Q5 Q8 Q9 HX HD HB r0 v0 v1 v2 v3 v4 v5 v6
 have f8:=P8.out.free 0
 have s8:=P8.out.cell 0
 have f90:=P9.out.free 0
 have f91:=P9.out.free 1
 have f92:=P9.out.free 2
 obtain⟨t0,t1,t2⟩:=P9.out.threeO
 go_wp2_with fail
 obtain⟨_,rfl,z1,z2,z3,z4,z5,z6⟩:=rc_store (B:=w.heap.size) (r:=((1,0,[]):ReplyR)) (d:=d2) (e:=c2) HB2.out P8.out P9.out (by omega) (by omega) (by omega) HX2.out HD2.out HT2.out
 refine close_two Tryz.results15 rfl rfl rfl z1 z2 Tryz.underlying48 Tryz.underlying36 rfl rfl (by kernel_rfl) (by kernel_rfl) ?_
 exact⟨ps,rfl,A2,d2,B2,c2,rfl,hs2,z3,z4,z5,hc2,hm2,z6⟩
set_option maxHeartbeats 4000000 in
theorem rdo19_low (A:Option Addr) (cp:Nat) (ps:List RawO) (c:CallR) (w:World) (hs:SliceOk A ps.length cp) (hx:Raws w A ps.length ps) (hd:OkDs w ps) (hr:rightR ps=true) (h0:c.1<0):Calls Tryz.prog 15 #[.agg #[.slice A ps.length cp],callV c] w (RcO (obsR ps) (1,0,[]) w):=by
 obtain⟨q4,q5,q8,q9,b5⟩:=R4_gen #[.slice A ps.length cp] (callL c).toArray w
 have Q4:=hZ q4
 have Q5:=hZ q5
 have Q8:=hZ q8
 have Q9:=hZ q9
 have HB:=hZ b5
 have HX:=hZ (Recs.below hx b5)
 have HD:=hZ (OkDs.below hd b5)
 have r0:=Q4.out.cell 0
 obtain⟨v0,v1,v2,v3,v4,v5,v6⟩:=Q5.out.sevenO
 have HR:=hZ (fun wy (hb:Below w.heap.size w wy)=>rcright_any (.agg #[.slice A ps.length cp]) ps wy ⟨A,cp,rfl,hs,Recs.below hx hb,OkDs.below hd hb⟩)
 rw [hr] at HR
 have t1:decide (c.1<0)=true:=decide_eq_true h0
 clear q4 q5 q8 q9 b5 hx hd
 go_enter Tryz.func15,Tryz.ntmps15
 go_wp2_with fail
 refine (HR.out _ HB.out).mono ?_
 rintro e w1 ⟨rfl,hb⟩
 replace Q4:=hZ (Q4.out.keep hb)
 replace Q5:=hZ (Q5.out.keep hb)
 replace Q8:=hZ (Q8.out.keep hb)
 replace Q9:=hZ (Q9.out.keep hb)
 replace HX:=hZ (Recs.below HX.out hb)
 replace HD:=hZ (OkDs.below HD.out hb)
 replace HB:=hZ (chain HB.out hb)
 clear hb r0 v0 v1 v2 v3 v4 v5 v6 HR
 have r0:=Q4.out.cell 0
 obtain⟨v0,v1,v2,v3,v4,v5,v6⟩:=Q5.out.sevenO
 go_wp2_with fail
 refine (rrefused_any A cp ps 1 _ hs HX.out HD.out).mono ?_
 rintro e y ⟨A2,d2,B2,c2,rfl,hs2,hx2,hd2,ht2,hc2,hm2,hb⟩
 have HX2:=hZ hx2
 have HD2:=hZ hd2
 have HT2:=hZ ht2
 have P8:=hZ (Q8.out.keep hb)
 have P9:=hZ (Q9.out.keep hb)
 have HB2:=hZ (chain HB.out hb)
 clear hb hx2 hd2 ht2 Q4 Q5 Q8 Q9 HX HD HB r0 v0 v1 v2 v3 v4 v5 v6
 have f8:=P8.out.free 0
 have s8:=P8.out.cell 0
 have f90:=P9.out.free 0
 have f91:=P9.out.free 1
 have f92:=P9.out.free 2
 obtain⟨t0,t1,t2⟩:=P9.out.threeO
 go_wp2_with fail
 obtain⟨_,rfl,z1,z2,z3,z4,z5,z6⟩:=rc_store (B:=w.heap.size) (r:=((1,0,[]):ReplyR)) (d:=d2) (e:=c2) HB2.out P8.out P9.out (by omega) (by omega) (by omega) HX2.out HD2.out HT2.out
 refine close_two Tryz.results15 rfl rfl rfl z1 z2 Tryz.underlying48 Tryz.underlying36 rfl rfl (by kernel_rfl) (by kernel_rfl) ?_
 exact⟨ps,rfl,A2,d2,B2,c2,rfl,hs2,z3,z4,z5,hc2,hm2,z6⟩
set_option maxHeartbeats 4000000 in
theorem rdo19_high (A:Option Addr) (cp:Nat) (ps:List RawO) (c:CallR) (w:World) (hs:SliceOk A ps.length cp) (hx:Raws w A ps.length ps) (hd:OkDs w ps) (hr:rightR ps=true) (h0:5≤c.1):Calls Tryz.prog 15 #[.agg #[.slice A ps.length cp],callV c] w (RcO (obsR ps) (1,0,[]) w):=by
 obtain⟨q4,q5,q8,q9,b5⟩:=R4_gen #[.slice A ps.length cp] (callL c).toArray w
 have Q4:=hZ q4
 have Q5:=hZ q5
 have Q8:=hZ q8
 have Q9:=hZ q9
 have HB:=hZ b5
 have HX:=hZ (Recs.below hx b5)
 have HD:=hZ (OkDs.below hd b5)
 have r0:=Q4.out.cell 0
 obtain⟨v0,v1,v2,v3,v4,v5,v6⟩:=Q5.out.sevenO
 have HR:=hZ (fun wy (hb:Below w.heap.size w wy)=>rcright_any (.agg #[.slice A ps.length cp]) ps wy ⟨A,cp,rfl,hs,Recs.below hx hb,OkDs.below hd hb⟩)
 rw [hr] at HR
 have t1:¬ c.1<0:=by omega
 have t2:c.1≥5:=h0
 clear q4 q5 q8 q9 b5 hx hd
 go_enter Tryz.func15,Tryz.ntmps15
 go_wp2_with fail
 refine (HR.out _ HB.out).mono ?_
 rintro e w1 ⟨rfl,hb⟩
 replace Q4:=hZ (Q4.out.keep hb)
 replace Q5:=hZ (Q5.out.keep hb)
 replace Q8:=hZ (Q8.out.keep hb)
 replace Q9:=hZ (Q9.out.keep hb)
 replace HX:=hZ (Recs.below HX.out hb)
 replace HD:=hZ (OkDs.below HD.out hb)
 replace HB:=hZ (chain HB.out hb)
 clear hb r0 v0 v1 v2 v3 v4 v5 v6 HR
 have r0:=Q4.out.cell 0
 obtain⟨v0,v1,v2,v3,v4,v5,v6⟩:=Q5.out.sevenO
 go_wp2_with fail
 refine (rrefused_any A cp ps 1 _ hs HX.out HD.out).mono ?_
 rintro e y ⟨A2,d2,B2,c2,rfl,hs2,hx2,hd2,ht2,hc2,hm2,hb⟩
 have HX2:=hZ hx2
 have HD2:=hZ hd2
 have HT2:=hZ ht2
 have P8:=hZ (Q8.out.keep hb)
 have P9:=hZ (Q9.out.keep hb)
 have HB2:=hZ (chain HB.out hb)
 clear hb hx2 hd2 ht2 Q4 Q5 Q8 Q9 HX HD HB r0 v0 v1 v2 v3 v4 v5 v6
 have f8:=P8.out.free 0
 have s8:=P8.out.cell 0
 have f90:=P9.out.free 0
 have f91:=P9.out.free 1
 have f92:=P9.out.free 2
 obtain⟨t0,t1,t2⟩:=P9.out.threeO
 go_wp2_with fail
 obtain⟨_,rfl,z1,z2,z3,z4,z5,z6⟩:=rc_store (B:=w.heap.size) (r:=((1,0,[]):ReplyR)) (d:=d2) (e:=c2) HB2.out P8.out P9.out (by omega) (by omega) (by omega) HX2.out HD2.out HT2.out
 refine close_two Tryz.results15 rfl rfl rfl z1 z2 Tryz.underlying48 Tryz.underlying36 rfl rfl (by kernel_rfl) (by kernel_rfl) ?_
 exact⟨ps,rfl,A2,d2,B2,c2,rfl,hs2,z3,z4,z5,hc2,hm2,z6⟩
set_option maxHeartbeats 4000000 in
theorem rdo19_open (A:Option Addr) (cp:Nat) (ps:List RawO) (c:CallR) (w:World) (hs:SliceOk A ps.length cp) (hx:Raws w A ps.length ps) (hd:OkDs w ps) (hr:rightR ps=true) (h0:c.1=0):Calls Tryz.prog 15 #[.agg #[.slice A ps.length cp],callV c] w (RcO (doR ps c).1 (doR ps c).2 w):=by
 obtain⟨q4,q5,q8,q9,b5⟩:=R4_gen #[.slice A ps.length cp] (callL c).toArray w
 have Q4:=hZ q4
 have Q5:=hZ q5
 have Q8:=hZ q8
 have Q9:=hZ q9
 have HB:=hZ b5
 have HX:=hZ (Recs.below hx b5)
 have HD:=hZ (OkDs.below hd b5)
 have r0:=Q4.out.cell 0
 obtain⟨v0,v1,v2,v3,v4,v5,v6⟩:=Q5.out.sevenO
 have HR:=hZ (fun wy (hb:Below w.heap.size w wy)=>rcright_any (.agg #[.slice A ps.length cp]) ps wy ⟨A,cp,rfl,hs,Recs.below hx hb,OkDs.below hd hb⟩)
 have hrx:=(rightR_iff ps).1 hr
 have hl8:ps.length≤8:=by have:=hrx.1;rwa [obsR_len] at this
 have hri:=rise_of_right hr
 have HPl:=hZ (fun wy (hb:Below w.heap.size w wy)=>rplace_any (.agg #[.slice A ps.length cp]) ps c.2.1 wy ⟨A,cp,rfl,hs,Recs.below hx hb,OkDs.below hd hb⟩ hl8 hri)
 have HRr:=hZ hri
 rw [hr] at HR
 have t1:¬ c.1<0:=by omega
 have t2:¬ c.1≥5:=by omega
 clear hrx hri
 have t3:(c.1==0)=true:=by simpa using h0
 have H0:=hZ h0
 have HRt:=hZ hr
 obtain⟨rr,hrr⟩:∃ y,y=doR ps c:=⟨_,rfl⟩
 rw [← hrr]
 have HRR:=hZ hrr
 clear h0 hr hrr
 obtain⟨os,r1,r2,bl⟩:=rr
 clear q4 q5 q8 q9 b5 hx hd
 go_enter Tryz.func15,Tryz.ntmps15
 go_wp2_with fail
 refine (HR.out _ HB.out).mono ?_
 rintro e w1 ⟨rfl,hb⟩
 replace Q4:=hZ (Q4.out.keep hb)
 replace Q5:=hZ (Q5.out.keep hb)
 replace Q8:=hZ (Q8.out.keep hb)
 replace Q9:=hZ (Q9.out.keep hb)
 replace HX:=hZ (Recs.below HX.out hb)
 replace HD:=hZ (OkDs.below HD.out hb)
 replace HB:=hZ (chain HB.out hb)
 clear hb r0 v0 v1 v2 v3 v4 v5 v6 HR
 have r0:=Q4.out.cell 0
 obtain⟨v0,v1,v2,v3,v4,v5,v6⟩:=Q5.out.sevenO
 go_wp2_with fail
 refine (HPl.out _ HB.out).mono ?_
 rintro e w2 ⟨i,rfl,hpl,hb⟩
 have HPc:=hZ hpl
 replace Q4:=hZ (Q4.out.keep hb)
 replace Q5:=hZ (Q5.out.keep hb)
 replace Q8:=hZ (Q8.out.keep hb)
 replace Q9:=hZ (Q9.out.keep hb)
 replace HX:=hZ (Recs.below HX.out hb)
 replace HD:=hZ (OkDs.below HD.out hb)
 replace HB:=hZ (chain HB.out hb)
 clear hb hpl r0 v0 v1 v2 v3 v4 v5 v6 HPl
 have r0:=Q4.out.cell 0
 obtain⟨v0,v1,v2,v3,v4,v5,v6⟩:=Q5.out.sevenO
 have HOp:=hZ (ropened_any A cp ps c i w2 hs HX.out HD.out HRt.out HPc.out H0.out)
 rw [← HRR.out] at HOp
 generalize isR ps c.2.1=fb at *
 go_wp2_with fail
 refine HOp.out.mono ?_
 rintro e y ⟨qs,hqs,A2,d2,B2,c2,rfl,hs2,hx2,hd2,ht2,hc2,hm2,hb⟩
 have HX2:=hZ hx2
 have HD2:=hZ hd2
 have HT2:=hZ ht2
 have P8:=hZ (Q8.out.keep hb)
 have P9:=hZ (Q9.out.keep hb)
 have HB2:=hZ (chain HB.out hb)
 clear hb hx2 hd2 ht2 Q4 Q5 Q8 Q9 HX HD HB r0 v0 v1 v2 v3 v4 v5 v6 HOp
 have f8:=P8.out.free 0
 have s8:=P8.out.cell 0
 have f90:=P9.out.free 0
 have f91:=P9.out.free 1
 have f92:=P9.out.free 2
 obtain⟨t0,t1,t2⟩:=P9.out.threeO
 go_wp2_with fail
 obtain⟨_,rfl,z1,z2,z3,z4,z5,z6⟩:=rc_store (B:=w.heap.size) (r:=((r1,r2,bl):ReplyR)) (d:=d2) (e:=c2) HB2.out P8.out P9.out (by omega) (by omega) (by omega) HX2.out HD2.out HT2.out
 refine close_two Tryz.results15 rfl rfl rfl z1 z2 Tryz.underlying48 Tryz.underlying36 rfl rfl (by kernel_rfl) (by kernel_rfl) ?_
 exact⟨qs,hqs,A2,d2,B2,c2,rfl,hs2,z3,z4,z5,hc2,hm2,z6⟩
set_option maxHeartbeats 4000000 in
theorem rdo19_none (A:Option Addr) (cp:Nat) (ps:List RawO) (c:CallR) (w:World) (hs:SliceOk A ps.length cp) (hx:Raws w A ps.length ps) (hd:OkDs w ps) (hr:rightR ps=true) (h0:0<c.1) (h4:c.1≤4) (hn:isR ps c.2.1=false):Calls Tryz.prog 15 #[.agg #[.slice A ps.length cp],callV c] w (RcO (obsR ps) (6,0,[]) w):=by
 obtain⟨q4,q5,q8,q9,b5⟩:=R4_gen #[.slice A ps.length cp] (callL c).toArray w
 have Q4:=hZ q4
 have Q5:=hZ q5
 have Q8:=hZ q8
 have Q9:=hZ q9
 have HB:=hZ b5
 have HX:=hZ (Recs.below hx b5)
 have HD:=hZ (OkDs.below hd b5)
 have r0:=Q4.out.cell 0
 obtain⟨v0,v1,v2,v3,v4,v5,v6⟩:=Q5.out.sevenO
 have HR:=hZ (fun wy (hb:Below w.heap.size w wy)=>rcright_any (.agg #[.slice A ps.length cp]) ps wy ⟨A,cp,rfl,hs,Recs.below hx hb,OkDs.below hd hb⟩)
 have hrx:=(rightR_iff ps).1 hr
 have hl8:ps.length≤8:=by have:=hrx.1;rwa [obsR_len] at this
 have hri:=rise_of_right hr
 have HPl:=hZ (fun wy (hb:Below w.heap.size w wy)=>rplace_any (.agg #[.slice A ps.length cp]) ps c.2.1 wy ⟨A,cp,rfl,hs,Recs.below hx hb,OkDs.below hd hb⟩ hl8 hri)
 have HRr:=hZ hri
 rw [hr] at HR
 have t1:¬ c.1<0:=by omega
 have t2:¬ c.1≥5:=by omega
 clear hrx hri
 have t3:(c.1==0)=false:=by rw [beq_eq_false_iff_ne];omega
 unfold FindR at HPl
 rw [hn] at HPl
 clear hn h0 h4
 clear q4 q5 q8 q9 b5 hx hd
 go_enter Tryz.func15,Tryz.ntmps15
 go_wp2_with fail
 refine (HR.out _ HB.out).mono ?_
 rintro e w1 ⟨rfl,hb⟩
 replace Q4:=hZ (Q4.out.keep hb)
 replace Q5:=hZ (Q5.out.keep hb)
 replace Q8:=hZ (Q8.out.keep hb)
 replace Q9:=hZ (Q9.out.keep hb)
 replace HX:=hZ (Recs.below HX.out hb)
 replace HD:=hZ (OkDs.below HD.out hb)
 replace HB:=hZ (chain HB.out hb)
 clear hb r0 v0 v1 v2 v3 v4 v5 v6 HR
 have r0:=Q4.out.cell 0
 obtain⟨v0,v1,v2,v3,v4,v5,v6⟩:=Q5.out.sevenO
 go_wp2_with fail
 refine (HPl.out _ HB.out).mono ?_
 rintro e w2 ⟨i,rfl,hpl,hb⟩
 have HPc:=hZ hpl
 replace Q4:=hZ (Q4.out.keep hb)
 replace Q5:=hZ (Q5.out.keep hb)
 replace Q8:=hZ (Q8.out.keep hb)
 replace Q9:=hZ (Q9.out.keep hb)
 replace HX:=hZ (Recs.below HX.out hb)
 replace HD:=hZ (OkDs.below HD.out hb)
 replace HB:=hZ (chain HB.out hb)
 clear hb hpl r0 v0 v1 v2 v3 v4 v5 v6 HPl
 have r0:=Q4.out.cell 0
 obtain⟨v0,v1,v2,v3,v4,v5,v6⟩:=Q5.out.sevenO
 go_wp2_with fail
 refine (rrefused_any A cp ps 6 _ hs HX.out HD.out).mono ?_
 rintro e y ⟨A2,d2,B2,c2,rfl,hs2,hx2,hd2,ht2,hc2,hm2,hb⟩
 have HX2:=hZ hx2
 have HD2:=hZ hd2
 have HT2:=hZ ht2
 have P8:=hZ (Q8.out.keep hb)
 have P9:=hZ (Q9.out.keep hb)
 have HB2:=hZ (chain HB.out hb)
 clear hb hx2 hd2 ht2 Q4 Q5 Q8 Q9 HX HD HB r0 v0 v1 v2 v3 v4 v5 v6
 have f8:=P8.out.free 0
 have s8:=P8.out.cell 0
 have f90:=P9.out.free 0
 have f91:=P9.out.free 1
 have f92:=P9.out.free 2
 obtain⟨t0,t1,t2⟩:=P9.out.threeO
 go_wp2_with fail
 obtain⟨_,rfl,z1,z2,z3,z4,z5,z6⟩:=rc_store (B:=w.heap.size) (r:=((6,0,[]):ReplyR)) (d:=d2) (e:=c2) HB2.out P8.out P9.out (by omega) (by omega) (by omega) HX2.out HD2.out HT2.out
 refine close_two Tryz.results15 rfl rfl rfl z1 z2 Tryz.underlying48 Tryz.underlying36 rfl rfl (by kernel_rfl) (by kernel_rfl) ?_
 exact⟨ps,rfl,A2,d2,B2,c2,rfl,hs2,z3,z4,z5,hc2,hm2,z6⟩
set_option maxHeartbeats 4000000 in
theorem rdo19_there (A:Option Addr) (cp:Nat) (ps:List RawO) (c:CallR) (w:World) (hs:SliceOk A ps.length cp) (hx:Raws w A ps.length ps) (hd:OkDs w ps) (hids:IdsO ps) (hci:c.2.2.2.2.2.1<18446744073709551616) (hr:rightR ps=true) (h0:0<c.1) (h4:c.1≤4) (hn:isR ps c.2.1=true):Calls Tryz.prog 15 #[.agg #[.slice A ps.length cp],callV c] w (RcO (calledR (obsR ps) (ps.getD (posR ps c.2.1) default).1 c).1 (calledR (obsR ps) (ps.getD (posR ps c.2.1) default).1 c).2 w):=by
 have hpi:=posR_id hn
 obtain⟨q4,q5,q8,q9,b5⟩:=R4_gen #[.slice A ps.length cp] (callL c).toArray w
 have Q4:=hZ q4
 have Q5:=hZ q5
 have Q8:=hZ q8
 have Q9:=hZ q9
 have HB:=hZ b5
 have HX:=hZ (Recs.below hx b5)
 have HD:=hZ (OkDs.below hd b5)
 have r0:=Q4.out.cell 0
 obtain⟨v0,v1,v2,v3,v4,v5,v6⟩:=Q5.out.sevenO
 have HR:=hZ (fun wy (hb:Below w.heap.size w wy)=>rcright_any (.agg #[.slice A ps.length cp]) ps wy ⟨A,cp,rfl,hs,Recs.below hx hb,OkDs.below hd hb⟩)
 have hrx:=(rightR_iff ps).1 hr
 have hl8:ps.length≤8:=by have:=hrx.1;rwa [obsR_len] at this
 have hri:=rise_of_right hr
 have HPl:=hZ (fun wy (hb:Below w.heap.size w wy)=>rplace_any (.agg #[.slice A ps.length cp]) ps c.2.1 wy ⟨A,cp,rfl,hs,Recs.below hx hb,OkDs.below hd hb⟩ hl8 hri)
 have HRr:=hZ hri
 rw [hr] at HR
 have t1:¬ c.1<0:=by omega
 have t2:¬ c.1≥5:=by omega
 clear hrx hri
 have t3:(c.1==0)=false:=by rw [beq_eq_false_iff_ne];omega
 have HPs:=hZ (fun i (h:PlaceR ps c.2.1 i)=>place_pos h HRr.out hn)
 unfold FindR at HPl
 rw [hn] at HPl
 have HCa:=hZ (fun wy (hb:Below w.heap.size w wy)=>rcalled_any A cp ps c (posR ps c.2.1) wy hs (Recs.below hx hb) (OkDs.below hd hb) hids hci hr hpi.1 hpi.2)
 obtain⟨rr,hrr⟩:∃ y,y=calledR (obsR ps) (ps.getD (posR ps c.2.1) default).1 c:=⟨_,rfl⟩
 rw [← hrr] at HCa ⊢
 clear hn h0 h4 hids hci hpi hr hrr
 obtain⟨os,r1,r2,bl⟩:=rr
 clear q4 q5 q8 q9 b5 hx hd
 go_enter Tryz.func15,Tryz.ntmps15
 go_wp2_with fail
 refine (HR.out _ HB.out).mono ?_
 rintro e w1 ⟨rfl,hb⟩
 replace Q4:=hZ (Q4.out.keep hb)
 replace Q5:=hZ (Q5.out.keep hb)
 replace Q8:=hZ (Q8.out.keep hb)
 replace Q9:=hZ (Q9.out.keep hb)
 replace HX:=hZ (Recs.below HX.out hb)
 replace HD:=hZ (OkDs.below HD.out hb)
 replace HB:=hZ (chain HB.out hb)
 clear hb r0 v0 v1 v2 v3 v4 v5 v6 HR
 have r0:=Q4.out.cell 0
 obtain⟨v0,v1,v2,v3,v4,v5,v6⟩:=Q5.out.sevenO
 go_wp2_with fail
 refine (HPl.out _ HB.out).mono ?_
 rintro e w2 ⟨i,rfl,hpl,hb⟩
 have HPc:=hZ hpl
 replace Q4:=hZ (Q4.out.keep hb)
 replace Q5:=hZ (Q5.out.keep hb)
 replace Q8:=hZ (Q8.out.keep hb)
 replace Q9:=hZ (Q9.out.keep hb)
 replace HX:=hZ (Recs.below HX.out hb)
 replace HD:=hZ (OkDs.below HD.out hb)
 replace HB:=hZ (chain HB.out hb)
 clear hb hpl r0 v0 v1 v2 v3 v4 v5 v6 HPl
 have r0:=Q4.out.cell 0
 obtain⟨v0,v1,v2,v3,v4,v5,v6⟩:=Q5.out.sevenO
 have e9:=HPs.out i HPc.out
 rw [e9] at HCa
 clear e9
 go_wp2_with fail
 refine (HCa.out _ HB.out).mono ?_
 rintro e y ⟨qs,hqs,A2,d2,B2,c2,rfl,hs2,hx2,hd2,ht2,hc2,hm2,hb⟩
 have HX2:=hZ hx2
 have HD2:=hZ hd2
 have HT2:=hZ ht2
 have P8:=hZ (Q8.out.keep hb)
 have P9:=hZ (Q9.out.keep hb)
 have HB2:=hZ (chain HB.out hb)
 clear hb hx2 hd2 ht2 Q4 Q5 Q8 Q9 HX HD HB r0 v0 v1 v2 v3 v4 v5 v6 HCa
 have f8:=P8.out.free 0
 have s8:=P8.out.cell 0
 have f90:=P9.out.free 0
 have f91:=P9.out.free 1
 have f92:=P9.out.free 2
 obtain⟨t0,t1,t2⟩:=P9.out.threeO
 go_wp2_with fail
 obtain⟨_,rfl,z1,z2,z3,z4,z5,z6⟩:=rc_store (B:=w.heap.size) (r:=((r1,r2,bl):ReplyR)) (d:=d2) (e:=c2) HB2.out P8.out P9.out (by omega) (by omega) (by omega) HX2.out HD2.out HT2.out
 refine close_two Tryz.results15 rfl rfl rfl z1 z2 Tryz.underlying48 Tryz.underlying36 rfl rfl (by kernel_rfl) (by kernel_rfl) ?_
 exact⟨qs,hqs,A2,d2,B2,c2,rfl,hs2,z3,z4,z5,hc2,hm2,z6⟩
theorem rdo19_any (A:Option Addr) (cp:Nat) (ps:List RawO) (c:CallR) (w:World) (hs:SliceOk A ps.length cp) (hx:Raws w A ps.length ps) (hd:OkDs w ps) (hids:IdsO ps) (hci:c.2.2.2.2.2.1<18446744073709551616):Calls Tryz.prog 15 #[.agg #[.slice A ps.length cp],callV c] w (RcO (doR ps c).1 (doR ps c).2 w):=by
 cases hr:rightR ps with
 | false=>
   have HE:doR ps c=(obsR ps,(1,0,[])):=by unfold doR;rw [if_neg (fun h=>by rw [hr] at h;cases h.1)]
   rw [HE];exact rdo19_bad A cp ps c w hs hx hd hr
 | true=>
   by_cases h1:c.1<0
   ·have HE:doR ps c=(obsR ps,(1,0,[])):=by unfold doR;rw [if_neg (fun h=>by omega)]
    rw [HE];exact rdo19_low A cp ps c w hs hx hd hr h1
   ·by_cases h2:5≤c.1
    ·have HE:doR ps c=(obsR ps,(1,0,[])):=by unfold doR;rw [if_neg (fun h=>by omega)]
     rw [HE];exact rdo19_high A cp ps c w hs hx hd hr h2
    ·by_cases h0:c.1=0
     ·exact rdo19_open A cp ps c w hs hx hd hr h0
     ·cases hn:isR ps c.2.1 with
      | false=>
        have HE:doR ps c=(obsR ps,(6,0,[])):=by unfold doR;rw [if_pos ⟨hr,by omega,by omega⟩,if_neg h0,hn];rfl
        rw [HE];exact rdo19_none A cp ps c w hs hx hd hr (by omega) (by omega) hn
      | true=>
        have HE:doR ps c=calledR (obsR ps) (ps.getD (posR ps c.2.1) default).1 c:=by unfold doR calledR;rw [if_pos ⟨hr,by omega,by omega⟩,if_neg h0,if_pos hn]
        rw [HE];exact rdo19_there A cp ps c w hs hx hd hids hci hr (by omega) (by omega) hn
end
section
/- Layer 19: the reference's with: an object in the place of that of its number. -/
open Go.RowKit Go.Lib
set_option maxRecDepth 100000
end
section
/- Layer 19: law 19's few and alive. -/
open Go.RowKit Go.Lib
set_option maxRecDepth 100000
abbrev fewRaw (q:RawO):RawO:=(fewO q.1,q.2)
def fewRs (ps:List RawO):List RawO:=(ps.take 10).map fewRaw
theorem fewRs_len (ps:List RawO):(fewRs ps).length=min ps.length 10:=by unfold fewRs;rw [List.length_map,List.length_take];omega
theorem fewRs_snoc (ps:List RawO) (i:Nat) (hi:i<ps.length):(ps.take (i+1)).map fewRaw=(ps.take i).map fewRaw++[fewRaw (ps.getD i default)]:=by
 rw [take_snocD ps i hi,List.map_append];rfl
theorem ids_few {xs:List SymR} (h:Ids xs) (n:Nat):Ids (xs.take n):=fun j=>by
 by_cases hj:j<n
 ·by_cases hl:j<xs.length
  ·have e:(xs.take n).getD j default=xs.getD j default:=by simp [List.getD,List.getElem?_take_of_lt hj]
   rw [e];exact h j
  ·have e:(xs.take n).getD j default=default:=by simp only [List.getD];rw [List.getElem?_eq_none (by rw [List.length_take];omega)];rfl
   rw [e];decide
 ·have e:(xs.take n).getD j default=default:=by simp only [List.getD];rw [List.getElem?_eq_none (by rw [List.length_take];omega)];rfl
  rw [e];decide
theorem fewRs_ids {ps:List RawO} (h:IdsO ps):IdsO (fewRs ps):=by
 rw [ids_obs] at h ⊢
 intro o ho
 obtain⟨p,hp,rfl⟩:=List.mem_map.1 ho
 obtain⟨q,hq,rfl⟩:=List.mem_map.1 hp
 have h9:=h q.1 (List.mem_map.2 ⟨q,List.mem_of_mem_take hq,rfl⟩)
 exact⟨h9.1,ids_few h9.2 _⟩
theorem fewO_len (o:ObR):(fewO o).2.1.2.2.2.length=fewN o.2.1.2.1 o.2.1.2.2.2.length:=by
 have:=(fewN_le o.2.1.2.1 o.2.1.2.2.2.length).1
 show (o.2.1.2.2.2.take _).length=_
 rw [List.length_take];omega
theorem few_ok {w:World} {q:RawO} (h:OkD w q):OkD w (fewRaw q):=by
 have h1:=(fewN_le q.1.2.1.2.1 q.1.2.1.2.2.2.length).1
 have hl:=fewO_len q.1
 refine⟨⟨?_,h.1.2.1,fun e=>⟨?_,(h.1.2.2 e).2⟩⟩,?_⟩
 ·show (fewO q.1).2.1.2.2.2.length≤_
  rw [hl];exact Nat.le_trans h1 h.1.1
 ·show (fewO q.1).2.1.2.2.2.length=0
  rw [hl];have:=(h.1.2.2 e).1;omega
 ·show Syms w q.2.1 (fewO q.1).2.1.2.2.2.length (fewO q.1).2.1.2.2.2
  rw [hl];exact h.2.take _ h1
theorem fewRs_ok {w:World} {ps:List RawO} (h:OkDs w ps):OkDs w (fewRs ps):=okds_mem fun p hp=>by
 obtain⟨q,hq,rfl⟩:=List.mem_map.1 hp
 exact few_ok (okds_of h q (List.mem_of_mem_take hq))
theorem enc_few (q:RawO) (m:Nat) (hm:m=fewN q.1.2.1.2.1 q.1.2.1.2.2.2.length):encRO (fewRaw q)=(oC q.1.1 q.1.2.1.1 q.1.2.1.2.1 q.1.2.1.2.2.1 q.2.1 m q.2.2 q.1.2.2).toList:=by
 subst hm
 rw [← fewO_len]
 rfl
theorem F2_gen (a b:Array Value) (w:World):Box ((w.alloc (.cells a 48)).alloc (.cells b 48)) w.heap.size 48 a∧Box ((w.alloc (.cells a 48)).alloc (.cells b 48)) (w.heap.size+1) 48 b∧Below w.heap.size w ((w.alloc (.cells a 48)).alloc (.cells b 48)):=by
 refine⟨(Box.new w _ _).alloc _,?_,((Below.refl _ _).alloc (Nat.le_refl _) _).alloc (by simp) _⟩
 have q:=Box.new (w.alloc (.cells a 48)) 48 b
 simpa only [World.size_alloc] using q
def FewR (qs:List RawO) (w:World) (e:Ending) (w':World):Prop:=∃ A c,e=.returned (.agg #[.slice A qs.length c])∧w'.ownsRow w.heap.size 27 6 (.slice A qs.length c) qs.length (qs.flatMap encRO)∧Below w.heap.size w w'
theorem one6 (id:Nat) (k s c:Int) (A:Option Addr) (m d:Nat) (cl:Int):∀ u∈(oC id k s c A m d cl).toList,u.oneCell'=true:=by
 intro u hu;simp at hu;rcases hu with rfl | rfl | rfl | rfl | rfl | rfl<;>rfl
set_option maxHeartbeats 8000000 in
theorem few19_any (A:Option Addr) (cp:Nat) (ps:List RawO) (w:World) (hs:SliceOk A ps.length cp) (hx:Raws w A ps.length ps) (hd:OkDs w ps) :
  Calls Tryz.prog 14 #[.agg #[.slice A ps.length cp]] w (FewR (fewRs ps) w):=by
 obtain⟨i0,hi,hz0,hz1,hz2⟩:=info_parts obj19_info
 have HI:=hZ hi
 have HZ0:=hZ hz0
 have HZ1:=hZ hz1
 have HZ2:=hZ hz2
 obtain⟨q1,q2,b3⟩:=F2_gen #[.slice A ps.length cp] #[.slice none 0 0] w
 have Q1:=hZ q1
 have Q2:=hZ q2
 have HB:=hZ b3
 have HX:=hZ hx
 have HD:=hZ hd
 have hcp:=hs.1
 have hcm:=hs.2.1
 unfold maxLen at hcm
 obtain⟨kk,ekk⟩:∃ k,k=min ps.length 10:=⟨_,rfl⟩
 have hkk1:kk≤ps.length:=by omega
 have hkk2:kk≤10:=by omega
 have hkk3:(kk:Int)≤(cp:Int):=by omega
 have hkk0:(0:Int)≤(kk:Int):=by omega
 have mkk:(if (10:Int)<(ps.length:Int) then 10 else (ps.length:Int))=(kk:Int):=by split<;>omega
 have mk2:min (ps.length:Int) 10=(kk:Int):=by omega
 have HFw:=hZ (show (ps.take kk).map fewRaw=fewRs ps by unfold fewRs;congr 1;rw [ekk];rcases Nat.le_total ps.length 10 with h | h
                                                        ·rw [Nat.min_eq_left h,List.take_of_length_le (Nat.le_refl _),List.take_of_length_le h]
                                                        ·rw [Nat.min_eq_right h])
 have HFl:=hZ (show (fewRs ps).length=kk by rw [fewRs_len,ekk])
 have r1:=Q1.out.cell 0
 clear hi hz0 hz1 hz2 q1 q2 b3 hx hd ekk hs
 go_enter Tryz.func14,Tryz.ntmps14
 go_wp2_with fail
 clear r1
 go_loopw [3,14] (fun v t wr=>∃ i:Nat,i≤kk∧t=.int .i64 i∧Hid (wr.ownsRow w.heap.size 27 6 v i (((ps.take i).map fewRaw).flatMap encRO))∧Hid (Box wr w.heap.size 48 #[.slice A ps.length cp])∧Hid (Box wr (w.heap.size+1) 48 #[.slice none 0 0])∧Hid (Below w.heap.size w wr)) (fun _ t _=>kk-(Go.RowKit.intOf t).toNat)
 case atStart=>exact⟨0,Nat.zero_le _,rfl,hZ (World.ownsRow_nil _ _ _ _),Q1,Q2,HB⟩
 case round=>
  obtain⟨i,hi,rfl,HO,R1,R2,HC⟩:=hrel
  by_cases hlt:i<kk
  ·have hlt':(i:Int)<(kk:Int):=by omega
   obtain⟨b,off,rfl,hlb,d0,d1,d2,d3,d4,d5⟩:=HX.out.six i (by omega)
   have d0:=(HC.out.cell (p:=⟨b,_,none⟩) hlb).trans d0
   have d1:=(HC.out.cell (p:=⟨b,_,none⟩) hlb).trans d1
   have d2:=(HC.out.cell (p:=⟨b,_,none⟩) hlb).trans d2
   have d3:=(HC.out.cell (p:=⟨b,_,none⟩) hlb).trans d3
   have d4:=(HC.out.cell (p:=⟨b,_,none⟩) hlb).trans d4
   have d5:=(HC.out.cell (p:=⟨b,_,none⟩) hlb).trans d5
   have HSn:=hZ (fewRs_snoc ps i (by omega))
   have hok:=(HD.out i).1
   obtain⟨q,hq⟩:∃ y,y=ps.getD i default:=⟨_,rfl⟩
   rw [← hq] at d0 d1 d2 d3 d4 d5 HSn hok
   clear hq
   obtain⟨⟨id,⟨k,s0,c0,xs⟩,cl⟩,A0,dd0⟩:=q
   dsimp only at d0 d1 d2 d3 d4 d5 hok
   have hl0:=hok.1
   have hl1:=hok.2.1
   unfold maxLen at hl1
   clear hok
   obtain⟨l,hl⟩:∃ l,l=xs.length:=⟨_,rfl⟩
   obtain⟨m,hm⟩:∃ m,m=min l 66:=⟨_,rfl⟩
   have HF:=hZ (show fewN s0 xs.length=if 24<m∧6<s0 then 24 else m by unfold fewN;rw [← hl,hm])
   rw [← hl] at d4 hl0
   have HL:=hZ hl
   have hdm:min (l:Int) 66=(m:Int):=by omega
   have hm0:(0:Int)≤(m:Int):=by omega
   have hmd:(m:Int)≤(dd0:Int):=by omega
   clear hl
   by_cases hl6:(66:Int)<(l:Int)
   ·obtain rfl:m=66:=by omega
    clear hm
    have h66d:(66:Int)≤(dd0:Int):=by omega
    by_cases h2:s0>6
    ·have h24d:(24:Int)≤(dd0:Int):=by omega
     replace HF:=hZ (HF.out.trans (if_pos ⟨by omega,h2⟩))
     have HE:=hZ (enc_few ((id,(k,s0,c0,xs),cl),(A0,dd0)) 24 (by have:=HF.out;exact this.symm))
     have c1:=hZ (show Below wr.heap.size wr (wr.alloc (.cells (oC id k s0 c0 A0 24 dd0 cl) 27)) from (Below.refl _ _).alloc (Nat.le_refl _) _)
     have c2:=hZ (show Below wr.heap.size wr ((wr.alloc (.cells (oC id k s0 c0 A0 24 dd0 cl) 27)).alloc (.cells (oC id k s0 c0 A0 24 dd0 cl) 27)) from c1.out.alloc c1.out.size _)
     have S1:=hZ (R1.out.keep c2.out)
     have S2:=hZ (R2.out.keep c2.out)
     have ZO:=hZ (own_keep HO.out c2.out)
     have ZB:=hZ (HC.out.trans (c2.out.mono HC.out.size))
     have N2:=hZ (fun g hg=>(ZO.out.lt g hg).1)
     have NW0:=World.news_of_block (Box.new (wr.alloc (.cells (oC id k s0 c0 A0 24 dd0 cl) 27)) 27 (oC id k s0 c0 A0 24 dd0 cl))
     simp only [World.size_alloc] at NW0
     have NW:=hZ NW0
     clear NW0 c1 HF
     go_wp2_with (at_builtin;go_loud (refine wpList_append_own _ rfl _ _ 46 rfl w.heap.size 27 i0 _ 6 64 Tryz.underlying46 HI.out HZ0.out HZ1.out HZ2.out rfl (by decide) _ _ _ rfl ZO.out ⟨wr.heap.size+1,0,none⟩ 1 1 (oC id k s0 c0 A0 24 dd0 cl).toList rfl rfl NW.out (one6 id k s0 c0 A0 24 dd0 cl) (by simp [maxLen];omega) (by omega) ZB.out.size ?_);intro v' w2 hown' hgrow _;have HC2:=hZ (ZB.out.grown hgrow ZB.out.size N2.out);have HO2:=hZ hown';have V1:=hZ (S1.out.grown hgrow (own_ne ZO.out S1.out (by decide)));have V2:=hZ (S2.out.grown hgrow (own_ne ZO.out S2.out (by decide)));clear hown' hgrow)
     go_roundw
     case rel=>
      refine⟨i+1,hlt,by go_num,?_,V1,V2,HC2⟩
      rw [HSn.out,List.flatMap_append,List.flatMap_singleton,HE.out]
      exact HO2
     case measure=>simp [Go.RowKit.intOf]<;>omega
    ·replace HF:=hZ (HF.out.trans (if_neg (fun h=>h2 h.2)))
     have HE:=hZ (enc_few ((id,(k,s0,c0,xs),cl),(A0,dd0)) 66 (by have:=HF.out;exact this.symm))
     have c1:=hZ (show Below wr.heap.size wr (wr.alloc (.cells (oC id k s0 c0 A0 66 dd0 cl) 27)) from (Below.refl _ _).alloc (Nat.le_refl _) _)
     have c2:=hZ (show Below wr.heap.size wr ((wr.alloc (.cells (oC id k s0 c0 A0 66 dd0 cl) 27)).alloc (.cells (oC id k s0 c0 A0 66 dd0 cl) 27)) from c1.out.alloc c1.out.size _)
     have S1:=hZ (R1.out.keep c2.out)
     have S2:=hZ (R2.out.keep c2.out)
     have ZO:=hZ (own_keep HO.out c2.out)
     have ZB:=hZ (HC.out.trans (c2.out.mono HC.out.size))
     have N2:=hZ (fun g hg=>(ZO.out.lt g hg).1)
     have NW0:=World.news_of_block (Box.new (wr.alloc (.cells (oC id k s0 c0 A0 66 dd0 cl) 27)) 27 (oC id k s0 c0 A0 66 dd0 cl))
     simp only [World.size_alloc] at NW0
     have NW:=hZ NW0
     clear NW0 c1 HF
     go_wp2_with (at_builtin;go_loud (refine wpList_append_own _ rfl _ _ 46 rfl w.heap.size 27 i0 _ 6 64 Tryz.underlying46 HI.out HZ0.out HZ1.out HZ2.out rfl (by decide) _ _ _ rfl ZO.out ⟨wr.heap.size+1,0,none⟩ 1 1 (oC id k s0 c0 A0 66 dd0 cl).toList rfl rfl NW.out (one6 id k s0 c0 A0 66 dd0 cl) (by simp [maxLen];omega) (by omega) ZB.out.size ?_);intro v' w2 hown' hgrow _;have HC2:=hZ (ZB.out.grown hgrow ZB.out.size N2.out);have HO2:=hZ hown';have V1:=hZ (S1.out.grown hgrow (own_ne ZO.out S1.out (by decide)));have V2:=hZ (S2.out.grown hgrow (own_ne ZO.out S2.out (by decide)));clear hown' hgrow)
     go_roundw
     case rel=>
      refine⟨i+1,hlt,by go_num,?_,V1,V2,HC2⟩
      rw [HSn.out,List.flatMap_append,List.flatMap_singleton,HE.out]
      exact HO2
     case measure=>simp [Go.RowKit.intOf]<;>omega
   ·obtain rfl:m=l:=by omega
    clear hm
    have hl7:(m:Int)≤66:=by omega
    by_cases h1:(m:Int)>24
    ·have h24:(24:Int)≤(m:Int):=by omega
     by_cases h2:s0>6
     ·have h24d:(24:Int)≤(dd0:Int):=by omega
      replace HF:=hZ (HF.out.trans (if_pos ⟨by omega,h2⟩))
      have HE:=hZ (enc_few ((id,(k,s0,c0,xs),cl),(A0,dd0)) 24 (by have:=HF.out;exact this.symm))
      have c1:=hZ (show Below wr.heap.size wr (wr.alloc (.cells (oC id k s0 c0 A0 24 dd0 cl) 27)) from (Below.refl _ _).alloc (Nat.le_refl _) _)
      have c2:=hZ (show Below wr.heap.size wr ((wr.alloc (.cells (oC id k s0 c0 A0 24 dd0 cl) 27)).alloc (.cells (oC id k s0 c0 A0 24 dd0 cl) 27)) from c1.out.alloc c1.out.size _)
      have S1:=hZ (R1.out.keep c2.out)
      have S2:=hZ (R2.out.keep c2.out)
      have ZO:=hZ (own_keep HO.out c2.out)
      have ZB:=hZ (HC.out.trans (c2.out.mono HC.out.size))
      have N2:=hZ (fun g hg=>(ZO.out.lt g hg).1)
      have NW0:=World.news_of_block (Box.new (wr.alloc (.cells (oC id k s0 c0 A0 24 dd0 cl) 27)) 27 (oC id k s0 c0 A0 24 dd0 cl))
      simp only [World.size_alloc] at NW0
      have NW:=hZ NW0
      clear NW0 c1 HF
      go_wp2_with (at_builtin;go_loud (refine wpList_append_own _ rfl _ _ 46 rfl w.heap.size 27 i0 _ 6 64 Tryz.underlying46 HI.out HZ0.out HZ1.out HZ2.out rfl (by decide) _ _ _ rfl ZO.out ⟨wr.heap.size+1,0,none⟩ 1 1 (oC id k s0 c0 A0 24 dd0 cl).toList rfl rfl NW.out (one6 id k s0 c0 A0 24 dd0 cl) (by simp [maxLen];omega) (by omega) ZB.out.size ?_);intro v' w2 hown' hgrow _;have HC2:=hZ (ZB.out.grown hgrow ZB.out.size N2.out);have HO2:=hZ hown';have V1:=hZ (S1.out.grown hgrow (own_ne ZO.out S1.out (by decide)));have V2:=hZ (S2.out.grown hgrow (own_ne ZO.out S2.out (by decide)));clear hown' hgrow)
      go_roundw
      case rel=>
       refine⟨i+1,hlt,by go_num,?_,V1,V2,HC2⟩
       rw [HSn.out,List.flatMap_append,List.flatMap_singleton,HE.out]
       exact HO2
      case measure=>simp [Go.RowKit.intOf]<;>omega
     ·replace HF:=hZ (HF.out.trans (if_neg (fun h=>h2 h.2)))
      have HE:=hZ (enc_few ((id,(k,s0,c0,xs),cl),(A0,dd0)) m (by have:=HF.out;exact this.symm))
      have c1:=hZ (show Below wr.heap.size wr (wr.alloc (.cells (oC id k s0 c0 A0 m dd0 cl) 27)) from (Below.refl _ _).alloc (Nat.le_refl _) _)
      have c2:=hZ (show Below wr.heap.size wr ((wr.alloc (.cells (oC id k s0 c0 A0 m dd0 cl) 27)).alloc (.cells (oC id k s0 c0 A0 m dd0 cl) 27)) from c1.out.alloc c1.out.size _)
      have S1:=hZ (R1.out.keep c2.out)
      have S2:=hZ (R2.out.keep c2.out)
      have ZO:=hZ (own_keep HO.out c2.out)
      have ZB:=hZ (HC.out.trans (c2.out.mono HC.out.size))
      have N2:=hZ (fun g hg=>(ZO.out.lt g hg).1)
      have NW0:=World.news_of_block (Box.new (wr.alloc (.cells (oC id k s0 c0 A0 m dd0 cl) 27)) 27 (oC id k s0 c0 A0 m dd0 cl))
      simp only [World.size_alloc] at NW0
      have NW:=hZ NW0
      clear NW0 c1 HF
      go_wp2_with (at_builtin;go_loud (refine wpList_append_own _ rfl _ _ 46 rfl w.heap.size 27 i0 _ 6 64 Tryz.underlying46 HI.out HZ0.out HZ1.out HZ2.out rfl (by decide) _ _ _ rfl ZO.out ⟨wr.heap.size+1,0,none⟩ 1 1 (oC id k s0 c0 A0 m dd0 cl).toList rfl rfl NW.out (one6 id k s0 c0 A0 m dd0 cl) (by simp [maxLen];omega) (by omega) ZB.out.size ?_);intro v' w2 hown' hgrow _;have HC2:=hZ (ZB.out.grown hgrow ZB.out.size N2.out);have HO2:=hZ hown';have V1:=hZ (S1.out.grown hgrow (own_ne ZO.out S1.out (by decide)));have V2:=hZ (S2.out.grown hgrow (own_ne ZO.out S2.out (by decide)));clear hown' hgrow)
      go_roundw
      case rel=>
       refine⟨i+1,hlt,by go_num,?_,V1,V2,HC2⟩
       rw [HSn.out,List.flatMap_append,List.flatMap_singleton,HE.out]
       exact HO2
      case measure=>simp [Go.RowKit.intOf]<;>omega
    ·have h24:¬ (24:Int)<(m:Int):=by omega
     replace HF:=hZ (HF.out.trans (if_neg (fun h=>h1 (by omega))))
     have HE:=hZ (enc_few ((id,(k,s0,c0,xs),cl),(A0,dd0)) m (by have:=HF.out;exact this.symm))
     have c1:=hZ (show Below wr.heap.size wr (wr.alloc (.cells (oC id k s0 c0 A0 m dd0 cl) 27)) from (Below.refl _ _).alloc (Nat.le_refl _) _)
     have c2:=hZ (show Below wr.heap.size wr ((wr.alloc (.cells (oC id k s0 c0 A0 m dd0 cl) 27)).alloc (.cells (oC id k s0 c0 A0 m dd0 cl) 27)) from c1.out.alloc c1.out.size _)
     have S1:=hZ (R1.out.keep c2.out)
     have S2:=hZ (R2.out.keep c2.out)
     have ZO:=hZ (own_keep HO.out c2.out)
     have ZB:=hZ (HC.out.trans (c2.out.mono HC.out.size))
     have N2:=hZ (fun g hg=>(ZO.out.lt g hg).1)
     have NW0:=World.news_of_block (Box.new (wr.alloc (.cells (oC id k s0 c0 A0 m dd0 cl) 27)) 27 (oC id k s0 c0 A0 m dd0 cl))
     simp only [World.size_alloc] at NW0
     have NW:=hZ NW0
     clear NW0 c1 HF
     go_wp2_with (at_builtin;go_loud (refine wpList_append_own _ rfl _ _ 46 rfl w.heap.size 27 i0 _ 6 64 Tryz.underlying46 HI.out HZ0.out HZ1.out HZ2.out rfl (by decide) _ _ _ rfl ZO.out ⟨wr.heap.size+1,0,none⟩ 1 1 (oC id k s0 c0 A0 m dd0 cl).toList rfl rfl NW.out (one6 id k s0 c0 A0 m dd0 cl) (by simp [maxLen];omega) (by omega) ZB.out.size ?_);intro v' w2 hown' hgrow _;have HC2:=hZ (ZB.out.grown hgrow ZB.out.size N2.out);have HO2:=hZ hown';have V1:=hZ (S1.out.grown hgrow (own_ne ZO.out S1.out (by decide)));have V2:=hZ (S2.out.grown hgrow (own_ne ZO.out S2.out (by decide)));clear hown' hgrow)
     go_roundw
     case rel=>
      refine⟨i+1,hlt,by go_num,?_,V1,V2,HC2⟩
      rw [HSn.out,List.flatMap_append,List.flatMap_singleton,HE.out]
      exact HO2
     case measure=>simp [Go.RowKit.intOf]<;>omega
  ·obtain rfl:i=kk:=by omega
   have hlt':¬ (i:Int)<(i:Int):=Int.lt_irrefl _
   obtain⟨A9,c9,rfl⟩:=own_formS6 HO.out
   have hO:=HO.out
   rw [HFw.out] at hO
   have s1:=R1.out.cell 0
   have f1:=R1.out.free 0
   have s2:=R2.out.cell 0
   have f2:=R2.out.free 0
   have hO1:=own_far hO R1.out (by decide) 0 (.slice A9 i c9)
   have S2:=R2.out.far (p:=⟨w.heap.size,0,none⟩) (by simp) (.slice A9 i c9)
   have hO2:=own_far hO1 S2 (by decide) 0 (.slice A9 i c9)
   have HO2:=hZ hO2
   have T2:=hZ (S2.put 0 (.slice A9 i c9))
   have HBz:=hZ ((HC.out.setCell (p:=⟨w.heap.size,0,none⟩) (Nat.le_refl _) (.slice A9 i c9)).setCell (p:=⟨w.heap.size+1,0,none⟩) (by simp) (.slice A9 i c9))
   clear hO hO1 hO2 S2
   go_wp2_with fail
   refine close_one Tryz.results14 rfl rfl T2.out Tryz.underlying48 rfl (by kernel_rfl) ?_
   have hfl:=HFl.out
   have h9:=HO2.out
   subst hfl
   exact⟨A9,c9,rfl,h9,HBz.out⟩
theorem alive_doR:doR [] (0,7,2,1,3,0,⟨#[]⟩)=([(7,(2,1,3,[]),0)],(0,2,[])):=by
 unfold doR
 rw [if_pos ⟨by decide,by decide,by decide⟩,if_pos rfl,if_neg (by decide),if_neg (by decide),alive_open,if_pos rfl]
 rfl
set_option maxHeartbeats 4000000 in
theorem alive19_any (w:World):Calls Tryz.prog 17 #[] w fun e w'=>e=.returned (.bool true)∧Below w.heap.size w w':=by
 have hO:=rdo19_any none 0 [] (0,7,2,1,3,0,⟨#[]⟩) w ⟨Nat.le_refl _,Nat.zero_le _,fun _=>⟨rfl,rfl⟩⟩ (Recs.nil _ _) (fun j=>OkD.zero w) (fun j=>⟨by simp [default],fun k=>by simp [default]⟩) (by decide)
 rw [alive_doR] at hO
 have HO:=hZ hO
 clear hO
 go_enter Tryz.func17,Tryz.ntmps17
 go_wp2_with fail
 refine HO.out.mono ?_
 rintro e w2 ⟨qs,hqs,A,d,B,c,rfl,-,-,-,-,-,-,hb⟩
 have hl:qs.length=1:=by rw [← obsR_len,hqs];rfl
 rw [hl]
 have b1:Below w2.heap.size w2 (w2.alloc (.cells #[.slice A 1 d] 48)):=(Below.refl _ _).alloc (Nat.le_refl _) _
 have b2:=b1.alloc b1.size (.cells #[.int .i64 0,.int .i64 2,.slice B 0 c] 36)
 have HB:=hZ (chain hb b2)
 clear b1 b2 hb HO hl hqs
 go_wp2_with fail
 go_ret
 exact⟨rfl,HB.out⟩
end
section
/- Layer 19: how many bytes a receiver has: both sides. -/
open Go.RowKit Go.Lib
set_option maxRecDepth 100000
def bytesO (o:ObR):Nat:=bytesI o.2.1.2.2.2.length o.2.1.2.1.toNat o.2.1.1.toNat
def openB (o:ObR):Nat:=if o.2.2=1 then 0 else bytesO o
def sumB (ps:List RawO) (i:Nat):Nat:=((ps.take i).map fun p=>openB p.1).sum
theorem sumB_snoc (ps:List RawO) (i:Nat) (hi:i<ps.length):sumB ps (i+1)=sumB ps i+openB (ps.getD i default).1:=by
 unfold sumB;rw [take_snocD ps i hi,List.map_append,List.sum_append];simp
def bytesR (os:List ObR):Nat:=(os.map openB).sum
theorem sumB_all (ps:List RawO):sumB ps ps.length=bytesR (obsR ps):=by
 unfold sumB bytesR obsR;rw [List.take_length,List.map_map];rfl
theorem bytesO_le {o:ObR} (h:storeB o.2.1.1 o.2.1.2.1 o.2.1.2.2.1 o.2.1.2.2.2=true):bytesO o≤4608:=by
 obtain⟨hk,hs,hc,hl⟩:=storeB_bd h
 unfold bytesO bytesI
 have h1:o.2.1.2.2.2.length≤64:=by omega
 have h2:o.2.1.2.1.toNat+(o.2.1.1.toNat+7) / 8≤72:=by omega
 exact Nat.mul_le_mul h1 h2
theorem openB_le {o:ObR} (h:rightO o=true):openB o≤4608:=by
 unfold openB
 by_cases e:o.2.2=1
 ·rw [if_pos e];omega
 ·rw [if_neg e];exact bytesO_le (right_store h)
theorem sumB_le {ps:List RawO} (h:∀ o∈obsR ps,rightO o=true) (i:Nat):sumB ps i≤i*4608:=by
 have hg:∀ l:List RawO,(∀ p∈l,rightO p.1=true)→((l.map fun p=>openB p.1).sum≤l.length*4608):=by
  intro l
  induction l with
  | nil=>intro _;simp
  | cons a l ih=>
    intro hl
    have h1:=ih fun p hp=>hl p (List.mem_cons_of_mem _ hp)
    have h2:=openB_le (hl a (List.mem_cons_self ..))
    rw [List.map_cons,List.sum_cons,List.length_cons];omega
 have:=hg (ps.take i) (fun p hp=>h p.1 (List.mem_map.2 ⟨p,List.mem_of_mem_take hp,rfl⟩))
 unfold sumB
 rw [List.length_take] at this
 have h3:min i ps.length*4608≤i*4608:=Nat.mul_le_mul_right _ (Nat.min_le_left _ _)
 omega
theorem obytes_any (o:ObR) (A:Option Addr) (d:Nat) (w:World) (hs:SliceOk A o.2.1.2.2.2.length d) (hx:Syms w A o.2.1.2.2.2.length o.2.1.2.2.2) (hr:storeB o.2.1.1 o.2.1.2.1 o.2.1.2.2.1 o.2.1.2.2.2=true) :
  Calls Tryz.prog 47 #[.agg #[.int .i64 o.2.1.1,.int .i64 o.2.1.2.1,.int .i64 o.2.1.2.2.1,.slice A o.2.1.2.2.2.length d]] w fun e w'=>e=.returned (.tuple #[.int .i64 (bytesO o:Nat),.int .i64 0])∧Below w.heap.size w w':=by
 obtain⟨hk,hsz,hc,hlc⟩:=storeB_bd hr
 have ek:((o.2.1.1.toNat:Nat):Int)=o.2.1.1:=Int.toNat_of_nonneg (by omega)
 have es:((o.2.1.2.1.toNat:Nat):Int)=o.2.1.2.1:=Int.toNat_of_nonneg (by omega)
 have h:=ebytes_yes o.2.1.1.toNat o.2.1.2.1.toNat o.2.1.2.2.1 A o.2.1.2.2.2.length d o.2.1.2.2.2 w hx hs.1 hs.2.1 (by rw [ek,es];exact hr)
 rw [ek,es] at h
 exact h
set_option maxHeartbeats 1000000 in
theorem isClosed_any (o:ObR) (A:Option Addr) (d:Nat) (w:World):Calls Tryz.prog 46 #[.agg (obA o A d)] w fun e w'=>e=.returned (.bool (o.2.2==1))∧Below w.heap.size w w':=by
 have W1:=hZ ((Below.refl w.heap.size w).alloc (Nat.le_refl _) (.cells (obA o A d) 27))
 have Q:=hZ (Box.new w 27 (obA o A d))
 obtain⟨g0,g1,g2,g3,g4,g5⟩:=Q.out.sixO
 go_enter Tryz.func46,Tryz.ntmps46
 go_wp2_with fail
 go_ret
 exact⟨rfl,W1.out⟩
set_option maxHeartbeats 4000000 in
theorem rcbytes_yes (A:Option Addr) (cp:Nat) (ps:List RawO) (w:World) (hs:SliceOk A ps.length cp) (hx:Raws w A ps.length ps) (hd:OkDs w ps) (hr:rightR ps=true) :
  Calls Tryz.prog 23 #[.agg #[.slice A ps.length cp]] w fun e w'=>e=.returned (.tuple #[.int .i64 (bytesR (obsR ps):Nat),.int .i64 0])∧Below w.heap.size w w':=by
 have hrb:=(rightR_iff ps).1 hr
 have hl8:ps.length≤8:=by have:=hrb.1;rwa [obsR_len] at this
 have b1:Below w.heap.size w (w.alloc (.cells #[.slice A ps.length cp] 48)):=(Below.refl _ _).alloc (Nat.le_refl _) _
 have Q0:=hZ (Box.new w 48 #[.slice A ps.length cp])
 have HB:=hZ b1
 have HX:=hZ hx
 have HD:=hZ hd
 have HRt:=hZ hrb.2.1
 have HRR:=hZ (rcright_any (.agg #[.slice A ps.length cp]) ps _ ⟨A,cp,rfl,hs,Recs.below hx b1,OkDs.below hd b1⟩)
 rw [hr] at HRR
 have HAl:=hZ (sumB_all ps)
 have r0:=Q0.out.cell 0
 clear b1 hs hx hd hr hrb
 go_enter Tryz.func23,Tryz.ntmps23
 go_wp2_with fail
 refine HRR.out.mono ?_
 rintro e w1 ⟨rfl,hb⟩
 replace HB:=hZ (chain HB.out hb)
 replace Q0:=hZ (Q0.out.keep hb)
 clear hb r0 HRR
 have r0:=Q0.out.cell 0
 go_wp2_with fail
 clear r0
 go_loopw [4,15] (fun s t wr=>∃ i:Nat,i≤ps.length∧s=.int .i64 ((sumB ps i:Nat):Int)∧t=.int .i64 i∧Hid (Below w.heap.size w wr)) (fun _ t _=>ps.length-(Go.RowKit.intOf t).toNat)
 case atStart=>exact⟨0,Nat.zero_le _,rfl,rfl,HB⟩
 case round=>
  obtain⟨i,hi,rfl,rfl,HC⟩:=hrel
  by_cases hlt:i<ps.length
  ·have hlt':(i:Int)<(ps.length:Int):=Int.ofNat_lt.2 hlt
   obtain⟨b,off,rfl,hlb,d0,d1,d2,d3,d4,d5⟩:=HX.out.six i hlt
   have d0:=(HC.out.cell (p:=⟨b,_,none⟩) hlb).trans d0
   have d1:=(HC.out.cell (p:=⟨b,_,none⟩) hlb).trans d1
   have d2:=(HC.out.cell (p:=⟨b,_,none⟩) hlb).trans d2
   have d3:=(HC.out.cell (p:=⟨b,_,none⟩) hlb).trans d3
   have d4:=(HC.out.cell (p:=⟨b,_,none⟩) hlb).trans d4
   have d5:=(HC.out.cell (p:=⟨b,_,none⟩) hlb).trans d5
   have HSn:=hZ (sumB_snoc ps i hlt)
   have hS1:=sumB_le HRt.out (i+1)
   have hRq:=HRt.out _ (getD_obs_mem hlt)
   have HOq:=hZ (HD.out i)
   have hle:=sumB_le HRt.out i
   obtain⟨q,hq⟩:∃ y,y=ps.getD i default:=⟨_,rfl⟩
   rw [← hq] at d0 d1 d2 d3 d4 d5 HSn hRq HOq
   clear hq
   have HRs:=hZ (right_store hRq)
   have HRo:=hZ hRq
   have hob:=openB_le hRq
   clear hRq
   have c1:=hZ (show Below wr.heap.size wr (wr.alloc (.cells (obA q.1 q.2.1 q.2.2) 27)) from (Below.refl _ _).alloc (Nat.le_refl _) _)
   have GX:=hZ (Box.new wr 27 (obA q.1 q.2.1 q.2.2))
   have YB:=hZ (HC.out.trans (c1.out.mono HC.out.size))
   obtain⟨g0,g1,g2,g3,g4,g5⟩:=GX.out.sixO
   obtain⟨sm,hsm⟩:∃ y,y=sumB ps i:=⟨_,rfl⟩
   rw [← hsm] at HSn hle ⊢
   clear hsm
   have HCl:=hZ (isClosed_any q.1 q.2.1 q.2.2 (wr.alloc (.cells (obA q.1 q.2.1 q.2.2) 27)))
   by_cases hcl:q.1.2.2=1
   ·have t1:(q.1.2.2==1)=true:=by simpa using hcl
    have HSe:=hZ (show sumB ps (i+1)=sm by rw [HSn.out];unfold openB;rw [if_pos hcl];rfl)
    rw [t1] at HCl
    clear hcl HSn t1
    go_wp2_with fail
    refine HCl.out.mono ?_
    rintro e w2 ⟨rfl,hb⟩
    have HC2:=hZ (chain YB.out hb)
    clear hb
    go_wp2_with fail
    go_roundw
    case rel=>exact⟨i+1,hlt,by rw [HSe.out],by go_num,HC2⟩
    case measure=>simp [Go.RowKit.intOf]<;>omega
   ·have t1:(q.1.2.2==1)=false:=by rw [beq_eq_false_iff_ne];exact hcl
    have hsb:openB q.1=bytesO q.1:=by unfold openB;rw [if_neg hcl]
    rw [hsb] at HSn hob
    rw [HSn.out] at hS1
    have HBy:=hZ (fun wy (h:OkD wy q)=>obytes_any q.1 q.2.1 q.2.2 wy h.1 h.2 HRs.out)
    rw [t1] at HCl
    have hw1:IntKind.i64.wrap ((sm:Int)+(bytesO q.1:Int))=((sm+bytesO q.1:Nat):Int):=by rw [IntWalk.i64_in _ (by omega)];push_cast;rfl
    obtain⟨bo,hbo⟩:∃ y,y=bytesO q.1:=⟨_,rfl⟩
    rw [← hbo] at HBy HSn hw1
    clear hcl t1 hsb hob hS1 hbo
    go_wp2_with fail
    refine HCl.out.mono ?_
    rintro e w2 ⟨rfl,hb⟩
    have G2:=hZ (GX.out.keep hb)
    have HC2:=hZ (chain YB.out hb)
    clear hb g0 g1 g2 g3 g4 g5 HCl
    obtain⟨g0,g1,g2,g3,g4,g5⟩:=G2.out.sixO
    have HBw:=hZ (HBy.out w2 (HOq.out.below (HC2.out.mono (Nat.le_refl _))))
    go_wp2_with fail
    refine HBw.out.mono ?_
    rintro e w3 ⟨rfl,hb⟩
    have HC3:=hZ (chain HC2.out hb)
    clear hb
    go_wp2_with fail
    go_roundw
    case rel=>exact⟨i+1,hlt,by rw [HSn.out];push_cast;rfl,by go_num,HC3⟩
    case measure=>simp [Go.RowKit.intOf]<;>omega
  ·obtain rfl:i=ps.length:=by omega
   have hlt':¬ (ps.length:Int)<(ps.length:Int):=Int.lt_irrefl _
   rw [HAl.out]
   go_wp2_with fail
   go_ret2
   exact⟨rfl,HC.out⟩
set_option maxHeartbeats 1000000 in
theorem rcbytes_no (A:Option Addr) (cp:Nat) (ps:List RawO) (w:World) (hs:SliceOk A ps.length cp) (hx:Raws w A ps.length ps) (hd:OkDs w ps) (hr:rightR ps=false) :
  Calls Tryz.prog 23 #[.agg #[.slice A ps.length cp]] w fun e w'=>e=.returned (.tuple #[.int .i64 0,.int .i64 1])∧Below w.heap.size w w':=by
 have b1:Below w.heap.size w (w.alloc (.cells #[.slice A ps.length cp] 48)):=(Below.refl _ _).alloc (Nat.le_refl _) _
 have Q0:=hZ (Box.new w 48 #[.slice A ps.length cp])
 have HB:=hZ b1
 have HRR:=hZ (rcright_any (.agg #[.slice A ps.length cp]) ps _ ⟨A,cp,rfl,hs,Recs.below hx b1,OkDs.below hd b1⟩)
 rw [hr] at HRR
 have r0:=Q0.out.cell 0
 clear b1 hs hx hd hr
 go_enter Tryz.func23,Tryz.ntmps23
 go_wp2_with fail
 refine HRR.out.mono ?_
 rintro e w1 ⟨rfl,hb⟩
 replace HB:=hZ (chain HB.out hb)
 clear hb r0 HRR
 go_wp2_with fail
 go_ret2
 exact⟨rfl,HB.out⟩
end
section
/- Layer 18: the reference's Solve. -/
open Go.RowKit Go.Lib
set_option maxRecDepth 100000
end
section
/- Layer 18: the reference's Do. -/
open Go.RowKit Go.Lib
set_option maxRecDepth 100000
noncomputable def addO (o:ObR) (x:SymR):ObR×ReplyR:=
 if whyI o.2.1.2.1 o.2.1.2.2.1 o.2.1.2.2.2 x=0 then ((o.1,(o.2.1.1,o.2.1.2.1,o.2.1.2.2.1,o.2.1.2.2.2++[x]),o.2.2),(0,(rankF o.2.1.1 (o.2.1.2.2.2++[x]):Int),[])) else (o,(whyI o.2.1.2.1 o.2.1.2.2.1 o.2.1.2.2.2 x,0,[]))
end
section
/- Layer 18: the reference's Do. -/
open Go.RowKit Go.Lib
set_option maxRecDepth 100000
end
section
/- ObjectDoes: the walk. -/
open Go.RowKit Go.Lib
set_option maxRecDepth 100000
def RpW (w:World) (v:Value) (r:ReplyR):Prop:=∃ A c,v=.agg #[.int .i64 r.1,.int .i64 r.2.1,.slice A r.2.2.length c]∧Texts w A r.2.2.length r.2.2
theorem RpW.below {w w':World} {v:Value} {r:ReplyR} (h:RpW w v r) (hb:Below w.heap.size w w'):RpW w' v r:=by
 obtain⟨A,c,h1,h2⟩:=h
 exact⟨A,c,h1,h2.below hb⟩
end
section
/- Layer 19: the reference's open and Do. -/
open Go.RowKit Go.Lib
set_option maxRecDepth 100000
end
section
/- Layer 19: the reference's Do. -/
open Go.RowKit Go.Lib
set_option maxRecDepth 100000
end
section
/- Layer 19: receiver.Like. -/
open Go.RowKit Go.Lib
set_option maxRecDepth 100000
end
section
/- Layer 19: the walk of ReceiverDoes. -/
open Go.RowKit Go.Lib
set_option maxRecDepth 100000
def RcIn (w:World) (A:Option Addr) (c:Nat) (ps:List RawO):Prop:=SliceOk A ps.length c∧Raws w A ps.length ps∧OkDs w ps
theorem RcIn.at {w:World} {A:Option Addr} {c:Nat} {ps:List RawO} (h:RcIn w A c ps):RcAt w (.agg #[.slice A ps.length c]) ps:=⟨A,c,rfl,h.1,h.2.1,h.2.2⟩
theorem RcIn.below {w w':World} {A:Option Addr} {c:Nat} {ps:List RawO} (h:RcIn w A c ps) (hb:Below w.heap.size w w'):RcIn w' A c ps:=⟨h.1,Recs.below h.2.1 hb,OkDs.below h.2.2 hb⟩
theorem own_rcin {w w0:World} {base:Nat} {A:Option Addr} {c:Nat} {ps:List RawO} (h:w.ownsRow base 27 6 (.slice A ps.length c) ps.length (ps.flatMap encRO)) (hd:OkDs w0 ps) (hb:Below w0.heap.size w0 w):RcIn w A c ps:=⟨own_cap6 h,own_recs encRO_len h (by decide),OkDs.below hd hb⟩
end
section
/- Layer 19: an object that is closed; the walk of ReceiverCloses. -/
open Go.RowKit Go.Lib
set_option maxRecDepth 100000
theorem rightR_obs {ps qs:List RawO} (h:obsR ps=obsR qs):rightR ps=rightR qs:=by
 rw [Bool.eq_iff_iff,rightR_iff,rightR_iff,h]
theorem at_uniq {qs:List RawO} (hr:rightR qs=true) {o:ObR} (ho:o∈obsR qs):isR qs o.1=true∧(qs.getD (posR qs o.1) default).1=o:=by
 have hi:isR qs o.1=true:=(isR_iff qs o.1).2 ⟨o,ho,rfl⟩
 refine⟨hi,?_⟩
 obtain⟨h1,h2⟩:=posR_id hi
 have hri:=rise_of_right hr
 obtain⟨j,hj,e⟩:=List.getElem_of_mem ho
 rw [obs_get] at e
 rw [obsR_len] at hj
 have hk:(qs.getD j default).1.1=o.1:=by rw [e]
 rcases Nat.lt_trichotomy j (posR qs o.1) with q | q | q
 ·have:=hri j _ q h1;omega
 ·rw [← q];exact e
 ·have:=hri _ j q hj;omega
theorem sum_filters (f:ObR→Nat) (p q:ObR→Bool) (hpq:∀ x,p x=true→q x=false):∀ l:List ObR,((l.filter p).map f).sum+((l.filter q).map f).sum≤(l.map f).sum
 | []=>by simp
 | a::l=>by
   have ih:=sum_filters f p q hpq l
   rw [List.filter_cons,List.filter_cons,List.map_cons,List.sum_cons]
   cases hp:p a with
   | true=>
     rw [hpq a hp];simp only [if_true,Bool.false_eq_true,if_false,List.map_cons,List.sum_cons];omega
   | false=>
     cases hq:q a with
     | true=>simp only [if_true,Bool.false_eq_true,if_false,List.map_cons,List.sum_cons];omega
     | false=>simp only [Bool.false_eq_true,if_false];omega
theorem bytes_with {os:List ObR} {o:ObR} (h:openB o=0):bytesR (withO os o)≤bytesR os:=by
 unfold bytesR withO
 rw [List.map_append,List.sum_append,List.map_cons,List.sum_cons,h]
 have:=sum_filters openB (fun x=>decide (x.1<o.1)) (fun x=>decide (o.1<x.1)) (fun x hx=>by have:=of_decide_eq_true hx;exact decide_eq_false (by omega)) os
 omega
abbrev closeC (id:Nat):CallR:=(4,id,0,0,0,0,⟨#[]⟩)
abbrev openC (id:Nat):CallR:=(0,id,1,0,1,0,⟨#[]⟩)
abbrev addC (id:Nat):CallR:=(1,id,0,0,0,0,⟨#[]⟩)
theorem close_none {ps:List RawO} {c:CallR} (hc:c.1=4) (hr:rightR ps=true) (h:isR ps c.2.1=false∨(ps.getD (posR ps c.2.1) default).1.2.2=1):doR ps c=(obsR ps,(6,0,[])):=by
 unfold doR
 rw [if_pos ⟨hr,by omega,by omega⟩,if_neg (by omega)]
 cases hi:isR ps c.2.1 with
 | false=>rw [if_neg (by decide)]
 | true=>
   rcases h with h | h
   ·rw [hi] at h;cases h
   ·have hro:=((rightR_iff ps).1 hr).2.1 _ (getD_obs_mem (posR_id hi).1)
    have hd:doO (ps.getD (posR ps c.2.1) default).1 c=((ps.getD (posR ps c.2.1) default).1,(6,0,[])):=by
     unfold doO;rw [if_pos ⟨hro,by omega,by omega⟩,if_neg (by omega),if_pos h]
    rw [if_pos rfl,hd,if_neg (show ¬ (6:Int)=0 by decide)]
theorem close_yes {ps:List RawO} {c:CallR} (hc:c.1=4) (hr:rightR ps=true) (hi:isR ps c.2.1=true) (h:¬ (ps.getD (posR ps c.2.1) default).1.2.2=1):doR ps c=(withO (obsR ps) ((ps.getD (posR ps c.2.1) default).1.1,(ps.getD (posR ps c.2.1) default).1.2.1,1),(0,((ps.getD (posR ps c.2.1) default).1.2.1.2.2.2.length:Int),[])):=by
 have hro:=((rightR_iff ps).1 hr).2.1 _ (getD_obs_mem (posR_id hi).1)
 have hd:doO (ps.getD (posR ps c.2.1) default).1 c=(((ps.getD (posR ps c.2.1) default).1.1,(ps.getD (posR ps c.2.1) default).1.2.1,1),(0,((ps.getD (posR ps c.2.1) default).1.2.1.2.2.2.length:Int),[])):=by
  unfold doO
  rw [if_pos ⟨hro,by omega,by omega⟩,if_neg (by omega),if_neg h]
  unfold actO
  rw [if_neg (by omega),if_neg (by omega),if_neg (by omega)]
 unfold doR
 rw [if_pos ⟨hr,by omega,by omega⟩,if_neg (by omega),if_pos hi,hd,if_pos rfl]
theorem add_closed {ps:List RawO} {c:CallR} (hc:c.1=1) (hr:rightR ps=true) (h:(ps.getD (posR ps c.2.1) default).1.2.2=1) (hi:isR ps c.2.1=true):doR ps c=(obsR ps,(6,0,[])):=by
 have hro:=((rightR_iff ps).1 hr).2.1 _ (getD_obs_mem (posR_id hi).1)
 have hd:doO (ps.getD (posR ps c.2.1) default).1 c=((ps.getD (posR ps c.2.1) default).1,(6,0,[])):=by
  unfold doO;rw [if_pos ⟨hro,by omega,by omega⟩,if_neg (by omega),if_pos h]
 unfold doR
 rw [if_pos ⟨hr,by omega,by omega⟩,if_neg (by omega),if_pos hi,hd,if_neg (show ¬ (6:Int)=0 by decide)]
theorem open_there {ps:List RawO} {c:CallR} (hc:c.1=0) (hr:rightR ps=true) (hi:isR ps c.2.1=true):doR ps c=(obsR ps,(8,0,[])):=by
 unfold doR
 rw [if_pos ⟨hr,by omega,by omega⟩,if_pos hc,if_pos hi]
theorem do_bad {ps:List RawO} (c:CallR) (hr:rightR ps=false):doR ps c=(obsR ps,(1,0,[])):=by
 unfold doR;rw [if_neg (fun h=>by rw [hr] at h;cases h.1)]
set_option maxHeartbeats 8000000 in
theorem closes_bad (A1:Option Addr) (d1:Nat) (ps:List RawO) (id:Nat) (W:World) (ha:RcIn W A1 d1 ps) (hi:IdsO ps) (hid:id<18446744073709551616) (hr:rightR (fewRs ps)=false) :
  Calls Tryz.prog 7 #[.agg #[.slice A1 ps.length d1],.int .u64 (id:Int)] W fun e w'=>e=.returned (.bool true)∧Below W.heap.size W w':=by
 have b1:Below W.heap.size W (W.alloc (.cells #[.slice A1 ps.length d1] 48)):=(Below.refl _ _).alloc (Nat.le_refl _) _
 have Q0:=hZ (Box.new W 48 #[.slice A1 ps.length d1])
 have HB:=hZ b1
 have H1:=hZ (few19_any A1 d1 ps _ ha.1 (Recs.below ha.2.1 b1) (OkDs.below ha.2.2 b1))
 have HDp:=hZ (fewRs_ok ha.2.2)
 have HI:=hZ (fewRs_ids hi)
 have HID:=hZ hid
 obtain⟨fp,hfp⟩:∃ y,y=fewRs ps:=⟨_,rfl⟩
 rw [← hfp] at H1 HDp HI hr
 have HR:=hZ hr
 have HBy:=hZ (fun wy A d (qs:List RawO) (hq:obsR qs=obsR fp) (h:RcIn wy A d qs)=>rcbytes_no A d qs wy h.1 h.2.1 h.2.2 (by rw [rightR_obs hq];exact hr))
 have HDo:=hZ (fun wy A d (h:RcIn wy A d fp)=>rdo19_any A d fp (closeC id) wy h.1 h.2.1 h.2.2 HI.out (by show 0<18446744073709551616;decide))
 rw [do_bad _ hr] at HDo
 clear hr
 clear b1 ha hi hid hfp
 have r0:=Q0.out.cell 0
 go_enter Tryz.func7,Tryz.ntmps7
 go_wp2_with fail
 refine H1.out.mono ?_
 rintro e x1 ⟨A3,d3,rfl,hown,hb⟩
 have Q1:=hZ (Q0.out.keep hb)
 have HB1:=hZ (chain HB.out hb)
 have K0:=hZ (Q1.out.put 0 (.slice A3 fp.length d3))
 have HO:=own_far hown Q1.out (by decide) 0 (.slice A3 fp.length d3)
 have KB:=hZ (HB1.out.setCell (p:=⟨W.heap.size,0,none⟩) (Nat.le_refl _) (.slice A3 fp.length d3))
 have I3:=hZ (own_rcin HO HDp.out KB.out)
 have s0:=Q1.out.cell 0
 have f0:=Q1.out.free 0
 clear hown hb r0 Q0 HB HB1 HO H1 HDp
 go_upto_region 2 with (fail)
 obtain⟨wa,hwa⟩:∃ y,y=x1.setCell ⟨W.heap.size,0,none⟩ (.slice A3 fp.length d3):=⟨_,rfl⟩
 rw [← hwa] at K0 KB I3 ⊢
 clear hwa s0 f0 Q1
 have r0:=K0.out.cell 0
 go_wp2_with fail
 refine (HBy.out wa A3 d3 fp rfl I3.out).mono ?_
 rintro e w1 ⟨rfl,hb⟩
 replace K0:=hZ (K0.out.keep hb)
 replace I3:=hZ (I3.out.below hb)
 replace KB:=hZ (chain KB.out hb)
 clear hb r0
 have r0:=K0.out.cell 0
 go_wp2_with fail
 refine (HDo.out w1 A3 d3 I3.out).mono ?_
 rintro e x5 ⟨q5,hq5,A5,e5,B5,c5,rfl,hs9,hx9,hd9,-,-,-,hb9⟩
 have bb:Below x5.heap.size x5 ((x5.alloc (.cells #[.slice A5 q5.length e5] 48)).alloc (.cells #[.int .i64 1,.int .i64 0,.slice B5 0 c5] 36)):=((Below.refl _ _).alloc (Nat.le_refl _) _).alloc (by simp) _
 have hb:=chain hb9 bb
 have u1:=Box.new (x5.alloc (.cells #[.slice A5 q5.length e5] 48)) 36 #[.int .i64 1,.int .i64 0,.slice B5 0 c5]
 simp only [World.size_alloc] at u1
 have P5:=hZ ((Box.new x5 48 #[.slice A5 q5.length e5]).alloc (.cells #[.int .i64 1,.int .i64 0,.slice B5 0 c5] 36))
 have R5:=hZ u1
 have J5:=hZ (show RcIn ((x5.alloc (.cells #[.slice A5 q5.length e5] 48)).alloc (.cells #[.int .i64 1,.int .i64 0,.slice B5 0 c5] 36)) A5 e5 q5 from ⟨hs9,Recs.below hx9 bb,OkDs.below hd9 bb⟩)
 have HQ5:=hZ hq5
 replace K0:=hZ (K0.out.keep hb)
 replace I3:=hZ (I3.out.below hb)
 replace KB:=hZ (chain KB.out hb)
 clear hb r0 bb hb9 u1 hs9 hx9 hd9 hq5
 obtain⟨g5,hg5⟩:∃ y,y=x5.heap.size:=⟨_,rfl⟩
 rw [← hg5] at P5 R5
 obtain⟨y5,hy5⟩:∃ y,y=(x5.alloc (.cells #[.slice A5 q5.length e5] 48)).alloc (.cells #[.int .i64 1,.int .i64 0,.slice B5 0 c5] 36):=⟨_,rfl⟩
 rw [← hy5] at P5 R5 J5 KB K0 I3
 go_upto_region 4 with (fail)
 rw [← hg5,← hy5]
 clear hg5 hy5
 have r0:=P5.out.cell 0
 go_wp2_with fail
 refine (HBy.out y5 A5 e5 q5 HQ5.out J5.out).mono ?_
 rintro e w2 ⟨rfl,hb⟩
 replace K0:=hZ (K0.out.keep hb)
 replace P5:=hZ (P5.out.keep hb)
 replace R5:=hZ (R5.out.keep hb)
 replace J5:=hZ (J5.out.below hb)
 replace KB:=hZ (chain KB.out hb)
 clear hb r0
 obtain⟨t0,t1,t2⟩:=R5.out.threeO
 go_wp2_with fail
 refine (alive19_any _).mono ?_
 rintro e w3 ⟨rfl,hb⟩
 replace R5:=hZ (R5.out.keep hb)
 replace KB:=hZ (chain KB.out hb)
 clear hb t0 t1 t2
 obtain⟨t0,t1,t2⟩:=R5.out.threeO
 go_wp2_with fail
 go_ret
 exact⟨rfl,KB.out⟩
set_option maxHeartbeats 8000000 in
theorem closes_none (A1:Option Addr) (d1:Nat) (ps:List RawO) (id:Nat) (W:World) (ha:RcIn W A1 d1 ps) (hi:IdsO ps) (hid:id<18446744073709551616) (hr:rightR (fewRs ps)=true) (hn:isR (fewRs ps) id=false∨((fewRs ps).getD (posR (fewRs ps) id) default).1.2.2=1) :
  Calls Tryz.prog 7 #[.agg #[.slice A1 ps.length d1],.int .u64 (id:Int)] W fun e w'=>e=.returned (.bool true)∧Below W.heap.size W w':=by
 have b1:Below W.heap.size W (W.alloc (.cells #[.slice A1 ps.length d1] 48)):=(Below.refl _ _).alloc (Nat.le_refl _) _
 have Q0:=hZ (Box.new W 48 #[.slice A1 ps.length d1])
 have HB:=hZ b1
 have H1:=hZ (few19_any A1 d1 ps _ ha.1 (Recs.below ha.2.1 b1) (OkDs.below ha.2.2 b1))
 have HDp:=hZ (fewRs_ok ha.2.2)
 have HI:=hZ (fewRs_ids hi)
 have HID:=hZ hid
 obtain⟨fp,hfp⟩:∃ y,y=fewRs ps:=⟨_,rfl⟩
 rw [← hfp] at H1 HDp HI hr hn
 have HR:=hZ hr
 have HBy:=hZ (fun wy A d (qs:List RawO) (hq:obsR qs=obsR fp) (h:RcIn wy A d qs)=>rcbytes_yes A d qs wy h.1 h.2.1 h.2.2 (by rw [rightR_obs hq];exact hr))
 have HDo:=hZ (fun wy A d (h:RcIn wy A d fp)=>rdo19_any A d fp (closeC id) wy h.1 h.2.1 h.2.2 HI.out (by show 0<18446744073709551616;decide))
 rw [close_none (c:=closeC id) rfl hr hn] at HDo
 clear hr hn
 clear b1 ha hi hid hfp
 have r0:=Q0.out.cell 0
 go_enter Tryz.func7,Tryz.ntmps7
 go_wp2_with fail
 refine H1.out.mono ?_
 rintro e x1 ⟨A3,d3,rfl,hown,hb⟩
 have Q1:=hZ (Q0.out.keep hb)
 have HB1:=hZ (chain HB.out hb)
 have K0:=hZ (Q1.out.put 0 (.slice A3 fp.length d3))
 have HO:=own_far hown Q1.out (by decide) 0 (.slice A3 fp.length d3)
 have KB:=hZ (HB1.out.setCell (p:=⟨W.heap.size,0,none⟩) (Nat.le_refl _) (.slice A3 fp.length d3))
 have I3:=hZ (own_rcin HO HDp.out KB.out)
 have s0:=Q1.out.cell 0
 have f0:=Q1.out.free 0
 clear hown hb r0 Q0 HB HB1 HO H1 HDp
 go_upto_region 2 with (fail)
 obtain⟨wa,hwa⟩:∃ y,y=x1.setCell ⟨W.heap.size,0,none⟩ (.slice A3 fp.length d3):=⟨_,rfl⟩
 rw [← hwa] at K0 KB I3 ⊢
 clear hwa s0 f0 Q1
 have r0:=K0.out.cell 0
 go_wp2_with fail
 refine (HBy.out wa A3 d3 fp rfl I3.out).mono ?_
 rintro e w1 ⟨rfl,hb⟩
 replace K0:=hZ (K0.out.keep hb)
 replace I3:=hZ (I3.out.below hb)
 replace KB:=hZ (chain KB.out hb)
 clear hb r0
 have r0:=K0.out.cell 0
 go_wp2_with fail
 refine (HDo.out w1 A3 d3 I3.out).mono ?_
 rintro e x5 ⟨q5,hq5,A5,e5,B5,c5,rfl,hs9,hx9,hd9,-,-,-,hb9⟩
 have bb:Below x5.heap.size x5 ((x5.alloc (.cells #[.slice A5 q5.length e5] 48)).alloc (.cells #[.int .i64 6,.int .i64 0,.slice B5 0 c5] 36)):=((Below.refl _ _).alloc (Nat.le_refl _) _).alloc (by simp) _
 have hb:=chain hb9 bb
 have u1:=Box.new (x5.alloc (.cells #[.slice A5 q5.length e5] 48)) 36 #[.int .i64 6,.int .i64 0,.slice B5 0 c5]
 simp only [World.size_alloc] at u1
 have P5:=hZ ((Box.new x5 48 #[.slice A5 q5.length e5]).alloc (.cells #[.int .i64 6,.int .i64 0,.slice B5 0 c5] 36))
 have R5:=hZ u1
 have J5:=hZ (show RcIn ((x5.alloc (.cells #[.slice A5 q5.length e5] 48)).alloc (.cells #[.int .i64 6,.int .i64 0,.slice B5 0 c5] 36)) A5 e5 q5 from ⟨hs9,Recs.below hx9 bb,OkDs.below hd9 bb⟩)
 have HQ5:=hZ hq5
 replace K0:=hZ (K0.out.keep hb)
 replace I3:=hZ (I3.out.below hb)
 replace KB:=hZ (chain KB.out hb)
 clear hb r0 bb hb9 u1 hs9 hx9 hd9 hq5
 obtain⟨g5,hg5⟩:∃ y,y=x5.heap.size:=⟨_,rfl⟩
 rw [← hg5] at P5 R5
 obtain⟨y5,hy5⟩:∃ y,y=(x5.alloc (.cells #[.slice A5 q5.length e5] 48)).alloc (.cells #[.int .i64 6,.int .i64 0,.slice B5 0 c5] 36):=⟨_,rfl⟩
 rw [← hy5] at P5 R5 J5 KB K0 I3
 go_upto_region 4 with (fail)
 rw [← hg5,← hy5]
 clear hg5 hy5
 have r0:=P5.out.cell 0
 have HB5:=hZ (HBy.out y5 A5 e5 q5 HQ5.out J5.out)
 rw [show bytesR (obsR q5)=bytesR (obsR fp) from congrArg bytesR HQ5.out] at HB5
 obtain⟨bf,hbf⟩:∃ y,y=bytesR (obsR fp):=⟨_,rfl⟩
 rw [← hbf] at HB5 ⊢
 have eqb:((bf:Int)==(bf:Int))=true:=by simp
 clear hbf
 go_wp2_with fail
 refine (HB5.out).mono ?_
 rintro e w2 ⟨rfl,hb⟩
 replace K0:=hZ (K0.out.keep hb)
 replace P5:=hZ (P5.out.keep hb)
 replace R5:=hZ (R5.out.keep hb)
 replace J5:=hZ (J5.out.below hb)
 replace KB:=hZ (chain KB.out hb)
 clear hb r0 HB5
 obtain⟨t0,t1,t2⟩:=R5.out.threeO
 go_wp2_with fail
 refine (alive19_any _).mono ?_
 rintro e w3 ⟨rfl,hb⟩
 replace R5:=hZ (R5.out.keep hb)
 replace KB:=hZ (chain KB.out hb)
 clear hb t0 t1 t2
 obtain⟨t0,t1,t2⟩:=R5.out.threeO
 go_wp2_with fail
 go_ret
 exact⟨rfl,KB.out⟩
set_option maxHeartbeats 8000000 in
theorem closes_yes (A1:Option Addr) (d1:Nat) (ps:List RawO) (id:Nat) (W:World) (ha:RcIn W A1 d1 ps) (hi:IdsO ps) (hid:id<18446744073709551616) (hr:rightR (fewRs ps)=true) (hn:isR (fewRs ps) id=true) (hc:¬ ((fewRs ps).getD (posR (fewRs ps) id) default).1.2.2=1) :
  Calls Tryz.prog 7 #[.agg #[.slice A1 ps.length d1],.int .u64 (id:Int)] W fun e w'=>e=.returned (.bool true)∧Below W.heap.size W w':=by
 have b1:Below W.heap.size W (W.alloc (.cells #[.slice A1 ps.length d1] 48)):=(Below.refl _ _).alloc (Nat.le_refl _) _
 have Q0:=hZ (Box.new W 48 #[.slice A1 ps.length d1])
 have HB:=hZ b1
 have H1:=hZ (few19_any A1 d1 ps _ ha.1 (Recs.below ha.2.1 b1) (OkDs.below ha.2.2 b1))
 have HDp:=hZ (fewRs_ok ha.2.2)
 have HI:=hZ (fewRs_ids hi)
 have HID:=hZ hid
 obtain⟨fp,hfp⟩:∃ y,y=fewRs ps:=⟨_,rfl⟩
 rw [← hfp] at H1 HDp HI hr hn hc
 have HR:=hZ hr
 have HBy:=hZ (fun wy A d (qs:List RawO) (hq:rightR qs=true) (h:RcIn wy A d qs)=>rcbytes_yes A d qs wy h.1 h.2.1 h.2.2 hq)
 have HDo:=hZ (fun wy A d (h:RcIn wy A d fp)=>rdo19_any A d fp (closeC id) wy h.1 h.2.1 h.2.2 HI.out (by show 0<18446744073709551616;decide))
 have hRt:=doR_right (closeC id) hr
 have hIds:=doR_ids (c:=closeC id) (ids_obs.1 HI.out) (by show 0<18446744073709551616;decide) HID.out
 rw [close_yes (c:=closeC id) rfl hr hn hc] at HDo hRt hIds
 have hpi:=posR_id hn
 have hob:openB ((fp.getD (posR fp id) default).1.1,(fp.getD (posR fp id) default).1.2.1,1)=0:=by unfold openB;rw [if_pos rfl]
 have hid9:(fp.getD (posR fp id) default).1.1=id:=hpi.2
 obtain⟨oc,hoc⟩:∃ y:ObR,y=((fp.getD (posR fp id) default).1.1,(fp.getD (posR fp id) default).1.2.1,1):=⟨_,rfl⟩
 have hoi:oc.1=id:=by rw [hoc];exact hid9
 have hoc1:oc.2.2=1:=by rw [hoc]
 rw [← hoc] at HDo hRt hIds hob
 obtain⟨ln,hln⟩:∃ y:Int,y=((fp.getD (posR fp id) default).1.2.1.2.2.2.length:Int):=⟨_,rfl⟩
 rw [← hln] at HDo
 have HLe:=hZ (bytes_with (os:=obsR fp) hob)
 have HLn:=hZ (with_len_in (ps:=fp) (o:=oc) ((rightR_iff fp).1 hr) (by rw [hoi];exact hn))
 have HRt:=hZ hRt
 have HIq:=hZ hIds
 have HOi:=hZ hoi
 have HOc:=hZ hoc1
 clear hr hn hc hpi hob hid9 hoc hoi hoc1 hln hRt hIds
 clear b1 ha hi hid hfp
 have r0:=Q0.out.cell 0
 go_enter Tryz.func7,Tryz.ntmps7
 go_wp2_with fail
 refine H1.out.mono ?_
 rintro e x1 ⟨A3,d3,rfl,hown,hb⟩
 have Q1:=hZ (Q0.out.keep hb)
 have HB1:=hZ (chain HB.out hb)
 have K0:=hZ (Q1.out.put 0 (.slice A3 fp.length d3))
 have HO:=own_far hown Q1.out (by decide) 0 (.slice A3 fp.length d3)
 have KB:=hZ (HB1.out.setCell (p:=⟨W.heap.size,0,none⟩) (Nat.le_refl _) (.slice A3 fp.length d3))
 have I3:=hZ (own_rcin HO HDp.out KB.out)
 have s0:=Q1.out.cell 0
 have f0:=Q1.out.free 0
 clear hown hb r0 Q0 HB HB1 HO H1 HDp
 go_upto_region 2 with (fail)
 obtain⟨wa,hwa⟩:∃ y,y=x1.setCell ⟨W.heap.size,0,none⟩ (.slice A3 fp.length d3):=⟨_,rfl⟩
 rw [← hwa] at K0 KB I3 ⊢
 clear hwa s0 f0 Q1
 have r0:=K0.out.cell 0
 go_wp2_with fail
 refine (HBy.out wa A3 d3 fp HR.out I3.out).mono ?_
 rintro e w1 ⟨rfl,hb⟩
 replace K0:=hZ (K0.out.keep hb)
 replace I3:=hZ (I3.out.below hb)
 replace KB:=hZ (chain KB.out hb)
 clear hb r0
 have r0:=K0.out.cell 0
 go_wp2_with fail
 refine (HDo.out w1 A3 d3 I3.out).mono ?_
 rintro e x5 ⟨q5,hq5,A5,e5,B5,c5,rfl,hs9,hx9,hd9,-,-,-,hb9⟩
 have bb:Below x5.heap.size x5 ((x5.alloc (.cells #[.slice A5 q5.length e5] 48)).alloc (.cells #[.int .i64 0,.int .i64 ln,.slice B5 0 c5] 36)):=((Below.refl _ _).alloc (Nat.le_refl _) _).alloc (by simp) _
 have hb:=chain hb9 bb
 have u1:=Box.new (x5.alloc (.cells #[.slice A5 q5.length e5] 48)) 36 #[.int .i64 0,.int .i64 ln,.slice B5 0 c5]
 simp only [World.size_alloc] at u1
 have P5:=hZ ((Box.new x5 48 #[.slice A5 q5.length e5]).alloc (.cells #[.int .i64 0,.int .i64 ln,.slice B5 0 c5] 36))
 have R5:=hZ u1
 have J5:=hZ (show RcIn ((x5.alloc (.cells #[.slice A5 q5.length e5] 48)).alloc (.cells #[.int .i64 0,.int .i64 ln,.slice B5 0 c5] 36)) A5 e5 q5 from ⟨hs9,Recs.below hx9 bb,OkDs.below hd9 bb⟩)
 have HQ5:=hZ hq5
 replace K0:=hZ (K0.out.keep hb)
 replace I3:=hZ (I3.out.below hb)
 replace KB:=hZ (chain KB.out hb)
 clear hb r0 bb hb9 u1 hs9 hx9 hd9 hq5
 obtain⟨g5,hg5⟩:∃ y,y=x5.heap.size:=⟨_,rfl⟩
 rw [← hg5] at P5 R5
 obtain⟨y5,hy5⟩:∃ y,y=(x5.alloc (.cells #[.slice A5 q5.length e5] 48)).alloc (.cells #[.int .i64 0,.int .i64 ln,.slice B5 0 c5] 36):=⟨_,rfl⟩
 rw [← hy5] at P5 R5 J5 KB K0 I3
 go_upto_region 4 with (fail)
 rw [← hg5,← hy5]
 clear hg5 hy5
 have HR5:=hZ (show rightR q5=true from (rightR_iff q5).2 (by rw [HQ5.out];exact HRt.out))
 have HI5:=hZ (show IdsO q5 from ids_obs.2 (by rw [HQ5.out];exact HIq.out))
 have hu:=at_uniq HR5.out (o:=oc) (by rw [HQ5.out];exact self_with _ _)
 rw [HOi.out] at hu
 have hcl:(q5.getD (posR q5 id) default).1.2.2=1:=by rw [hu.2];exact HOc.out
 have HD1:=hZ (fun wy (h:RcIn wy A5 e5 q5)=>rdo19_any A5 e5 q5 (closeC id) wy h.1 h.2.1 h.2.2 HI5.out (by show 0<18446744073709551616;decide))
 have HD2:=hZ (fun wy (h:RcIn wy A5 e5 q5)=>rdo19_any A5 e5 q5 (openC id) wy h.1 h.2.1 h.2.2 HI5.out (by show 0<18446744073709551616;decide))
 have HD3:=hZ (fun wy (h:RcIn wy A5 e5 q5)=>rdo19_any A5 e5 q5 (addC id) wy h.1 h.2.1 h.2.2 HI5.out (by show 0<18446744073709551616;decide))
 rw [close_none (c:=closeC id) rfl HR5.out (.inr hcl)] at HD1
 rw [open_there (c:=openC id) rfl HR5.out hu.1] at HD2
 rw [add_closed (c:=addC id) rfl HR5.out hcl hu.1] at HD3
 have hlq:q5.length=fp.length:=by rw [← obsR_len,HQ5.out];exact HLn.out
 have HB5:=hZ (HBy.out y5 A5 e5 q5 HR5.out J5.out)
 have hle:((bytesR (obsR q5):Nat):Int)≤((bytesR (obsR fp):Nat):Int):=by rw [HQ5.out];exact Int.ofNat_le.2 HLe.out
 obtain⟨bq,hbq⟩:∃ y,y=bytesR (obsR q5):=⟨_,rfl⟩
 obtain⟨bf,hbf⟩:∃ y,y=bytesR (obsR fp):=⟨_,rfl⟩
 rw [← hbq] at HB5 hle
 rw [← hbf] at hle ⊢
 rw [hlq] at P5 HB5 HD1 HD2 HD3
 have HLq:=hZ hlq
 have r0:=P5.out.cell 0
 clear hbf hbq hu hcl hlq
 go_wp2_with fail
 refine (HB5.out).mono ?_
 rintro e w2 ⟨rfl,hb⟩
 replace K0:=hZ (K0.out.keep hb)
 replace P5:=hZ (P5.out.keep hb)
 replace R5:=hZ (R5.out.keep hb)
 replace J5:=hZ (show RcIn w2 A5 e5 q5 from RcIn.below (by have:=J5.out;exact this) hb)
 replace KB:=hZ (chain KB.out hb)
 clear hb r0 HB5
 have r0:=P5.out.cell 0
 obtain⟨t0,t1,t2⟩:=R5.out.threeO
 go_wp2_with fail
 refine (HD1.out w2 J5.out).mono ?_
 rintro e x6 ⟨q6,hq6,A6,e6,B6,c6,rfl,hs9,hx9,hd9,-,-,-,hb9⟩
 have bb:Below x6.heap.size x6 ((x6.alloc (.cells #[.slice A6 q6.length e6] 48)).alloc (.cells #[.int .i64 6,.int .i64 0,.slice B6 0 c6] 36)):=((Below.refl _ _).alloc (Nat.le_refl _) _).alloc (by simp) _
 have hb:=chain hb9 bb
 have u1:=Box.new (x6.alloc (.cells #[.slice A6 q6.length e6] 48)) 36 #[.int .i64 6,.int .i64 0,.slice B6 0 c6]
 simp only [World.size_alloc] at u1
 have P6:=hZ ((Box.new x6 48 #[.slice A6 q6.length e6]).alloc (.cells #[.int .i64 6,.int .i64 0,.slice B6 0 c6] 36))
 have R6:=hZ u1
 have J6:=hZ (show RcIn ((x6.alloc (.cells #[.slice A6 q6.length e6] 48)).alloc (.cells #[.int .i64 6,.int .i64 0,.slice B6 0 c6] 36)) A6 e6 q6 from ⟨hs9,Recs.below hx9 bb,OkDs.below hd9 bb⟩)
 have HQ6:=hZ hq6
 replace K0:=hZ (K0.out.keep hb)
 replace P5:=hZ (P5.out.keep hb)
 replace J5:=hZ (J5.out.below hb)
 replace KB:=hZ (chain KB.out hb)
 clear hb r0 t0 t1 t2 bb hb9 u1 hs9 hx9 hd9 hq6
 obtain⟨g6,hg6⟩:∃ y,y=x6.heap.size:=⟨_,rfl⟩
 rw [← hg6] at P6 R6
 obtain⟨y6,hy6⟩:∃ y,y=(x6.alloc (.cells #[.slice A6 q6.length e6] 48)).alloc (.cells #[.int .i64 6,.int .i64 0,.slice B6 0 c6] 36):=⟨_,rfl⟩
 rw [← hy6] at P6 R6 J6 KB K0 P5 J5
 go_upto_region 10 with (fail)
 rw [← hg6,← hy6]
 clear hg6 hy6
 have r0:=P5.out.cell 0
 go_wp2_with fail
 refine (HD2.out y6 J5.out).mono ?_
 rintro e x7 ⟨q7,hq7,A7,e7,B7,c7,rfl,hs9,hx9,hd9,-,-,-,hb9⟩
 have bb:Below x7.heap.size x7 ((x7.alloc (.cells #[.slice A7 q7.length e7] 48)).alloc (.cells #[.int .i64 8,.int .i64 0,.slice B7 0 c7] 36)):=((Below.refl _ _).alloc (Nat.le_refl _) _).alloc (by simp) _
 have hb:=chain hb9 bb
 have u1:=Box.new (x7.alloc (.cells #[.slice A7 q7.length e7] 48)) 36 #[.int .i64 8,.int .i64 0,.slice B7 0 c7]
 simp only [World.size_alloc] at u1
 have P7:=hZ ((Box.new x7 48 #[.slice A7 q7.length e7]).alloc (.cells #[.int .i64 8,.int .i64 0,.slice B7 0 c7] 36))
 have R7:=hZ u1
 have J7:=hZ (show RcIn ((x7.alloc (.cells #[.slice A7 q7.length e7] 48)).alloc (.cells #[.int .i64 8,.int .i64 0,.slice B7 0 c7] 36)) A7 e7 q7 from ⟨hs9,Recs.below hx9 bb,OkDs.below hd9 bb⟩)
 have HQ7:=hZ hq7
 replace K0:=hZ (K0.out.keep hb)
 replace P5:=hZ (P5.out.keep hb)
 replace R6:=hZ (R6.out.keep hb)
 replace J5:=hZ (J5.out.below hb)
 replace KB:=hZ (chain KB.out hb)
 clear hb r0 bb hb9 u1 hs9 hx9 hd9 hq7
 obtain⟨g7,hg7⟩:∃ y,y=x7.heap.size:=⟨_,rfl⟩
 rw [← hg7] at P7 R7
 obtain⟨y7,hy7⟩:∃ y,y=(x7.alloc (.cells #[.slice A7 q7.length e7] 48)).alloc (.cells #[.int .i64 8,.int .i64 0,.slice B7 0 c7] 36):=⟨_,rfl⟩
 rw [← hy7] at P7 R7 J7 KB K0 P5 R6 J5
 go_upto_region 11 with (fail)
 rw [← hg7,← hy7]
 clear hg7 hy7
 have r0:=P5.out.cell 0
 go_wp2_with fail
 refine (HD3.out y7 J5.out).mono ?_
 rintro e x8 ⟨q8,hq8,A8,e8,B8,c8,rfl,hs9,hx9,hd9,-,-,-,hb9⟩
 have bb:Below x8.heap.size x8 ((x8.alloc (.cells #[.slice A8 q8.length e8] 48)).alloc (.cells #[.int .i64 6,.int .i64 0,.slice B8 0 c8] 36)):=((Below.refl _ _).alloc (Nat.le_refl _) _).alloc (by simp) _
 have hb:=chain hb9 bb
 have u1:=Box.new (x8.alloc (.cells #[.slice A8 q8.length e8] 48)) 36 #[.int .i64 6,.int .i64 0,.slice B8 0 c8]
 simp only [World.size_alloc] at u1
 have P8:=hZ ((Box.new x8 48 #[.slice A8 q8.length e8]).alloc (.cells #[.int .i64 6,.int .i64 0,.slice B8 0 c8] 36))
 have R8:=hZ u1
 have J8:=hZ (show RcIn ((x8.alloc (.cells #[.slice A8 q8.length e8] 48)).alloc (.cells #[.int .i64 6,.int .i64 0,.slice B8 0 c8] 36)) A8 e8 q8 from ⟨hs9,Recs.below hx9 bb,OkDs.below hd9 bb⟩)
 have HQ8:=hZ hq8
 replace K0:=hZ (K0.out.keep hb)
 replace P5:=hZ (P5.out.keep hb)
 replace R6:=hZ (R6.out.keep hb)
 replace R7:=hZ (R7.out.keep hb)
 replace J5:=hZ (J5.out.below hb)
 replace KB:=hZ (chain KB.out hb)
 clear hb r0 bb hb9 u1 hs9 hx9 hd9 hq8
 obtain⟨g8,hg8⟩:∃ y,y=x8.heap.size:=⟨_,rfl⟩
 rw [← hg8] at P8 R8
 obtain⟨y8,hy8⟩:∃ y,y=(x8.alloc (.cells #[.slice A8 q8.length e8] 48)).alloc (.cells #[.int .i64 6,.int .i64 0,.slice B8 0 c8] 36):=⟨_,rfl⟩
 rw [← hy8] at P8 R8 J8 KB K0 P5 R6 R7 J5
 go_upto_region 12 with (fail)
 rw [← hg8,← hy8]
 clear hg8 hy8
 go_wp2_with fail
 refine (alive19_any _).mono ?_
 rintro e w3 ⟨rfl,hb⟩
 replace K0:=hZ (K0.out.keep hb)
 replace P5:=hZ (P5.out.keep hb)
 replace R6:=hZ (R6.out.keep hb)
 replace R7:=hZ (R7.out.keep hb)
 replace R8:=hZ (R8.out.keep hb)
 replace KB:=hZ (chain KB.out hb)
 clear hb
 have r0:=P5.out.cell 0
 have s0:=K0.out.cell 0
 obtain⟨t0,t1,t2⟩:=R6.out.threeO
 obtain⟨u0,u1,u2⟩:=R7.out.threeO
 obtain⟨z0,z1,z2⟩:=R8.out.threeO
 go_wp2_with fail
 go_ret
 exact⟨rfl,KB.out⟩
theorem closes_any (A1:Option Addr) (d1:Nat) (ps:List RawO) (id:Nat) (W:World) (ha:RcIn W A1 d1 ps) (hi:IdsO ps) (hid:id<18446744073709551616) :
  Calls Tryz.prog 7 #[.agg #[.slice A1 ps.length d1],.int .u64 (id:Int)] W fun e w'=>e=.returned (.bool true)∧Below W.heap.size W w':=by
 cases hr:rightR (fewRs ps) with
 | false=>exact closes_bad A1 d1 ps id W ha hi hid hr
 | true=>
   cases hn:isR (fewRs ps) id with
   | false=>exact closes_none A1 d1 ps id W ha hi hid hr (.inl hn)
   | true=>
     by_cases hc:((fewRs ps).getD (posR (fewRs ps) id) default).1.2.2=1
     ·exact closes_none A1 d1 ps id W ha hi hid hr (.inr hc)
     ·exact closes_yes A1 d1 ps id W ha hi hid hr hn hc
end
end Go.Proofs.YtcikoaeiopbbbaaGreat
