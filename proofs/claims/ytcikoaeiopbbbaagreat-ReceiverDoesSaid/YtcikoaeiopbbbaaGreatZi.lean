/- Parts: RvR, RvT, RvU, RvX, ObL, ObM, ObN, ObO, RvV. -/
import Derived.Test.YtcikoaeiopbbbaaGreatZh
import Derived.RegionTactic
namespace Go.Proofs.YtcikoaeiopbbbaaGreat
set_option linter.unusedVariables false
set_option linter.unusedSimpArgs false
set_option linter.unusedSectionVars false
set_option maxHeartbeats 16000000
section
open Go.RowKit Go.Lib
set_option maxRecDepth 100000
theorem ropened_old (A:Option Addr) (cp:Nat) (ps:List RawO) (c:CallR) (i:Nat) (w:World) (hs:SliceOk A ps.length cp) (hx:Raws w A ps.length ps) (hd:OkDs w ps):Calls Tryz.prog 39 #[.agg #[.slice A ps.length cp],callV c,.int .i64 (i:Int),.bool true] w (RcO (obsR ps) (8,0,[]) w):=by
 obtain⟨q4,q5,q8,q9,b5⟩:=R4_gen #[.slice A ps.length cp] (callL c).toArray w
 have Q4:=hZ q4
 have Q5:=hZ q5
 have Q8:=hZ q8
 have Q9:=hZ q9
 have HB:=hZ b5
 have HX:=hZ (Recs.below hx b5)
 have HD:=hZ (OkDs.below hd b5)
 have r0:=Q4.out.cell 0
 obtain⟨v0,v1,v2,v3,v4,v5,v6⟩:=Q5.out.sevenO
 clear q4 q5 q8 q9 b5 hx hd
 go_enter Tryz.func39,Tryz.ntmps39
 go_wp2_with fail
 refine (rrefused_any A cp ps 8 _ hs HX.out HD.out).mono ?_
 rintro e w2 ⟨A2,d2,B2,c2,rfl,hs2,hx2,hd2,ht2,hc2,hm2,hb⟩
 have HX2:=hZ hx2
 have HD2:=hZ hd2
 have HT2:=hZ ht2
 have P8:=hZ (Q8.out.keep hb)
 have P9:=hZ (Q9.out.keep hb)
 have HB2:=hZ (chain HB.out hb)
 clear hb hx2 hd2 ht2 r0 v0 v1 v2 v3 v4 v5 v6 Q4 Q5 Q8 Q9 HX HD HB
 have f8:=P8.out.free 0
 have s8:=P8.out.cell 0
 have f90:=P9.out.free 0
 have f91:=P9.out.free 1
 have f92:=P9.out.free 2
 obtain⟨t0,t1,t2⟩:=P9.out.threeO
 go_wp2_with fail
 obtain⟨_,rfl,z1,z2,z3,z4,z5,z6⟩:=rc_store (B:=w.heap.size) (r:=((8,0,[]):ReplyR)) (d:=d2) (e:=c2) HB2.out P8.out P9.out (by omega) (by omega) (by omega) HX2.out HD2.out HT2.out
 refine close_two Tryz.results39 rfl rfl rfl z1 z2 Tryz.underlying48 Tryz.underlying36 rfl rfl (by kernel_rfl) (by kernel_rfl) ?_
 exact⟨ps,rfl,A2,d2,B2,c2,rfl,hs2,z3,z4,z5,hc2,hm2,z6⟩
theorem ropened_full (A:Option Addr) (cp:Nat) (ps:List RawO) (c:CallR) (i:Nat) (w:World) (hs:SliceOk A ps.length cp) (hx:Raws w A ps.length ps) (hd:OkDs w ps) (hl:ps.length=8):Calls Tryz.prog 39 #[.agg #[.slice A ps.length cp],callV c,.int .i64 (i:Int),.bool false] w (RcO (obsR ps) (7,0,[]) w):=by
 obtain⟨q4,q5,q8,q9,b5⟩:=R4_gen #[.slice A ps.length cp] (callL c).toArray w
 have Q4:=hZ q4
 have Q5:=hZ q5
 have Q8:=hZ q8
 have Q9:=hZ q9
 have HB:=hZ b5
 have HX:=hZ (Recs.below hx b5)
 have HD:=hZ (OkDs.below hd b5)
 have r0:=Q4.out.cell 0
 obtain⟨v0,v1,v2,v3,v4,v5,v6⟩:=Q5.out.sevenO
 have t8:((ps.length:Int)==8)=true:=by rw [hl];rfl
 clear hl
 clear q4 q5 q8 q9 b5 hx hd
 go_enter Tryz.func39,Tryz.ntmps39
 go_wp2_with fail
 refine (rrefused_any A cp ps 7 _ hs HX.out HD.out).mono ?_
 rintro e w2 ⟨A2,d2,B2,c2,rfl,hs2,hx2,hd2,ht2,hc2,hm2,hb⟩
 have HX2:=hZ hx2
 have HD2:=hZ hd2
 have HT2:=hZ ht2
 have P8:=hZ (Q8.out.keep hb)
 have P9:=hZ (Q9.out.keep hb)
 have HB2:=hZ (chain HB.out hb)
 clear hb hx2 hd2 ht2 r0 v0 v1 v2 v3 v4 v5 v6 Q4 Q5 Q8 Q9 HX HD HB
 have f8:=P8.out.free 0
 have s8:=P8.out.cell 0
 have f90:=P9.out.free 0
 have f91:=P9.out.free 1
 have f92:=P9.out.free 2
 obtain⟨t0,t1,t2⟩:=P9.out.threeO
 go_wp2_with fail
 obtain⟨_,rfl,z1,z2,z3,z4,z5,z6⟩:=rc_store (B:=w.heap.size) (r:=((7,0,[]):ReplyR)) (d:=d2) (e:=c2) HB2.out P8.out P9.out (by omega) (by omega) (by omega) HX2.out HD2.out HT2.out
 refine close_two Tryz.results39 rfl rfl rfl z1 z2 Tryz.underlying48 Tryz.underlying36 rfl rfl (by kernel_rfl) (by kernel_rfl) ?_
 exact⟨ps,rfl,A2,d2,B2,c2,rfl,hs2,z3,z4,z5,hc2,hm2,z6⟩
theorem ropened_bad (A:Option Addr) (cp:Nat) (ps:List RawO) (c:CallR) (i:Nat) (w:World) (hs:SliceOk A ps.length cp) (hx:Raws w A ps.length ps) (hd:OkDs w ps) (hl:¬ ps.length=8) (hw:¬ (openO c).2.1=0):Calls Tryz.prog 39 #[.agg #[.slice A ps.length cp],callV c,.int .i64 (i:Int),.bool false] w (RcO (obsR ps) ((openO c).2.1,0,[]) w):=by
 obtain⟨q4,q5,q8,q9,b5⟩:=R4_gen #[.slice A ps.length cp] (callL c).toArray w
 have Q4:=hZ q4
 have Q5:=hZ q5
 have Q8:=hZ q8
 have Q9:=hZ q9
 have HB:=hZ b5
 have HX:=hZ (Recs.below hx b5)
 have HD:=hZ (OkDs.below hd b5)
 have r0:=Q4.out.cell 0
 obtain⟨v0,v1,v2,v3,v4,v5,v6⟩:=Q5.out.sevenO
 have t8:((ps.length:Int)==8)=false:=by rw [beq_eq_false_iff_ne];omega
 have HO:=hZ (fun wy=>oopen_any c wy)
 obtain⟨oo,hoo⟩:∃ y,y=(openO c).1:=⟨_,rfl⟩
 obtain⟨rr,hrr⟩:∃ y,y=(openO c).2:=⟨_,rfl⟩
 rw [← hoo,← hrr] at HO
 rw [← hrr] at hw ⊢
 clear hoo hrr
 obtain⟨r1,r2,bl⟩:=rr
 replace hw:¬ r1=0:=hw
 have t9:(r1 != 0)=true:=by simpa using hw
 clear hl hw
 clear q4 q5 q8 q9 b5 hx hd
 go_enter Tryz.func39,Tryz.ntmps39
 go_wp2_with fail
 refine (HO.out _).mono ?_
 rintro e w1 ⟨A3,d3,B3,c3,rfl,hs3,hx3,ht3,hc3,hm3,hb⟩
 have b2:Below w1.heap.size w1 (w1.alloc (.cells (obA oo A3 d3) 27)):=(Below.refl _ _).alloc (Nat.le_refl _) _
 have b3:=b2.alloc b2.size (.cells #[.int .i64 r1,.int .i64 r2,.slice B3 bl.length c3] 36)
 have hbb:=chain hb b3
 replace Q4:=hZ (Q4.out.keep hbb)
 replace Q8:=hZ (Q8.out.keep hbb)
 replace Q9:=hZ (Q9.out.keep hbb)
 replace HX:=hZ (Recs.below HX.out hbb)
 replace HD:=hZ (OkDs.below HD.out hbb)
 replace HB:=hZ (chain HB.out hbb)
 clear hb b2 b3 hbb r0 v0 v1 v2 v3 v4 v5 v6 hs3 hx3 ht3 hc3 hm3 HO Q5
 have r0:=Q4.out.cell 0
 go_wp2_with fail
 refine (rrefused_any A cp ps r1 _ hs HX.out HD.out).mono ?_
 rintro e w2 ⟨A2,d2,B2,c2,rfl,hs2,hx2,hd2,ht2,hc2,hm2,hb⟩
 have HX2:=hZ hx2
 have HD2:=hZ hd2
 have HT2:=hZ ht2
 have P8:=hZ (Q8.out.keep hb)
 have P9:=hZ (Q9.out.keep hb)
 have HB2:=hZ (chain HB.out hb)
 clear hb hx2 hd2 ht2 r0 Q4 Q8 Q9 HX HD HB
 have f8:=P8.out.free 0
 have s8:=P8.out.cell 0
 have f90:=P9.out.free 0
 have f91:=P9.out.free 1
 have f92:=P9.out.free 2
 obtain⟨t0,t1,t2⟩:=P9.out.threeO
 go_wp2_with fail
 obtain⟨_,rfl,z1,z2,z3,z4,z5,z6⟩:=rc_store (B:=w.heap.size) (r:=((r1,0,[]):ReplyR)) (d:=d2) (e:=c2) HB2.out P8.out P9.out (by omega) (by omega) (by omega) HX2.out HD2.out HT2.out
 refine close_two Tryz.results39 rfl rfl rfl z1 z2 Tryz.underlying48 Tryz.underlying36 rfl rfl (by kernel_rfl) (by kernel_rfl) ?_
 exact⟨ps,rfl,A2,d2,B2,c2,rfl,hs2,z3,z4,z5,hc2,hm2,z6⟩
theorem ropened_yes (A:Option Addr) (cp:Nat) (ps:List RawO) (c:CallR) (i:Nat) (w:World) (hs:SliceOk A ps.length cp) (hx:Raws w A ps.length ps) (hd:OkDs w ps) (hr:rightR ps=true) (hl:¬ ps.length=8) (hn:isR ps c.2.1=false) (hpl:PlaceR ps c.2.1 i) (hw:(openO c).2.1=0):Calls Tryz.prog 39 #[.agg #[.slice A ps.length cp],callV c,.int .i64 (i:Int),.bool false] w (RcO (withO (obsR ps) (openO c).1) (openO c).2 w):=by
 obtain⟨q4,q5,q8,q9,b5⟩:=R4_gen #[.slice A ps.length cp] (callL c).toArray w
 have Q4:=hZ q4
 have Q5:=hZ q5
 have Q8:=hZ q8
 have Q9:=hZ q9
 have HB:=hZ b5
 have HX:=hZ (Recs.below hx b5)
 have HD:=hZ (OkDs.below hd b5)
 have r0:=Q4.out.cell 0
 obtain⟨v0,v1,v2,v3,v4,v5,v6⟩:=Q5.out.sevenO
 have t8:((ps.length:Int)==8)=false:=by rw [beq_eq_false_iff_ne];omega
 have hR8:ps.length≤8:=by have:=((rightR_iff ps).1 hr).1;rwa [obsR_len] at this
 have HL8:=hZ hR8
 have HPl:=hZ hpl.1
 have HO:=hZ (fun wy=>oopen_any c wy)
 have hok:=openO_ok c hw
 obtain⟨oo,hoo⟩:∃ y,y=(openO c).1:=⟨_,rfl⟩
 rw [hok.2.2.1,← hoo] at HO
 rw [hok.2.2.1,← hoo]
 have hid9:oo.1=c.2.1:=by rw [hoo];exact hok.1
 have HWi:=hZ (fun (A3:Option Addr) (d3:Nat)=>show obsR (insS6 ps i (oo,(A3,d3)))=withO (obsR ps) oo from ins_with (x:=(oo,(A3,d3))) (by show PlaceR ps oo.1 i;rw [hid9];exact hpl) (rise_of_right hr) (by show isR ps oo.1=false;rw [hid9];exact hn))
 have HClo:=hZ (fun (wx wy:World) (h:Below w.heap.size w wx) (hb:Below wx.heap.size wx wy)=>clone_objs A ps.length cp (ps.flatMap encRO) wy (fun e=>⟨(hs.2.2 e).1,(hs.2.2 e).2⟩) (by rw [flat_len encRO_len]) (Recs.news (Recs.below (Recs.below hx h) hb) encRO_len (by decide)) (fun u hu=>by obtain⟨q,-,hq⟩:=List.mem_flatMap.1 hu;exact encRO_one q u hq) (by omega))
 obtain⟨r2,hr2⟩:∃ y,y=c.2.2.1:=⟨_,rfl⟩
 rw [← hr2] at HO ⊢
 clear q4 q5 q8 q9 b5 hx hd hok hoo hr hl hn hpl hw hr2 hR8 hid9
 go_enter Tryz.func39,Tryz.ntmps39
 go_wp2_with fail
 refine (HO.out _).mono ?_
 rintro e w1 ⟨A3,d3,B3,c3,rfl,hs3,hx3,ht3,hc3,hm3,hb⟩
 have b2:Below w1.heap.size w1 (w1.alloc (.cells (obA oo A3 d3) 27)):=(Below.refl _ _).alloc (Nat.le_refl _) _
 have b3:=b2.alloc b2.size (.cells #[.int .i64 0,.int .i64 r2,.slice B3 0 c3] 36)
 have hbb:=chain hb b3
 have P4:=hZ (Q4.out.keep hbb)
 have P8:=hZ (Q8.out.keep hbb)
 have P9:=hZ (Q9.out.keep hbb)
 have HX1:=hZ (Recs.below HX.out hbb)
 have HD1:=hZ (OkDs.below HD.out hbb)
 have HB2:=hZ (chain HB.out hbb)
 have PO:=hZ ((Box.new w1 27 (obA oo A3 d3)).alloc (.cells #[.int .i64 0,.int .i64 r2,.slice B3 0 c3] 36))
 have pr:=Box.new (w1.alloc (.cells (obA oo A3 d3) 27)) 36 #[.int .i64 0,.int .i64 r2,.slice B3 0 c3]
 rw [World.size_alloc] at pr
 have PR:=hZ pr
 have HGG:=hZ (show w.heap.size+1+1+1<w1.heap.size from Nat.lt_of_lt_of_le Q9.out.lt hb.size)
 have HN:=hZ (show OkD ((w1.alloc (.cells (obA oo A3 d3) 27)).alloc (.cells #[.int .i64 0,.int .i64 r2,.slice B3 0 c3] 36)) (oo,(A3,d3)) from ⟨hs3,Recs.below hx3 b3⟩)
 have HC3:=hZ (show ([]:List ByteArray).length≤c3∧c3≤maxLen from ⟨hc3,hm3⟩)
 have hgg:=HGG.out
 replace HWi:=hZ (HWi.out A3 d3)
 have HCl:=hZ (fun wy hy=>HClo.out ((w1.alloc (.cells (obA oo A3 d3) 27)).alloc (.cells #[.int .i64 0,.int .i64 r2,.slice B3 0 c3] 36)) wy HB2.out hy)
 have HOk:=hZ (fun (y:World) (hy:Below ((w1.alloc (.cells (obA oo A3 d3) 27)).alloc (.cells #[.int .i64 0,.int .i64 r2,.slice B3 0 c3] 36)).heap.size ((w1.alloc (.cells (obA oo A3 d3) 27)).alloc (.cells #[.int .i64 0,.int .i64 r2,.slice B3 0 c3] 36)) y)=>show OkDs y (insS6 ps i (oo,(A3,d3))) from okds_mem fun p hp=>by
  rcases List.mem_append.1 hp with h | h
  ·exact (okds_of HD1.out p (List.mem_of_mem_take h)).below hy
  ·rcases List.mem_cons.1 h with rfl | h
   ·exact HN.out.below hy
   ·exact (okds_of HD1.out p (List.mem_of_mem_drop h)).below hy)
 clear hb b2 b3 hbb pr hs3 hx3 ht3 hc3 hm3 HO Q4 Q5 Q8 Q9 HX HD HB HX1 HClo r0 v0 v1 v2 v3 v4 v5 v6
 have r0:=P4.out.cell 0
 obtain⟨p0,p1,p2,p3,p4,p5⟩:=PO.out.sixO
 obtain⟨u0,u1,u2⟩:=PR.out.threeO
 go_upto_region 8 with (fail)
 obtain⟨W3,hW3⟩:∃ y,y=((w1.alloc (.cells (obA oo A3 d3) 27)).alloc (.cells #[.int .i64 0,.int .i64 r2,.slice B3 0 c3] 36)):=⟨_,rfl⟩
 rw [← hW3] at P4 P8 P9 PO PR HB2 HN HCl HOk HD1 r0 p0 p1 p2 p3 p4 p5 u0 u1 u2 ⊢
 clear hW3
 refine wp_heldK_bar [(2,(fun (w':World)=>w'.cell? ⟨w.heap.size,0,none⟩=some (.slice A ps.length cp))),(5,(fun (w':World)=>w'.cell? ⟨w1.heap.size,0,none⟩=some (.int .u64 (oo.1:Nat))∧w'.cell? ⟨w1.heap.size,1,none⟩=some (.int .i64 oo.2.1.1)∧w'.cell? ⟨w1.heap.size,2,none⟩=some (.int .i64 oo.2.1.2.1)∧w'.cell? ⟨w1.heap.size,3,none⟩=some (.int .i64 oo.2.1.2.2.1)∧w'.cell? ⟨w1.heap.size,4,none⟩=some (.slice A3 oo.2.1.2.2.2.length d3)∧w'.cell? ⟨w1.heap.size,5,none⟩=some (.int .i64 oo.2.2))),(10,(fun (w':World)=>w'.cell? ⟨w1.heap.size+1,0,none⟩=some (.int .i64 0)∧w'.cell? ⟨w1.heap.size+1,1,none⟩=some (.int .i64 r2)∧w'.cell? ⟨w1.heap.size+1,2,none⟩=some (.slice B3 0 c3)))] 11 (by kernel_rfl) (by decide) ?_
 have hS0:=(show (fun (w':World)=>w'.cell? ⟨w.heap.size,0,none⟩=some (.slice A ps.length cp)) W3.drew from P4.out.drew.cell 0)
 have hS1:=(show (fun (w':World)=>w'.cell? ⟨w1.heap.size,0,none⟩=some (.int .u64 (oo.1:Nat))∧w'.cell? ⟨w1.heap.size,1,none⟩=some (.int .i64 oo.2.1.1)∧w'.cell? ⟨w1.heap.size,2,none⟩=some (.int .i64 oo.2.1.2.1)∧w'.cell? ⟨w1.heap.size,3,none⟩=some (.int .i64 oo.2.1.2.2.1)∧w'.cell? ⟨w1.heap.size,4,none⟩=some (.slice A3 oo.2.1.2.2.2.length d3)∧w'.cell? ⟨w1.heap.size,5,none⟩=some (.int .i64 oo.2.2)) W3.drew from ⟨PO.out.drew.cell 0,PO.out.drew.cell 1,PO.out.drew.cell 2,PO.out.drew.cell 3,PO.out.drew.cell 4,PO.out.drew.cell 5⟩)
 have hS2:=(show (fun (w':World)=>w'.cell? ⟨w1.heap.size+1,0,none⟩=some (.int .i64 0)∧w'.cell? ⟨w1.heap.size+1,1,none⟩=some (.int .i64 r2)∧w'.cell? ⟨w1.heap.size+1,2,none⟩=some (.slice B3 0 c3)) W3.drew from ⟨PR.out.drew.cell 0,PR.out.drew.cell 1,PR.out.drew.cell 2⟩)
 refine headK_take (i:=0) (v:=?_) rfl (by kernel_rfl) (fun _ _ _ h=>h) (fun _ _ _ h=>passed_ready h.1) (Or.inl ⟨by rfl,?y1⟩) ⟨fun _=>hS0,fun _=>hS1,fun _=>hS2,trivial⟩ ?r1
 case y1=>intro w _;go_simp;try (with_reducible rfl)
 case r1=>
 try simp only [pZa,pZb,pZc,pZd]
 refine headK_load 0 2 _ rfl (i:=1) (v:=?_) rfl (by kernel_rfl) (fun _ _ _ h=>h) (fun _ _ _ h=>passed_ready h.1) (Or.inl ⟨by rfl,?y2⟩) ⟨fun _=>hS0,fun _=>hS1,fun _=>hS2,trivial⟩ ?r2
 case y2=>intro w hSw;(try dsimp only at hSw);go_simp;try (with_reducible rfl)
 case r2=>
 try simp only [pZa,pZb,pZc,pZd]
 refine headK_take (i:=3) (v:=?_) rfl (by kernel_rfl) (fun _ _ _ h=>h) (fun _ _ _ h=>passed_ready h.1) (Or.inl ⟨by rfl,?y3⟩) ⟨fun _=>hS0,fun _=>hS1,fun _=>hS2,trivial⟩ ?r3
 case y3=>intro w _;go_simp;try (with_reducible rfl)
 case r3=>
 try simp only [pZa,pZb,pZc,pZd]
 refine headK_load 1 5 _ rfl (i:=4) (v:=?_) rfl (by kernel_rfl) (fun _ _ _ h=>h) (fun _ _ _ h=>passed_ready h.1) (Or.inl ⟨by rfl,?y4⟩) ⟨fun _=>hS0,fun _=>hS1,fun _=>hS2,trivial⟩ ?r4
 case y4=>intro w hSw;(try dsimp only at hSw);obtain⟨hc0,hc1,hc2,hc3,hc4,hc5⟩:=hSw;go_simp;try (with_reducible rfl)
 case r4=>
 try simp only [pZa,pZb,pZc,pZd]
 refine headK_load 2 10 _ rfl (i:=8) (v:=?_) rfl (by kernel_rfl) (fun _ _ _ h=>h) (fun _ _ _ h=>passed_ready h.1) (Or.inl ⟨by rfl,?y5⟩) ⟨fun _=>hS0,fun _=>hS1,fun _=>hS2,trivial⟩ ?r5
 case y5=>intro w hSw;(try dsimp only at hSw);obtain⟨hc0,hc1,hc2⟩:=hSw;go_simp;try (with_reducible rfl)
 case r5=>
 try simp only [pZa,pZb,pZc,pZd]
 refine headK_two (i:=2) (j:=5) (by kernel_rfl) rfl rfl (fun K hK=>?_) (fun K hK=>?_)
 ·go_simp
  refine (HCl.out W3.drew (Below.refl _ _).drew).mono ?_
  rintro e x1 ⟨Ac,cc,rfl,hown,hb1⟩
  have BX1:=hZ (show Below W3.heap.size W3 x1 from chain ((Below.refl _ _).drew) hb1)
  have BX:=hZ (BX1.out.alloc BX1.out.size (.cells (obA oo A3 d3) 27))
  have HOw:=hZ (show (x1.alloc (.cells (obA oo A3 d3) 27)).ownsRow W3.heap.size 27 6 (.slice Ac ps.length cc) ps.length (ps.flatMap encRO) from World.ownsRow.alloc hown (.cells (obA oo A3 d3) 27))
  have hvb:(Value.slice Ac ps.length cc).ownBlock≠some x1.heap.size:=fun e=>by have:=(hown.lt _ e).2;omega
  have HIn:=insert_any6 W3.heap.size Ac ps.length cc i ps (oo,(A3,d3)) x1.heap.size (x1.alloc (.cells (obA oo A3 d3) 27)) HOw.out rfl (Box.new x1 _ _) hvb HPl.out (by have:=HL8.out;omega) BX.out.size
  have PO1:=hZ (PO.out.keep BX1.out)
  have PR1:=hZ (PR.out.keep BX1.out)
  have PR2:=hZ (PR.out.keep BX.out)
  clear hown hb1 hvb
  have hS1:=(show (fun (w':World)=>w'.cell? ⟨w1.heap.size,0,none⟩=some (.int .u64 (oo.1:Nat))∧w'.cell? ⟨w1.heap.size,1,none⟩=some (.int .i64 oo.2.1.1)∧w'.cell? ⟨w1.heap.size,2,none⟩=some (.int .i64 oo.2.1.2.1)∧w'.cell? ⟨w1.heap.size,3,none⟩=some (.int .i64 oo.2.1.2.2.1)∧w'.cell? ⟨w1.heap.size,4,none⟩=some (.slice A3 oo.2.1.2.2.2.length d3)∧w'.cell? ⟨w1.heap.size,5,none⟩=some (.int .i64 oo.2.2)) x1 from ⟨PO1.out.cell 0,PO1.out.cell 1,PO1.out.cell 2,PO1.out.cell 3,PO1.out.cell 4,PO1.out.cell 5⟩)
  have hS2:=(show (fun (w':World)=>w'.cell? ⟨w1.heap.size+1,0,none⟩=some (.int .i64 0)∧w'.cell? ⟨w1.heap.size+1,1,none⟩=some (.int .i64 r2)∧w'.cell? ⟨w1.heap.size+1,2,none⟩=some (.slice B3 0 c3)) x1 from ⟨PR1.out.cell 0,PR1.out.cell 1,PR1.out.cell 2⟩)
  refine hK.out _ _ ⟨nZ,fun _=>hS1,fun _=>hS2,trivial⟩ ?_
  clear hK K
  try simp only [pZa,pZb,pZc,pZd]
  refine headK_one (i:=5) (by kernel_rfl) rfl (fun K hK=>?_)
  go_simp
  have hS2:=(show (fun (w':World)=>w'.cell? ⟨w1.heap.size+1,0,none⟩=some (.int .i64 0)∧w'.cell? ⟨w1.heap.size+1,1,none⟩=some (.int .i64 r2)∧w'.cell? ⟨w1.heap.size+1,2,none⟩=some (.slice B3 0 c3)) (x1.alloc (.cells (obA oo A3 d3) 27)) from ⟨PR2.out.cell 0,PR2.out.cell 1,PR2.out.cell 2⟩)
  refine hK.out _ _ ⟨nZ,nZ,fun _=>hS2,trivial⟩ ?_
  clear hK K
  try simp only [pZa,pZb,pZc,pZd]
  refine headK_one (i:=6) (by kernel_rfl) rfl (fun K hK=>?_)
  go_simp
  refine HIn.mono ?_
  rintro e y ⟨A9,c9,rfl,ho9,hg9⟩
  have BY:=hZ (show Below W3.heap.size W3 y from (BX.out.grown hg9 BX.out.size (fun k hk=>Nat.le_trans (Nat.le_refl _) (HOw.out.lt k hk).1)))
  have R8:=hZ (P8.out.keep BY.out)
  have R9:=hZ (P9.out.keep BY.out)
  have RR:=hZ (PR.out.keep BY.out)
  have HO9:=hZ ho9
  clear ho9 hg9
  have f8:=R8.out.free 0
  have s8:=R8.out.cell 0
  have f90:=R9.out.free 0
  have f91:=R9.out.free 1
  have f92:=R9.out.free 2
  obtain⟨t0,t1,t2⟩:=R9.out.threeO
  have hS2:=(show (fun (w':World)=>w'.cell? ⟨w1.heap.size+1,0,none⟩=some (.int .i64 0)∧w'.cell? ⟨w1.heap.size+1,1,none⟩=some (.int .i64 r2)∧w'.cell? ⟨w1.heap.size+1,2,none⟩=some (.slice B3 0 c3)) y from ⟨RR.out.cell 0,RR.out.cell 1,RR.out.cell 2⟩)
  refine hK.out _ _ ⟨nZ,nZ,fun _=>hS2,trivial⟩ ?_
  clear hK K
  try simp only [pZa,pZb,pZc,pZd]
  refine headK_take (i:=7) (v:=?_) rfl (by kernel_rfl) (fun _ _ _ h=>h) (fun _ _ _ h=>passed_ready h.1) (Or.inl ⟨by rfl,?y6⟩) ⟨nZ,nZ,fun _=>hS2,trivial⟩ ?r6
  case y6=>intro w _;go_simp;try (with_reducible rfl)
  case r6=>
  try simp only [pZa,pZb,pZc,pZd]
  refine headK_one (i:=9) (by kernel_rfl) rfl (fun K hK=>?_)
  go_simp
  have RQ:=hZ (RR.out.far (p:=⟨w.heap.size+1+1,0,none⟩) (by have:=HGG.out;show w1.heap.size+1≠w.heap.size+1+1;omega) (.slice A9 (insS6 ps i (oo,(A3,d3))).length c9))
  have hS2:=(show (fun (w':World)=>w'.cell? ⟨w1.heap.size+1,0,none⟩=some (.int .i64 0)∧w'.cell? ⟨w1.heap.size+1,1,none⟩=some (.int .i64 r2)∧w'.cell? ⟨w1.heap.size+1,2,none⟩=some (.slice B3 0 c3)) (y.setCell ⟨w.heap.size+1+1,0,none⟩ (.slice A9 (insS6 ps i (oo,(A3,d3))).length c9)) from ⟨RQ.out.cell 0,RQ.out.cell 1,RQ.out.cell 2⟩)
  refine hK.out _ _ ⟨nZ,nZ,fun _=>hS2,trivial⟩ ?_
  clear hK K
  try simp only [pZa,pZb,pZc,pZd]
  refine headK_one (i:=10) (by kernel_rfl) rfl (fun K hK=>?_)
  go_simp
  refine hK.out _ _ ⟨nZ,nZ,nZ,trivial⟩ ?_
  clear hK K
  try simp only [pZa,pZb,pZc,pZd]
  refine⟨by kernel_rfl,?_⟩
  refine wpAny_done (by kernel_rfl) ?_ _
  go_wp2_with fail
  have hrc:=own_recs encRO_len HO9.out (by decide)
  have hsl:=own_cap6 HO9.out
  have hok:=HOk.out y BY.out
  obtain⟨_,rfl,z1,z2,z3,z4,z5,z6⟩:=rc_store (B:=w.heap.size) (r:=((0,r2,[]):ReplyR)) (d:=c9) (e:=c3) (HB2.out.trans (BY.out.mono HB2.out.size)) R8.out R9.out (by omega) (by omega) (by omega) hrc hok (show Texts y B3 0 [] from Texts.nil _ _)
  refine close_two Tryz.results39 rfl rfl rfl z1 z2 Tryz.underlying48 Tryz.underlying36 rfl rfl (by kernel_rfl) (by kernel_rfl) ?_
  exact⟨insS6 ps i (oo,(A3,d3)),HWi.out,A9,c9,B3,c3,rfl,hsl,z3,z4,z5,HC3.out.1,HC3.out.2,z6⟩
 ·go_simp
  have B1:=hZ (show Below W3.heap.size W3 (W3.drew.alloc (.cells (obA oo A3 d3) 27)) from ((Below.refl _ _).drew).alloc (Nat.le_refl _) _)
  have P41:=hZ (P4.out.keep B1.out)
  have PR1:=hZ (PR.out.keep B1.out)
  have hS0:=(show (fun (w':World)=>w'.cell? ⟨w.heap.size,0,none⟩=some (.slice A ps.length cp)) (W3.drew.alloc (.cells (obA oo A3 d3) 27)) from P41.out.cell 0)
  have hS2:=(show (fun (w':World)=>w'.cell? ⟨w1.heap.size+1,0,none⟩=some (.int .i64 0)∧w'.cell? ⟨w1.heap.size+1,1,none⟩=some (.int .i64 r2)∧w'.cell? ⟨w1.heap.size+1,2,none⟩=some (.slice B3 0 c3)) (W3.drew.alloc (.cells (obA oo A3 d3) 27)) from ⟨PR1.out.cell 0,PR1.out.cell 1,PR1.out.cell 2⟩)
  refine hK.out _ _ ⟨fun _=>hS0,nZ,fun _=>hS2,trivial⟩ ?_
  clear hK K
  try simp only [pZa,pZb,pZc,pZd]
  refine headK_one (i:=2) (by kernel_rfl) rfl (fun K hK=>?_)
  go_simp
  refine (HCl.out (W3.drew.alloc (.cells (obA oo A3 d3) 27)) B1.out).mono ?_
  rintro e x1 ⟨Ac,cc,rfl,hown,hb1⟩
  have BX:=hZ (show Below W3.heap.size W3 x1 from chain B1.out hb1)
  have hz:(W3.drew.alloc (.cells (obA oo A3 d3) 27)).heap.size=W3.heap.size+1:=World.size_alloc _ _
  rw [hz] at hown
  have HOw:=hZ hown
  have hvb:(Value.slice Ac ps.length cc).ownBlock≠some W3.heap.size:=fun e=>by have:=(hown.lt _ e).1;omega
  have HIn:=insert_any6 (W3.heap.size+1) Ac ps.length cc i ps (oo,(A3,d3)) W3.heap.size x1 HOw.out rfl (Box.keep (Box.new W3.drew 27 (obA oo A3 d3)) hb1) hvb HPl.out (by have:=HL8.out;omega) (by have:=hb1.size;rw [hz] at this;exact this)
  have PR2:=hZ (PR.out.keep BX.out)
  clear hown hb1 hvb hz
  have hS2:=(show (fun (w':World)=>w'.cell? ⟨w1.heap.size+1,0,none⟩=some (.int .i64 0)∧w'.cell? ⟨w1.heap.size+1,1,none⟩=some (.int .i64 r2)∧w'.cell? ⟨w1.heap.size+1,2,none⟩=some (.slice B3 0 c3)) x1 from ⟨PR2.out.cell 0,PR2.out.cell 1,PR2.out.cell 2⟩)
  refine hK.out _ _ ⟨nZ,nZ,fun _=>hS2,trivial⟩ ?_
  clear hK K
  try simp only [pZa,pZb,pZc,pZd]
  refine headK_one (i:=6) (by kernel_rfl) rfl (fun K hK=>?_)
  go_simp
  refine HIn.mono ?_
  rintro e y ⟨A9,c9,rfl,ho9,hg9⟩
  have BY:=hZ (show Below W3.heap.size W3 y from (BX.out.grown hg9 BX.out.size (fun k hk=>Nat.le_trans (Nat.le_succ _) (HOw.out.lt k hk).1)))
  have R8:=hZ (P8.out.keep BY.out)
  have R9:=hZ (P9.out.keep BY.out)
  have RR:=hZ (PR.out.keep BY.out)
  have HO9:=hZ ho9
  clear ho9 hg9
  have f8:=R8.out.free 0
  have s8:=R8.out.cell 0
  have f90:=R9.out.free 0
  have f91:=R9.out.free 1
  have f92:=R9.out.free 2
  obtain⟨t0,t1,t2⟩:=R9.out.threeO
  have hS2:=(show (fun (w':World)=>w'.cell? ⟨w1.heap.size+1,0,none⟩=some (.int .i64 0)∧w'.cell? ⟨w1.heap.size+1,1,none⟩=some (.int .i64 r2)∧w'.cell? ⟨w1.heap.size+1,2,none⟩=some (.slice B3 0 c3)) y from ⟨RR.out.cell 0,RR.out.cell 1,RR.out.cell 2⟩)
  refine hK.out _ _ ⟨nZ,nZ,fun _=>hS2,trivial⟩ ?_
  clear hK K
  try simp only [pZa,pZb,pZc,pZd]
  refine headK_take (i:=7) (v:=?_) rfl (by kernel_rfl) (fun _ _ _ h=>h) (fun _ _ _ h=>passed_ready h.1) (Or.inl ⟨by rfl,?y7⟩) ⟨nZ,nZ,fun _=>hS2,trivial⟩ ?r7
  case y7=>intro w _;go_simp;try (with_reducible rfl)
  case r7=>
  try simp only [pZa,pZb,pZc,pZd]
  refine headK_one (i:=9) (by kernel_rfl) rfl (fun K hK=>?_)
  go_simp
  have RQ:=hZ (RR.out.far (p:=⟨w.heap.size+1+1,0,none⟩) (by have:=HGG.out;show w1.heap.size+1≠w.heap.size+1+1;omega) (.slice A9 (insS6 ps i (oo,(A3,d3))).length c9))
  have hS2:=(show (fun (w':World)=>w'.cell? ⟨w1.heap.size+1,0,none⟩=some (.int .i64 0)∧w'.cell? ⟨w1.heap.size+1,1,none⟩=some (.int .i64 r2)∧w'.cell? ⟨w1.heap.size+1,2,none⟩=some (.slice B3 0 c3)) (y.setCell ⟨w.heap.size+1+1,0,none⟩ (.slice A9 (insS6 ps i (oo,(A3,d3))).length c9)) from ⟨RQ.out.cell 0,RQ.out.cell 1,RQ.out.cell 2⟩)
  refine hK.out _ _ ⟨nZ,nZ,fun _=>hS2,trivial⟩ ?_
  clear hK K
  try simp only [pZa,pZb,pZc,pZd]
  refine headK_one (i:=10) (by kernel_rfl) rfl (fun K hK=>?_)
  go_simp
  refine hK.out _ _ ⟨nZ,nZ,nZ,trivial⟩ ?_
  clear hK K
  try simp only [pZa,pZb,pZc,pZd]
  refine⟨by kernel_rfl,?_⟩
  refine wpAny_done (by kernel_rfl) ?_ _
  go_wp2_with fail
  have hrc:=own_recs encRO_len HO9.out (by decide)
  have hsl:=own_cap6 HO9.out
  have hok:=HOk.out y BY.out
  obtain⟨_,rfl,z1,z2,z3,z4,z5,z6⟩:=rc_store (B:=w.heap.size) (r:=((0,r2,[]):ReplyR)) (d:=c9) (e:=c3) (HB2.out.trans (BY.out.mono HB2.out.size)) R8.out R9.out (by omega) (by omega) (by omega) hrc hok (show Texts y B3 0 [] from Texts.nil _ _)
  refine close_two Tryz.results39 rfl rfl rfl z1 z2 Tryz.underlying48 Tryz.underlying36 rfl rfl (by kernel_rfl) (by kernel_rfl) ?_
  exact⟨insS6 ps i (oo,(A3,d3)),HWi.out,A9,c9,B3,c3,rfl,hsl,z3,z4,z5,HC3.out.1,HC3.out.2,z6⟩
theorem ropened_any (A:Option Addr) (cp:Nat) (ps:List RawO) (c:CallR) (i:Nat) (w:World) (hs:SliceOk A ps.length cp) (hx:Raws w A ps.length ps) (hd:OkDs w ps) (hr:rightR ps=true) (hpl:PlaceR ps c.2.1 i) (h0:c.1=0) :
  Calls Tryz.prog 39 #[.agg #[.slice A ps.length cp],callV c,.int .i64 (i:Int),.bool (isR ps c.2.1)] w (RcO (doR ps c).1 (doR ps c).2 w):=by
 unfold doR
 rw [if_pos ⟨hr,by omega,by omega⟩,if_pos h0]
 cases hn:isR ps c.2.1 with
 | true=>exact ropened_old A cp ps c i w hs hx hd
 | false=>
   rw [if_neg (by decide)]
   by_cases hl:ps.length=8
   ·rw [if_pos hl];exact ropened_full A cp ps c i w hs hx hd hl
   ·rw [if_neg hl]
    by_cases hw:(openO c).2.1=0
    ·rw [if_pos hw];exact ropened_yes A cp ps c i w hs hx hd hr hl hn hpl hw
    ·rw [if_neg hw];exact ropened_bad A cp ps c i w hs hx hd hl hw
end
section
open Go.RowKit Go.Lib
set_option maxRecDepth 100000
theorem rdo19_bad (A:Option Addr) (cp:Nat) (ps:List RawO) (c:CallR) (w:World) (hs:SliceOk A ps.length cp) (hx:Raws w A ps.length ps) (hd:OkDs w ps) (hr:rightR ps=false):Calls Tryz.prog 15 #[.agg #[.slice A ps.length cp],callV c] w (RcO (obsR ps) (1,0,[]) w):=by
 obtain⟨q4,q5,q8,q9,b5⟩:=R4_gen #[.slice A ps.length cp] (callL c).toArray w
 have Q4:=hZ q4
 have Q5:=hZ q5
 have Q8:=hZ q8
 have Q9:=hZ q9
 have HB:=hZ b5
 have HX:=hZ (Recs.below hx b5)
 have HD:=hZ (OkDs.below hd b5)
 have r0:=Q4.out.cell 0
 obtain⟨v0,v1,v2,v3,v4,v5,v6⟩:=Q5.out.sevenO
 have HR:=hZ (fun wy (hb:Below w.heap.size w wy)=>rcright_any (.agg #[.slice A ps.length cp]) ps wy ⟨A,cp,rfl,hs,Recs.below hx hb,OkDs.below hd hb⟩)
 rw [hr] at HR
 clear q4 q5 q8 q9 b5 hx hd
 go_enter Tryz.func15,Tryz.ntmps15
 go_wp2_with fail
 refine (HR.out _ HB.out).mono ?_
 rintro e w1 ⟨rfl,hb⟩
 replace Q4:=hZ (Q4.out.keep hb)
 replace Q5:=hZ (Q5.out.keep hb)
 replace Q8:=hZ (Q8.out.keep hb)
 replace Q9:=hZ (Q9.out.keep hb)
 replace HX:=hZ (Recs.below HX.out hb)
 replace HD:=hZ (OkDs.below HD.out hb)
 replace HB:=hZ (chain HB.out hb)
 clear hb r0 v0 v1 v2 v3 v4 v5 v6 HR
 have r0:=Q4.out.cell 0
 obtain⟨v0,v1,v2,v3,v4,v5,v6⟩:=Q5.out.sevenO
 go_wp2_with fail
 refine (rrefused_any A cp ps 1 _ hs HX.out HD.out).mono ?_
 rintro e y ⟨A2,d2,B2,c2,rfl,hs2,hx2,hd2,ht2,hc2,hm2,hb⟩
 have HX2:=hZ hx2
 have HD2:=hZ hd2
 have HT2:=hZ ht2
 have P8:=hZ (Q8.out.keep hb)
 have P9:=hZ (Q9.out.keep hb)
 have HB2:=hZ (chain HB.out hb)
 clear hb hx2 hd2 ht2 Q4 Q5 Q8 Q9 HX HD HB r0 v0 v1 v2 v3 v4 v5 v6
 have f8:=P8.out.free 0
 have s8:=P8.out.cell 0
 have f90:=P9.out.free 0
 have f91:=P9.out.free 1
 have f92:=P9.out.free 2
 obtain⟨t0,t1,t2⟩:=P9.out.threeO
 go_wp2_with fail
 obtain⟨_,rfl,z1,z2,z3,z4,z5,z6⟩:=rc_store (B:=w.heap.size) (r:=((1,0,[]):ReplyR)) (d:=d2) (e:=c2) HB2.out P8.out P9.out (by omega) (by omega) (by omega) HX2.out HD2.out HT2.out
 refine close_two Tryz.results15 rfl rfl rfl z1 z2 Tryz.underlying48 Tryz.underlying36 rfl rfl (by kernel_rfl) (by kernel_rfl) ?_
 exact⟨ps,rfl,A2,d2,B2,c2,rfl,hs2,z3,z4,z5,hc2,hm2,z6⟩
theorem rdo19_low (A:Option Addr) (cp:Nat) (ps:List RawO) (c:CallR) (w:World) (hs:SliceOk A ps.length cp) (hx:Raws w A ps.length ps) (hd:OkDs w ps) (hr:rightR ps=true) (h0:c.1<0):Calls Tryz.prog 15 #[.agg #[.slice A ps.length cp],callV c] w (RcO (obsR ps) (1,0,[]) w):=by
 obtain⟨q4,q5,q8,q9,b5⟩:=R4_gen #[.slice A ps.length cp] (callL c).toArray w
 have Q4:=hZ q4
 have Q5:=hZ q5
 have Q8:=hZ q8
 have Q9:=hZ q9
 have HB:=hZ b5
 have HX:=hZ (Recs.below hx b5)
 have HD:=hZ (OkDs.below hd b5)
 have r0:=Q4.out.cell 0
 obtain⟨v0,v1,v2,v3,v4,v5,v6⟩:=Q5.out.sevenO
 have HR:=hZ (fun wy (hb:Below w.heap.size w wy)=>rcright_any (.agg #[.slice A ps.length cp]) ps wy ⟨A,cp,rfl,hs,Recs.below hx hb,OkDs.below hd hb⟩)
 rw [hr] at HR
 have t1:decide (c.1<0)=true:=decide_eq_true h0
 clear q4 q5 q8 q9 b5 hx hd
 go_enter Tryz.func15,Tryz.ntmps15
 go_wp2_with fail
 refine (HR.out _ HB.out).mono ?_
 rintro e w1 ⟨rfl,hb⟩
 replace Q4:=hZ (Q4.out.keep hb)
 replace Q5:=hZ (Q5.out.keep hb)
 replace Q8:=hZ (Q8.out.keep hb)
 replace Q9:=hZ (Q9.out.keep hb)
 replace HX:=hZ (Recs.below HX.out hb)
 replace HD:=hZ (OkDs.below HD.out hb)
 replace HB:=hZ (chain HB.out hb)
 clear hb r0 v0 v1 v2 v3 v4 v5 v6 HR
 have r0:=Q4.out.cell 0
 obtain⟨v0,v1,v2,v3,v4,v5,v6⟩:=Q5.out.sevenO
 go_wp2_with fail
 refine (rrefused_any A cp ps 1 _ hs HX.out HD.out).mono ?_
 rintro e y ⟨A2,d2,B2,c2,rfl,hs2,hx2,hd2,ht2,hc2,hm2,hb⟩
 have HX2:=hZ hx2
 have HD2:=hZ hd2
 have HT2:=hZ ht2
 have P8:=hZ (Q8.out.keep hb)
 have P9:=hZ (Q9.out.keep hb)
 have HB2:=hZ (chain HB.out hb)
 clear hb hx2 hd2 ht2 Q4 Q5 Q8 Q9 HX HD HB r0 v0 v1 v2 v3 v4 v5 v6
 have f8:=P8.out.free 0
 have s8:=P8.out.cell 0
 have f90:=P9.out.free 0
 have f91:=P9.out.free 1
 have f92:=P9.out.free 2
 obtain⟨t0,t1,t2⟩:=P9.out.threeO
 go_wp2_with fail
 obtain⟨_,rfl,z1,z2,z3,z4,z5,z6⟩:=rc_store (B:=w.heap.size) (r:=((1,0,[]):ReplyR)) (d:=d2) (e:=c2) HB2.out P8.out P9.out (by omega) (by omega) (by omega) HX2.out HD2.out HT2.out
 refine close_two Tryz.results15 rfl rfl rfl z1 z2 Tryz.underlying48 Tryz.underlying36 rfl rfl (by kernel_rfl) (by kernel_rfl) ?_
 exact⟨ps,rfl,A2,d2,B2,c2,rfl,hs2,z3,z4,z5,hc2,hm2,z6⟩
theorem rdo19_high (A:Option Addr) (cp:Nat) (ps:List RawO) (c:CallR) (w:World) (hs:SliceOk A ps.length cp) (hx:Raws w A ps.length ps) (hd:OkDs w ps) (hr:rightR ps=true) (h0:5≤c.1):Calls Tryz.prog 15 #[.agg #[.slice A ps.length cp],callV c] w (RcO (obsR ps) (1,0,[]) w):=by
 obtain⟨q4,q5,q8,q9,b5⟩:=R4_gen #[.slice A ps.length cp] (callL c).toArray w
 have Q4:=hZ q4
 have Q5:=hZ q5
 have Q8:=hZ q8
 have Q9:=hZ q9
 have HB:=hZ b5
 have HX:=hZ (Recs.below hx b5)
 have HD:=hZ (OkDs.below hd b5)
 have r0:=Q4.out.cell 0
 obtain⟨v0,v1,v2,v3,v4,v5,v6⟩:=Q5.out.sevenO
 have HR:=hZ (fun wy (hb:Below w.heap.size w wy)=>rcright_any (.agg #[.slice A ps.length cp]) ps wy ⟨A,cp,rfl,hs,Recs.below hx hb,OkDs.below hd hb⟩)
 rw [hr] at HR
 have t1:¬ c.1<0:=by omega
 have t2:c.1≥5:=h0
 clear q4 q5 q8 q9 b5 hx hd
 go_enter Tryz.func15,Tryz.ntmps15
 go_wp2_with fail
 refine (HR.out _ HB.out).mono ?_
 rintro e w1 ⟨rfl,hb⟩
 replace Q4:=hZ (Q4.out.keep hb)
 replace Q5:=hZ (Q5.out.keep hb)
 replace Q8:=hZ (Q8.out.keep hb)
 replace Q9:=hZ (Q9.out.keep hb)
 replace HX:=hZ (Recs.below HX.out hb)
 replace HD:=hZ (OkDs.below HD.out hb)
 replace HB:=hZ (chain HB.out hb)
 clear hb r0 v0 v1 v2 v3 v4 v5 v6 HR
 have r0:=Q4.out.cell 0
 obtain⟨v0,v1,v2,v3,v4,v5,v6⟩:=Q5.out.sevenO
 go_wp2_with fail
 refine (rrefused_any A cp ps 1 _ hs HX.out HD.out).mono ?_
 rintro e y ⟨A2,d2,B2,c2,rfl,hs2,hx2,hd2,ht2,hc2,hm2,hb⟩
 have HX2:=hZ hx2
 have HD2:=hZ hd2
 have HT2:=hZ ht2
 have P8:=hZ (Q8.out.keep hb)
 have P9:=hZ (Q9.out.keep hb)
 have HB2:=hZ (chain HB.out hb)
 clear hb hx2 hd2 ht2 Q4 Q5 Q8 Q9 HX HD HB r0 v0 v1 v2 v3 v4 v5 v6
 have f8:=P8.out.free 0
 have s8:=P8.out.cell 0
 have f90:=P9.out.free 0
 have f91:=P9.out.free 1
 have f92:=P9.out.free 2
 obtain⟨t0,t1,t2⟩:=P9.out.threeO
 go_wp2_with fail
 obtain⟨_,rfl,z1,z2,z3,z4,z5,z6⟩:=rc_store (B:=w.heap.size) (r:=((1,0,[]):ReplyR)) (d:=d2) (e:=c2) HB2.out P8.out P9.out (by omega) (by omega) (by omega) HX2.out HD2.out HT2.out
 refine close_two Tryz.results15 rfl rfl rfl z1 z2 Tryz.underlying48 Tryz.underlying36 rfl rfl (by kernel_rfl) (by kernel_rfl) ?_
 exact⟨ps,rfl,A2,d2,B2,c2,rfl,hs2,z3,z4,z5,hc2,hm2,z6⟩
theorem rdo19_open (A:Option Addr) (cp:Nat) (ps:List RawO) (c:CallR) (w:World) (hs:SliceOk A ps.length cp) (hx:Raws w A ps.length ps) (hd:OkDs w ps) (hr:rightR ps=true) (h0:c.1=0):Calls Tryz.prog 15 #[.agg #[.slice A ps.length cp],callV c] w (RcO (doR ps c).1 (doR ps c).2 w):=by
 obtain⟨q4,q5,q8,q9,b5⟩:=R4_gen #[.slice A ps.length cp] (callL c).toArray w
 have Q4:=hZ q4
 have Q5:=hZ q5
 have Q8:=hZ q8
 have Q9:=hZ q9
 have HB:=hZ b5
 have HX:=hZ (Recs.below hx b5)
 have HD:=hZ (OkDs.below hd b5)
 have r0:=Q4.out.cell 0
 obtain⟨v0,v1,v2,v3,v4,v5,v6⟩:=Q5.out.sevenO
 have HR:=hZ (fun wy (hb:Below w.heap.size w wy)=>rcright_any (.agg #[.slice A ps.length cp]) ps wy ⟨A,cp,rfl,hs,Recs.below hx hb,OkDs.below hd hb⟩)
 have hrx:=(rightR_iff ps).1 hr
 have hl8:ps.length≤8:=by have:=hrx.1;rwa [obsR_len] at this
 have hri:=rise_of_right hr
 have HPl:=hZ (fun wy (hb:Below w.heap.size w wy)=>rplace_any (.agg #[.slice A ps.length cp]) ps c.2.1 wy ⟨A,cp,rfl,hs,Recs.below hx hb,OkDs.below hd hb⟩ hl8 hri)
 have HRr:=hZ hri
 rw [hr] at HR
 have t1:¬ c.1<0:=by omega
 have t2:¬ c.1≥5:=by omega
 clear hrx hri
 have t3:(c.1==0)=true:=by simpa using h0
 have H0:=hZ h0
 have HRt:=hZ hr
 obtain⟨rr,hrr⟩:∃ y,y=doR ps c:=⟨_,rfl⟩
 rw [← hrr]
 have HRR:=hZ hrr
 clear h0 hr hrr
 obtain⟨os,r1,r2,bl⟩:=rr
 clear q4 q5 q8 q9 b5 hx hd
 go_enter Tryz.func15,Tryz.ntmps15
 go_wp2_with fail
 refine (HR.out _ HB.out).mono ?_
 rintro e w1 ⟨rfl,hb⟩
 replace Q4:=hZ (Q4.out.keep hb)
 replace Q5:=hZ (Q5.out.keep hb)
 replace Q8:=hZ (Q8.out.keep hb)
 replace Q9:=hZ (Q9.out.keep hb)
 replace HX:=hZ (Recs.below HX.out hb)
 replace HD:=hZ (OkDs.below HD.out hb)
 replace HB:=hZ (chain HB.out hb)
 clear hb r0 v0 v1 v2 v3 v4 v5 v6 HR
 have r0:=Q4.out.cell 0
 obtain⟨v0,v1,v2,v3,v4,v5,v6⟩:=Q5.out.sevenO
 go_wp2_with fail
 refine (HPl.out _ HB.out).mono ?_
 rintro e w2 ⟨i,rfl,hpl,hb⟩
 have HPc:=hZ hpl
 replace Q4:=hZ (Q4.out.keep hb)
 replace Q5:=hZ (Q5.out.keep hb)
 replace Q8:=hZ (Q8.out.keep hb)
 replace Q9:=hZ (Q9.out.keep hb)
 replace HX:=hZ (Recs.below HX.out hb)
 replace HD:=hZ (OkDs.below HD.out hb)
 replace HB:=hZ (chain HB.out hb)
 clear hb hpl r0 v0 v1 v2 v3 v4 v5 v6 HPl
 have r0:=Q4.out.cell 0
 obtain⟨v0,v1,v2,v3,v4,v5,v6⟩:=Q5.out.sevenO
 have HOp:=hZ (ropened_any A cp ps c i w2 hs HX.out HD.out HRt.out HPc.out H0.out)
 rw [← HRR.out] at HOp
 generalize isR ps c.2.1=fb at *
 go_wp2_with fail
 refine HOp.out.mono ?_
 rintro e y ⟨qs,hqs,A2,d2,B2,c2,rfl,hs2,hx2,hd2,ht2,hc2,hm2,hb⟩
 have HX2:=hZ hx2
 have HD2:=hZ hd2
 have HT2:=hZ ht2
 have P8:=hZ (Q8.out.keep hb)
 have P9:=hZ (Q9.out.keep hb)
 have HB2:=hZ (chain HB.out hb)
 clear hb hx2 hd2 ht2 Q4 Q5 Q8 Q9 HX HD HB r0 v0 v1 v2 v3 v4 v5 v6 HOp
 have f8:=P8.out.free 0
 have s8:=P8.out.cell 0
 have f90:=P9.out.free 0
 have f91:=P9.out.free 1
 have f92:=P9.out.free 2
 obtain⟨t0,t1,t2⟩:=P9.out.threeO
 go_wp2_with fail
 obtain⟨_,rfl,z1,z2,z3,z4,z5,z6⟩:=rc_store (B:=w.heap.size) (r:=((r1,r2,bl):ReplyR)) (d:=d2) (e:=c2) HB2.out P8.out P9.out (by omega) (by omega) (by omega) HX2.out HD2.out HT2.out
 refine close_two Tryz.results15 rfl rfl rfl z1 z2 Tryz.underlying48 Tryz.underlying36 rfl rfl (by kernel_rfl) (by kernel_rfl) ?_
 exact⟨qs,hqs,A2,d2,B2,c2,rfl,hs2,z3,z4,z5,hc2,hm2,z6⟩
theorem rdo19_none (A:Option Addr) (cp:Nat) (ps:List RawO) (c:CallR) (w:World) (hs:SliceOk A ps.length cp) (hx:Raws w A ps.length ps) (hd:OkDs w ps) (hr:rightR ps=true) (h0:0<c.1) (h4:c.1≤4) (hn:isR ps c.2.1=false):Calls Tryz.prog 15 #[.agg #[.slice A ps.length cp],callV c] w (RcO (obsR ps) (6,0,[]) w):=by
 obtain⟨q4,q5,q8,q9,b5⟩:=R4_gen #[.slice A ps.length cp] (callL c).toArray w
 have Q4:=hZ q4
 have Q5:=hZ q5
 have Q8:=hZ q8
 have Q9:=hZ q9
 have HB:=hZ b5
 have HX:=hZ (Recs.below hx b5)
 have HD:=hZ (OkDs.below hd b5)
 have r0:=Q4.out.cell 0
 obtain⟨v0,v1,v2,v3,v4,v5,v6⟩:=Q5.out.sevenO
 have HR:=hZ (fun wy (hb:Below w.heap.size w wy)=>rcright_any (.agg #[.slice A ps.length cp]) ps wy ⟨A,cp,rfl,hs,Recs.below hx hb,OkDs.below hd hb⟩)
 have hrx:=(rightR_iff ps).1 hr
 have hl8:ps.length≤8:=by have:=hrx.1;rwa [obsR_len] at this
 have hri:=rise_of_right hr
 have HPl:=hZ (fun wy (hb:Below w.heap.size w wy)=>rplace_any (.agg #[.slice A ps.length cp]) ps c.2.1 wy ⟨A,cp,rfl,hs,Recs.below hx hb,OkDs.below hd hb⟩ hl8 hri)
 have HRr:=hZ hri
 rw [hr] at HR
 have t1:¬ c.1<0:=by omega
 have t2:¬ c.1≥5:=by omega
 clear hrx hri
 have t3:(c.1==0)=false:=by rw [beq_eq_false_iff_ne];omega
 unfold FindR at HPl
 rw [hn] at HPl
 clear hn h0 h4
 clear q4 q5 q8 q9 b5 hx hd
 go_enter Tryz.func15,Tryz.ntmps15
 go_wp2_with fail
 refine (HR.out _ HB.out).mono ?_
 rintro e w1 ⟨rfl,hb⟩
 replace Q4:=hZ (Q4.out.keep hb)
 replace Q5:=hZ (Q5.out.keep hb)
 replace Q8:=hZ (Q8.out.keep hb)
 replace Q9:=hZ (Q9.out.keep hb)
 replace HX:=hZ (Recs.below HX.out hb)
 replace HD:=hZ (OkDs.below HD.out hb)
 replace HB:=hZ (chain HB.out hb)
 clear hb r0 v0 v1 v2 v3 v4 v5 v6 HR
 have r0:=Q4.out.cell 0
 obtain⟨v0,v1,v2,v3,v4,v5,v6⟩:=Q5.out.sevenO
 go_wp2_with fail
 refine (HPl.out _ HB.out).mono ?_
 rintro e w2 ⟨i,rfl,hpl,hb⟩
 have HPc:=hZ hpl
 replace Q4:=hZ (Q4.out.keep hb)
 replace Q5:=hZ (Q5.out.keep hb)
 replace Q8:=hZ (Q8.out.keep hb)
 replace Q9:=hZ (Q9.out.keep hb)
 replace HX:=hZ (Recs.below HX.out hb)
 replace HD:=hZ (OkDs.below HD.out hb)
 replace HB:=hZ (chain HB.out hb)
 clear hb hpl r0 v0 v1 v2 v3 v4 v5 v6 HPl
 have r0:=Q4.out.cell 0
 obtain⟨v0,v1,v2,v3,v4,v5,v6⟩:=Q5.out.sevenO
 go_wp2_with fail
 refine (rrefused_any A cp ps 6 _ hs HX.out HD.out).mono ?_
 rintro e y ⟨A2,d2,B2,c2,rfl,hs2,hx2,hd2,ht2,hc2,hm2,hb⟩
 have HX2:=hZ hx2
 have HD2:=hZ hd2
 have HT2:=hZ ht2
 have P8:=hZ (Q8.out.keep hb)
 have P9:=hZ (Q9.out.keep hb)
 have HB2:=hZ (chain HB.out hb)
 clear hb hx2 hd2 ht2 Q4 Q5 Q8 Q9 HX HD HB r0 v0 v1 v2 v3 v4 v5 v6
 have f8:=P8.out.free 0
 have s8:=P8.out.cell 0
 have f90:=P9.out.free 0
 have f91:=P9.out.free 1
 have f92:=P9.out.free 2
 obtain⟨t0,t1,t2⟩:=P9.out.threeO
 go_wp2_with fail
 obtain⟨_,rfl,z1,z2,z3,z4,z5,z6⟩:=rc_store (B:=w.heap.size) (r:=((6,0,[]):ReplyR)) (d:=d2) (e:=c2) HB2.out P8.out P9.out (by omega) (by omega) (by omega) HX2.out HD2.out HT2.out
 refine close_two Tryz.results15 rfl rfl rfl z1 z2 Tryz.underlying48 Tryz.underlying36 rfl rfl (by kernel_rfl) (by kernel_rfl) ?_
 exact⟨ps,rfl,A2,d2,B2,c2,rfl,hs2,z3,z4,z5,hc2,hm2,z6⟩
theorem rdo19_there (A:Option Addr) (cp:Nat) (ps:List RawO) (c:CallR) (w:World) (hs:SliceOk A ps.length cp) (hx:Raws w A ps.length ps) (hd:OkDs w ps) (hids:IdsO ps) (hci:c.2.2.2.2.2.1<18446744073709551616) (hr:rightR ps=true) (h0:0<c.1) (h4:c.1≤4) (hn:isR ps c.2.1=true):Calls Tryz.prog 15 #[.agg #[.slice A ps.length cp],callV c] w (RcO (calledR (obsR ps) (ps.getD (posR ps c.2.1) default).1 c).1 (calledR (obsR ps) (ps.getD (posR ps c.2.1) default).1 c).2 w):=by
 have hpi:=posR_id hn
 obtain⟨q4,q5,q8,q9,b5⟩:=R4_gen #[.slice A ps.length cp] (callL c).toArray w
 have Q4:=hZ q4
 have Q5:=hZ q5
 have Q8:=hZ q8
 have Q9:=hZ q9
 have HB:=hZ b5
 have HX:=hZ (Recs.below hx b5)
 have HD:=hZ (OkDs.below hd b5)
 have r0:=Q4.out.cell 0
 obtain⟨v0,v1,v2,v3,v4,v5,v6⟩:=Q5.out.sevenO
 have HR:=hZ (fun wy (hb:Below w.heap.size w wy)=>rcright_any (.agg #[.slice A ps.length cp]) ps wy ⟨A,cp,rfl,hs,Recs.below hx hb,OkDs.below hd hb⟩)
 have hrx:=(rightR_iff ps).1 hr
 have hl8:ps.length≤8:=by have:=hrx.1;rwa [obsR_len] at this
 have hri:=rise_of_right hr
 have HPl:=hZ (fun wy (hb:Below w.heap.size w wy)=>rplace_any (.agg #[.slice A ps.length cp]) ps c.2.1 wy ⟨A,cp,rfl,hs,Recs.below hx hb,OkDs.below hd hb⟩ hl8 hri)
 have HRr:=hZ hri
 rw [hr] at HR
 have t1:¬ c.1<0:=by omega
 have t2:¬ c.1≥5:=by omega
 clear hrx hri
 have t3:(c.1==0)=false:=by rw [beq_eq_false_iff_ne];omega
 have HPs:=hZ (fun i (h:PlaceR ps c.2.1 i)=>place_pos h HRr.out hn)
 unfold FindR at HPl
 rw [hn] at HPl
 have HCa:=hZ (fun wy (hb:Below w.heap.size w wy)=>rcalled_any A cp ps c (posR ps c.2.1) wy hs (Recs.below hx hb) (OkDs.below hd hb) hids hci hr hpi.1 hpi.2)
 obtain⟨rr,hrr⟩:∃ y,y=calledR (obsR ps) (ps.getD (posR ps c.2.1) default).1 c:=⟨_,rfl⟩
 rw [← hrr] at HCa ⊢
 clear hn h0 h4 hids hci hpi hr hrr
 obtain⟨os,r1,r2,bl⟩:=rr
 clear q4 q5 q8 q9 b5 hx hd
 go_enter Tryz.func15,Tryz.ntmps15
 go_wp2_with fail
 refine (HR.out _ HB.out).mono ?_
 rintro e w1 ⟨rfl,hb⟩
 replace Q4:=hZ (Q4.out.keep hb)
 replace Q5:=hZ (Q5.out.keep hb)
 replace Q8:=hZ (Q8.out.keep hb)
 replace Q9:=hZ (Q9.out.keep hb)
 replace HX:=hZ (Recs.below HX.out hb)
 replace HD:=hZ (OkDs.below HD.out hb)
 replace HB:=hZ (chain HB.out hb)
 clear hb r0 v0 v1 v2 v3 v4 v5 v6 HR
 have r0:=Q4.out.cell 0
 obtain⟨v0,v1,v2,v3,v4,v5,v6⟩:=Q5.out.sevenO
 go_wp2_with fail
 refine (HPl.out _ HB.out).mono ?_
 rintro e w2 ⟨i,rfl,hpl,hb⟩
 have HPc:=hZ hpl
 replace Q4:=hZ (Q4.out.keep hb)
 replace Q5:=hZ (Q5.out.keep hb)
 replace Q8:=hZ (Q8.out.keep hb)
 replace Q9:=hZ (Q9.out.keep hb)
 replace HX:=hZ (Recs.below HX.out hb)
 replace HD:=hZ (OkDs.below HD.out hb)
 replace HB:=hZ (chain HB.out hb)
 clear hb hpl r0 v0 v1 v2 v3 v4 v5 v6 HPl
 have r0:=Q4.out.cell 0
 obtain⟨v0,v1,v2,v3,v4,v5,v6⟩:=Q5.out.sevenO
 have e9:=HPs.out i HPc.out
 rw [e9] at HCa
 clear e9
 go_wp2_with fail
 refine (HCa.out _ HB.out).mono ?_
 rintro e y ⟨qs,hqs,A2,d2,B2,c2,rfl,hs2,hx2,hd2,ht2,hc2,hm2,hb⟩
 have HX2:=hZ hx2
 have HD2:=hZ hd2
 have HT2:=hZ ht2
 have P8:=hZ (Q8.out.keep hb)
 have P9:=hZ (Q9.out.keep hb)
 have HB2:=hZ (chain HB.out hb)
 clear hb hx2 hd2 ht2 Q4 Q5 Q8 Q9 HX HD HB r0 v0 v1 v2 v3 v4 v5 v6 HCa
 have f8:=P8.out.free 0
 have s8:=P8.out.cell 0
 have f90:=P9.out.free 0
 have f91:=P9.out.free 1
 have f92:=P9.out.free 2
 obtain⟨t0,t1,t2⟩:=P9.out.threeO
 go_wp2_with fail
 obtain⟨_,rfl,z1,z2,z3,z4,z5,z6⟩:=rc_store (B:=w.heap.size) (r:=((r1,r2,bl):ReplyR)) (d:=d2) (e:=c2) HB2.out P8.out P9.out (by omega) (by omega) (by omega) HX2.out HD2.out HT2.out
 refine close_two Tryz.results15 rfl rfl rfl z1 z2 Tryz.underlying48 Tryz.underlying36 rfl rfl (by kernel_rfl) (by kernel_rfl) ?_
 exact⟨qs,hqs,A2,d2,B2,c2,rfl,hs2,z3,z4,z5,hc2,hm2,z6⟩
theorem rdo19_any (A:Option Addr) (cp:Nat) (ps:List RawO) (c:CallR) (w:World) (hs:SliceOk A ps.length cp) (hx:Raws w A ps.length ps) (hd:OkDs w ps) (hids:IdsO ps) (hci:c.2.2.2.2.2.1<18446744073709551616):Calls Tryz.prog 15 #[.agg #[.slice A ps.length cp],callV c] w (RcO (doR ps c).1 (doR ps c).2 w):=by
 cases hr:rightR ps with
 | false=>
   have HE:doR ps c=(obsR ps,(1,0,[])):=by unfold doR;rw [if_neg (fun h=>by rw [hr] at h;cases h.1)]
   rw [HE];exact rdo19_bad A cp ps c w hs hx hd hr
 | true=>
   by_cases h1:c.1<0
   ·have HE:doR ps c=(obsR ps,(1,0,[])):=by unfold doR;rw [if_neg (fun h=>by omega)]
    rw [HE];exact rdo19_low A cp ps c w hs hx hd hr h1
   ·by_cases h2:5≤c.1
    ·have HE:doR ps c=(obsR ps,(1,0,[])):=by unfold doR;rw [if_neg (fun h=>by omega)]
     rw [HE];exact rdo19_high A cp ps c w hs hx hd hr h2
    ·by_cases h0:c.1=0
     ·exact rdo19_open A cp ps c w hs hx hd hr h0
     ·cases hn:isR ps c.2.1 with
      | false=>
        have HE:doR ps c=(obsR ps,(6,0,[])):=by unfold doR;rw [if_pos ⟨hr,by omega,by omega⟩,if_neg h0,hn];rfl
        rw [HE];exact rdo19_none A cp ps c w hs hx hd hr (by omega) (by omega) hn
      | true=>
        have HE:doR ps c=calledR (obsR ps) (ps.getD (posR ps c.2.1) default).1 c:=by unfold doR calledR;rw [if_pos ⟨hr,by omega,by omega⟩,if_neg h0,if_pos hn]
        rw [HE];exact rdo19_there A cp ps c w hs hx hd hids hci hr (by omega) (by omega) hn
end
section
open Go.RowKit Go.Lib
set_option maxRecDepth 100000
def rf1 (xs:List RawO) (d:RawO) (i:Nat):List RawO:=(xs.take i).filter fun y=>decide (y.1.1<d.1.1)
def rf2 (xs:List RawO) (d:RawO) (i:Nat):List RawO:=(xs.filter (fun y=>decide (y.1.1<d.1.1))++[d])++(xs.take i).filter fun y=>decide (d.1.1<y.1.1)
def rfW (xs:List RawO) (d:RawO):List RawO:=xs.filter (fun y=>decide (y.1.1<d.1.1))++d::xs.filter (fun y=>decide (d.1.1<y.1.1))
theorem rf1_yes (xs:List RawO) (d:RawO) (i:Nat) (hi:i<xs.length) (h:(xs.getD i default).1.1<d.1.1):rf1 xs d (i+1)=rf1 xs d i++[xs.getD i default]:=by
 unfold rf1;rw [take_snocD xs i hi,List.filter_append,List.filter_cons_of_pos (by simpa using h)];rfl
theorem rf1_no (xs:List RawO) (d:RawO) (i:Nat) (hi:i<xs.length) (h:¬ (xs.getD i default).1.1<d.1.1):rf1 xs d (i+1)=rf1 xs d i:=by
 unfold rf1;rw [take_snocD xs i hi,List.filter_append,List.filter_cons_of_neg (by simpa using h)];exact List.append_nil _
theorem rf2_yes (xs:List RawO) (d:RawO) (i:Nat) (hi:i<xs.length) (h:d.1.1<(xs.getD i default).1.1):rf2 xs d (i+1)=rf2 xs d i++[xs.getD i default]:=by
 unfold rf2;rw [take_snocD xs i hi,List.filter_append,List.filter_cons_of_pos (by simpa using h)];simp
theorem rf2_no (xs:List RawO) (d:RawO) (i:Nat) (hi:i<xs.length) (h:¬ d.1.1<(xs.getD i default).1.1):rf2 xs d (i+1)=rf2 xs d i:=by
 unfold rf2;rw [take_snocD xs i hi,List.filter_append,List.filter_cons_of_neg (by simpa using h)];simp
theorem rf1_len (xs:List RawO) (d:RawO) (i:Nat):(rf1 xs d i).length≤i:=by
 have h1:=List.length_filter_le (fun y:RawO=>decide (y.1.1<d.1.1)) (xs.take i)
 have h2:(xs.take i).length≤i:=by rw [List.length_take];omega
 unfold rf1;omega
theorem rf2_len (xs:List RawO) (d:RawO) (i:Nat):(rf2 xs d i).length≤xs.length+1+i:=by
 have h1:=List.length_filter_le (fun y:RawO=>decide (d.1.1<y.1.1)) (xs.take i)
 have h2:(xs.take i).length≤i:=by rw [List.length_take];omega
 have h3:=List.length_filter_le (fun y:RawO=>decide (y.1.1<d.1.1)) xs
 unfold rf2;rw [List.length_append,List.length_append,List.length_cons,List.length_nil];omega
theorem rf1_all (xs:List RawO) (d:RawO) (l:Nat) (hl:xs.length=l):rf1 xs d l++[d]=rf2 xs d 0:=by
 unfold rf1 rf2;rw [List.take_of_length_le (by omega)];simp
theorem rf2_all (xs:List RawO) (d:RawO) (l:Nat) (hl:xs.length=l):rf2 xs d l=rfW xs d:=by
 unfold rf2 rfW;rw [List.take_of_length_le (by omega)];simp
theorem rfW_obs (xs:List RawO) (d:RawO):obsR (rfW xs d)=withO (obsR xs) d.1:=by
 have h:∀ (p:Nat→Bool) (l:List RawO),obsR (l.filter fun y=>p y.1.1)=(obsR l).filter fun y=>p y.1:=by
  intro p l
  induction l with
  | nil=>rfl
  | cons a l ih=>
    unfold obsR at ih ⊢
    rw [List.map_cons,List.filter_cons,List.filter_cons]
    by_cases q:p a.1.1=true
    ·rw [if_pos q,if_pos q,List.map_cons,ih]
    ·rw [if_neg q,if_neg q,ih]
 unfold rfW withO obsR
 rw [List.map_append,List.map_cons]
 have h1:=h (fun k=>decide (k<d.1.1)) xs
 have h2:=h (fun k=>decide (d.1.1<k)) xs
 unfold obsR at h1 h2
 rw [h1,h2]
abbrev cZ9:Array Value:=#[.slice none 0 0]
theorem RW4_gen (a c:Array Value) (w:World):∃ W,W=(((w.alloc (.cells a 48)).alloc (.cells c 27)).alloc (.cells #[.slice none 0 0] 48)).alloc (.cells #[.slice none 0 0] 48)∧Box W w.heap.size 48 a∧Box W (w.heap.size+1) 27 c∧Box W (w.heap.size+1+1) 48 cZ9∧Box W (w.heap.size+1+1+1) 48 cZ9∧Below w.heap.size w W∧W.heap.size=w.heap.size+1+1+1+1:=by
 refine⟨_,rfl,(((Box.new w _ _).alloc _).alloc _).alloc _,?_,?_,?_,((((Below.refl _ _).alloc (Nat.le_refl _) _).alloc (by simp) _).alloc (by simp;omega) _).alloc (by simp;omega) _,by simp only [World.size_alloc]⟩
 ·have q:=((Box.new (w.alloc (.cells a 48)) 27 c).alloc (.cells cZ9 48)).alloc (.cells cZ9 48)
  simpa only [World.size_alloc] using q
 ·have q:=(Box.new ((w.alloc (.cells a 48)).alloc (.cells c 27)) 48 cZ9).alloc (.cells cZ9 48)
  simpa only [World.size_alloc] using q
 ·have q:=Box.new (((w.alloc (.cells a 48)).alloc (.cells c 27)).alloc (.cells cZ9 48)) 48 cZ9
  simpa only [World.size_alloc] using q
def RWith (qs:List RawO) (w:World) (e:Ending) (w':World):Prop:=∃ A c,e=.returned (.agg #[.slice A qs.length c])∧SliceOk A qs.length c∧Raws w' A qs.length qs∧Below w.heap.size w w'
theorem size_set9 (w:World) (a:Addr) (v:Value):(w.setCell a v).heap.size=w.heap.size:=by simp [World.setCell]
theorem refWith19_any (A:Option Addr) (cp:Nat) (ps:List RawO) (p:RawO) (w:World) (hx:Raws w A ps.length ps) (hlm:ps.length≤1000) :
  Calls Tryz.prog 42 #[.agg #[.slice A ps.length cp],.agg (obA p.1 p.2.1 p.2.2)] w (RWith (rfW ps p) w):=by
 obtain⟨i0,hi,hz0,hz1,hz2⟩:=info_parts obj19_info
 have HI:=hZ hi
 have HZ0:=hZ hz0
 have HZ1:=hZ hz1
 have HZ2:=hZ hz2
 obtain⟨W1,hW1,q2,q3,q4,q5,b1,hsz1⟩:=RW4_gen #[.slice A ps.length cp] (obA p.1 p.2.1 p.2.2) w
 have Q2:=hZ q2
 have Q3:=hZ q3
 have Q4:=hZ q4
 have Q5:=hZ q5
 have HB1:=hZ b1
 have HW1:=hZ hsz1
 have HSZ:=hZ (show w.heap.size≤W1.heap.size by omega)
 have HX:=hZ hx
 have HF1:=hZ (rf1_all ps p ps.length rfl)
 have HF2:=hZ (rf2_all ps p ps.length rfl)
 have HWW:=hZ hW1
 clear hx hi hz0 hz1 hz2 q2 q3 q4 q5 b1 hW1 hsz1
 have r2:=Q2.out.cell 0
 go_enter Tryz.func42,Tryz.ntmps42
 go_upto_region 2 with (fail)
 rw [← HWW.out]
 clear HWW
 go_wp2_with fail
 go_loopw [14] (fun t wr=>∃ (i:Nat) (A9:Option Addr) (c9:Nat),i≤ps.length∧t=.int .i64 i∧Hid (Box wr (w.heap.size+1+1+1) 48 #[.slice A9 (rf1 ps p i).length c9])∧Hid (wr.ownsRow W1.heap.size 27 6 (.slice A9 (rf1 ps p i).length c9) (rf1 ps p i).length ((rf1 ps p i).flatMap encRO))∧Hid (Box wr w.heap.size 48 #[.slice A ps.length cp])∧Hid (Box wr (w.heap.size+1) 27 (obA p.1 p.2.1 p.2.2))∧Hid (Box wr (w.heap.size+1+1) 48 cZ9)∧Hid (Below w.heap.size w wr)∧Hid (W1.heap.size≤wr.heap.size)) (fun t _=>ps.length-(Go.RowKit.intOf t).toNat)
 case atStart=>exact⟨0,none,0,Nat.zero_le _,rfl,Q5,hZ (World.ownsRow_nil _ _ _ _),Q2,Q3,Q4,HB1,hZ (Nat.le_refl _)⟩
 case round=>
  obtain⟨i,A9,c9,hi,rfl,R5,HO,R2,R3,R4,HC,HS⟩:=hrel
  obtain⟨w5,rfl⟩:∃ w5:World,w5=wr:=⟨_,rfl⟩
  by_cases hlt:i<ps.length
  ·have hlt':(i:Int)<(ps.length:Int):=Int.ofNat_lt.2 hlt
   obtain⟨b,off,rfl,hlb,d0,d1,d2,d3,d4,d5⟩:=HX.out.six i hlt
   have d0:=(HC.out.cell (p:=⟨b,_,none⟩) hlb).trans d0
   have d1:=(HC.out.cell (p:=⟨b,_,none⟩) hlb).trans d1
   have d2:=(HC.out.cell (p:=⟨b,_,none⟩) hlb).trans d2
   have d3:=(HC.out.cell (p:=⟨b,_,none⟩) hlb).trans d3
   have d4:=(HC.out.cell (p:=⟨b,_,none⟩) hlb).trans d4
   have d5:=(HC.out.cell (p:=⟨b,_,none⟩) hlb).trans d5
   have HSy:=hZ (rf1_yes ps p i hlt)
   have HSn:=hZ (rf1_no ps p i hlt)
   have hsl:=rf1_len ps p i
   obtain⟨q,hq⟩:∃ y,y=ps.getD i default:=⟨_,rfl⟩
   rw [← hq] at d0 d1 d2 d3 d4 d5 HSy HSn
   clear hq
   have c1:=hZ (show Below w5.heap.size w5 (w5.alloc (.cells (obA q.1 q.2.1 q.2.2) 27)) from (Below.refl _ _).alloc (Nat.le_refl _) _)
   have S2:=hZ (R2.out.keep c1.out)
   have S3:=hZ (R3.out.keep c1.out)
   have S4:=hZ (R4.out.keep c1.out)
   have S5:=hZ (R5.out.keep c1.out)
   have YO:=hZ (own_keep HO.out c1.out)
   have YB:=hZ (HC.out.trans (c1.out.mono HC.out.size))
   have YS:=hZ (Nat.le_trans HS.out c1.out.size)
   have GX:=hZ (Box.new w5 27 (obA q.1 q.2.1 q.2.2))
   obtain⟨g0,g1,g2,g3,g4,g5⟩:=GX.out.sixO
   obtain⟨k0,k1,k2,k3,k4,k5⟩:=S3.out.sixO
   have e5:=S5.out.cell 0
   have r2:=R2.out.cell 0
   by_cases hbf:q.1.1<p.1.1
   ·have hbf2:((q.1.1:Nat):Int)<((p.1.1:Nat):Int):=by omega
    have HS9:=hZ (HSy.out hbf)
    clear HSy HSn hbf
    have c3:=hZ (show Below (w5.alloc (.cells (obA q.1 q.2.1 q.2.2) 27)).heap.size (w5.alloc (.cells (obA q.1 q.2.1 q.2.2) 27)) ((w5.alloc (.cells (obA q.1 q.2.1 q.2.2) 27)).alloc (.cells (obA q.1 q.2.1 q.2.2) 27)) from (Below.refl _ _).alloc (Nat.le_refl _) _)
    have ZO:=hZ (own_keep YO.out c3.out)
    have ZB:=hZ (YB.out.trans (c3.out.mono YB.out.size))
    have ZS:=hZ (Nat.le_trans YS.out c3.out.size)
    have T2:=hZ (S2.out.keep c3.out)
    have T3:=hZ (S3.out.keep c3.out)
    have T4:=hZ (S4.out.keep c3.out)
    have T5:=hZ (S5.out.keep c3.out)
    have N2:=hZ (fun g hg=>Nat.le_trans HSZ.out (ZO.out.lt g hg).1)
    have NE:=hZ (fun (g:Nat) (h:g<W1.heap.size)=>show (Value.slice A9 (rf1 ps p i).length c9).ownBlock≠some g from fun e=>by have:=(ZO.out.lt g e).1;omega)
    have NW0:=World.news_of_block (Box.new (w5.alloc (.cells (obA q.1 q.2.1 q.2.2) 27)) 27 (obA q.1 q.2.1 q.2.2))
    simp only [World.size_alloc] at NW0;have NW:=hZ NW0
    have hsz:=HW1.out
    clear NW0 c3
    go_wp2_with (at_builtin;go_loud (refine wpList_append_own _ rfl _ _ 46 rfl W1.heap.size 27 i0 _ 6 64 Tryz.underlying46 HI.out HZ0.out HZ1.out HZ2.out rfl (by decide) _ _ _ rfl ZO.out ⟨w5.heap.size+1,0,none⟩ 1 1 (encRO q) rfl rfl NW.out (encRO_one q) (by simp [maxLen];omega) (by omega) ZS.out ?_);intro v' w2 hown' hgrow _;obtain⟨A8,c8,rfl⟩:=own_formS6 hown';have HC2:=hZ (ZB.out.grown hgrow ZB.out.size N2.out);have HO2:=hZ hown';have V2:=hZ (T2.out.grown hgrow (NE.out _ (by omega)));have V3:=hZ (T3.out.grown hgrow (NE.out _ (by omega)));have V4:=hZ (T4.out.grown hgrow (NE.out _ (by omega)));have V5:=hZ (T5.out.grown hgrow (NE.out _ (by omega)));have VS:=hZ (Nat.le_trans ZS.out hgrow.size);clear hown' hgrow;have e5:=V5.out.cell 0;have k5:=V5.out.free 0)
    have U5:=hZ (V5.out.put 0 (.slice A8 ((rf1 ps p i).length+1) c8))
    have U2:=hZ (V2.out.far (p:=⟨w.heap.size+1+1+1,0,none⟩) (by show w.heap.size≠w.heap.size+1+1+1;omega) (.slice A8 ((rf1 ps p i).length+1) c8))
    have U3:=hZ (V3.out.far (p:=⟨w.heap.size+1+1+1,0,none⟩) (by show w.heap.size+1≠w.heap.size+1+1+1;omega) (.slice A8 ((rf1 ps p i).length+1) c8))
    have U4:=hZ (V4.out.far (p:=⟨w.heap.size+1+1+1,0,none⟩) (by show w.heap.size+1+1≠w.heap.size+1+1+1;omega) (.slice A8 ((rf1 ps p i).length+1) c8))
    have UO:=hZ (own_far HO2.out V5.out (by decide) 0 (.slice A8 ((rf1 ps p i).length+1) c8))
    have UB:=hZ (HC2.out.setCell (p:=⟨w.heap.size+1+1+1,0,none⟩) (show w.heap.size≤w.heap.size+1+1+1 by omega) (.slice A8 ((rf1 ps p i).length+1) c8))
    have US:=hZ (show W1.heap.size≤(w2.setCell ⟨w.heap.size+1+1+1,0,none⟩ (.slice A8 ((rf1 ps p i).length+1) c8)).heap.size by rw [size_set9];exact VS.out)
    go_roundw
    case rel=>
     have hl9:(rf1 ps p (i+1)).length=(rf1 ps p i).length+1:=by rw [HS9.out,List.length_append];rfl
     refine⟨i+1,A8,c8,hlt,by go_num,?_,?_,U2,U3,U4,UB,US⟩
     ·rw [hl9];exact U5
     ·rw [hl9,HS9.out,List.flatMap_append]
      have h9:=UO.out
      simpa using hZ h9
    case measure=>simp [Go.RowKit.intOf]<;>omega
   ·have hbf2:¬ ((q.1.1:Nat):Int)<((p.1.1:Nat):Int):=by omega
    have HS9:=hZ (HSn.out hbf)
    clear HSy HSn hbf
    go_wp2_with fail
    go_roundw
    case rel=>exact⟨i+1,A9,c9,hlt,by go_num,by rw [HS9.out];exact S5,by rw [HS9.out];exact YO,S2,S3,S4,YB,YS⟩
    case measure=>simp [Go.RowKit.intOf]<;>omega
  ·obtain rfl:i=ps.length:=by omega
   have hlt':¬ (ps.length:Int)<(ps.length:Int):=Int.lt_irrefl _
   have hsl:=rf1_len ps p ps.length
   have YO:=HO
   have YB:=HC
   have YS:=HS
   have S2:=R2
   have S3:=R3
   have S4:=R4
   have S5:=R5
   obtain⟨k0,k1,k2,k3,k4,k5⟩:=S3.out.sixO
   have e5:=S5.out.cell 0
   have r2:=R2.out.cell 0
   obtain⟨w6,rfl⟩:∃ w6:World,w6=w5:=⟨_,rfl⟩
   have c3:=hZ (show Below w6.heap.size w6 (w6.alloc (.cells (obA p.1 p.2.1 p.2.2) 27)) from (Below.refl _ _).alloc (Nat.le_refl _) _)
   have ZO:=hZ (own_keep YO.out c3.out)
   have ZB:=hZ (YB.out.trans (c3.out.mono YB.out.size))
   have ZS:=hZ (Nat.le_trans YS.out c3.out.size)
   have T2:=hZ (S2.out.keep c3.out)
   have T3:=hZ (S3.out.keep c3.out)
   have T4:=hZ (S4.out.keep c3.out)
   have T5:=hZ (S5.out.keep c3.out)
   have N2:=hZ (fun g hg=>Nat.le_trans HSZ.out (ZO.out.lt g hg).1)
   have NE:=hZ (fun (g:Nat) (h:g<W1.heap.size)=>show (Value.slice A9 (rf1 ps p ps.length).length c9).ownBlock≠some g from fun e=>by have:=(ZO.out.lt g e).1;omega)
   have NW0:=World.news_of_block (Box.new w6 27 (obA p.1 p.2.1 p.2.2))
   have NW:=hZ NW0
   have hsz:=HW1.out
   clear NW0 c3
   go_wp2_with (at_builtin;go_loud (refine wpList_append_own _ rfl _ _ 46 rfl W1.heap.size 27 i0 _ 6 64 Tryz.underlying46 HI.out HZ0.out HZ1.out HZ2.out rfl (by decide) _ _ _ rfl ZO.out ⟨w6.heap.size,0,none⟩ 1 1 (encRO p) rfl rfl NW.out (encRO_one p) (by simp [maxLen];omega) (by omega) ZS.out ?_);intro v' w2 hown' hgrow _;obtain⟨A8,c8,rfl⟩:=own_formS6 hown';have HC2:=hZ (ZB.out.grown hgrow ZB.out.size N2.out);have HO2:=hZ hown';have V2:=hZ (T2.out.grown hgrow (NE.out _ (by omega)));have V3:=hZ (T3.out.grown hgrow (NE.out _ (by omega)));have V4:=hZ (T4.out.grown hgrow (NE.out _ (by omega)));have V5:=hZ (T5.out.grown hgrow (NE.out _ (by omega)));have VS:=hZ (Nat.le_trans ZS.out hgrow.size);clear hown' hgrow;have e5:=V5.out.cell 0;have k5:=V5.out.free 0;have e2:=V2.out.cell 0)
   have U5:=hZ (V5.out.put 0 (.slice A8 ((rf1 ps p ps.length).length+1) c8))
   have U2:=hZ (V2.out.far (p:=⟨w.heap.size+1+1+1,0,none⟩) (by show w.heap.size≠w.heap.size+1+1+1;omega) (.slice A8 ((rf1 ps p ps.length).length+1) c8))
   have U3:=hZ (V3.out.far (p:=⟨w.heap.size+1+1+1,0,none⟩) (by show w.heap.size+1≠w.heap.size+1+1+1;omega) (.slice A8 ((rf1 ps p ps.length).length+1) c8))
   have U4:=hZ (V4.out.far (p:=⟨w.heap.size+1+1+1,0,none⟩) (by show w.heap.size+1+1≠w.heap.size+1+1+1;omega) (.slice A8 ((rf1 ps p ps.length).length+1) c8))
   have UO:=hZ (own_far HO2.out V5.out (by decide) 0 (.slice A8 ((rf1 ps p ps.length).length+1) c8))
   have UB:=hZ (HC2.out.setCell (p:=⟨w.heap.size+1+1+1,0,none⟩) (show w.heap.size≤w.heap.size+1+1+1 by omega) (.slice A8 ((rf1 ps p ps.length).length+1) c8))
   have US:=hZ (show W1.heap.size≤(w2.setCell ⟨w.heap.size+1+1+1,0,none⟩ (.slice A8 ((rf1 ps p ps.length).length+1) c8)).heap.size by rw [size_set9];exact VS.out)
   have hF:=HF1.out
   have hl9:(rf2 ps p 0).length=(rf1 ps p ps.length).length+1:=by rw [← hF,List.length_append];rfl
   have Z5:Hid (Box (w2.setCell ⟨w.heap.size+1+1+1,0,none⟩ (.slice A8 ((rf1 ps p ps.length).length+1) c8)) (w.heap.size+1+1+1) 48 #[.slice A8 (rf2 ps p 0).length c8]):=by rw [hl9];exact U5
   have ZO2:Hid ((w2.setCell ⟨w.heap.size+1+1+1,0,none⟩ (.slice A8 ((rf1 ps p ps.length).length+1) c8)).ownsRow W1.heap.size 27 6 (.slice A8 (rf2 ps p 0).length c8) (rf2 ps p 0).length ((rf2 ps p 0).flatMap encRO)):=by
    rw [hl9,← hF,List.flatMap_append]
    have h9:=UO.out
    simpa using hZ h9
   clear hl9 hF HF1 U5 UO T2 T3 T4 T5 V2 V3 V4 V5 e5 k0 k1 k2 k3 k4 k5 r2 ZO ZB ZS NE NW N2 YO YB YS S2 S3 S4 S5 HC2 HO2 VS e2 R2 R3 R4 R5 HO HC HS hsl
   generalize (rf1 ps p ps.length).length+1=n9 at *
   obtain⟨wz,hwz⟩:∃ y,y=w2.setCell ⟨w.heap.size+1+1+1,0,none⟩ (.slice A8 n9 c8):=⟨_,rfl⟩
   rw [← hwz] at Z5 ZO2 U2 U3 U4 UB US ⊢
   clear hwz
   go_loopw [39] (fun t wr=>∃ (i:Nat) (A9:Option Addr) (c9:Nat),i≤ps.length∧t=.int .i64 i∧Hid (Box wr (w.heap.size+1+1+1) 48 #[.slice A9 (rf2 ps p i).length c9])∧Hid (wr.ownsRow W1.heap.size 27 6 (.slice A9 (rf2 ps p i).length c9) (rf2 ps p i).length ((rf2 ps p i).flatMap encRO))∧Hid (Box wr w.heap.size 48 #[.slice A ps.length cp])∧Hid (Box wr (w.heap.size+1) 27 (obA p.1 p.2.1 p.2.2))∧Hid (Box wr (w.heap.size+1+1) 48 cZ9)∧Hid (Below w.heap.size w wr)∧Hid (W1.heap.size≤wr.heap.size)) (fun t _=>ps.length-(Go.RowKit.intOf t).toNat)
   case atStart=>exact⟨0,A8,c8,Nat.zero_le _,rfl,Z5,ZO2,U2,U3,U4,UB,US⟩
   case round=>
    obtain⟨i,A9,c9,hi,rfl,R5,HO,R2,R3,R4,HC,HS⟩:=hrel
    obtain⟨w5,rfl⟩:∃ w5:World,w5=wr:=⟨_,rfl⟩
    by_cases hlt:i<ps.length
    ·have hlt':(i:Int)<(ps.length:Int):=Int.ofNat_lt.2 hlt
     obtain⟨b,off,rfl,hlb,d0,d1,d2,d3,d4,d5⟩:=HX.out.six i hlt
     have d0:=(HC.out.cell (p:=⟨b,_,none⟩) hlb).trans d0
     have d1:=(HC.out.cell (p:=⟨b,_,none⟩) hlb).trans d1
     have d2:=(HC.out.cell (p:=⟨b,_,none⟩) hlb).trans d2
     have d3:=(HC.out.cell (p:=⟨b,_,none⟩) hlb).trans d3
     have d4:=(HC.out.cell (p:=⟨b,_,none⟩) hlb).trans d4
     have d5:=(HC.out.cell (p:=⟨b,_,none⟩) hlb).trans d5
     have HSy:=hZ (rf2_yes ps p i hlt)
     have HSn:=hZ (rf2_no ps p i hlt)
     have hsl:=rf2_len ps p i
     obtain⟨q,hq⟩:∃ y,y=ps.getD i default:=⟨_,rfl⟩
     rw [← hq] at d0 d1 d2 d3 d4 d5 HSy HSn
     clear hq
     have c1:=hZ (show Below w5.heap.size w5 (w5.alloc (.cells (obA q.1 q.2.1 q.2.2) 27)) from (Below.refl _ _).alloc (Nat.le_refl _) _)
     have S2:=hZ (R2.out.keep c1.out)
     have S3:=hZ (R3.out.keep c1.out)
     have S4:=hZ (R4.out.keep c1.out)
     have S5:=hZ (R5.out.keep c1.out)
     have YO:=hZ (own_keep HO.out c1.out)
     have YB:=hZ (HC.out.trans (c1.out.mono HC.out.size))
     have YS:=hZ (Nat.le_trans HS.out c1.out.size)
     have GX:=hZ (Box.new w5 27 (obA q.1 q.2.1 q.2.2))
     obtain⟨g0,g1,g2,g3,g4,g5⟩:=GX.out.sixO
     obtain⟨k0,k1,k2,k3,k4,k5⟩:=S3.out.sixO
     have e5:=S5.out.cell 0
     have r2:=R2.out.cell 0
     by_cases hbf:p.1.1<q.1.1
     ·have hbf2:((q.1.1:Nat):Int)>((p.1.1:Nat):Int):=by omega
      have HS9:=hZ (HSy.out hbf)
      clear HSy HSn hbf
      have c3:=hZ (show Below (w5.alloc (.cells (obA q.1 q.2.1 q.2.2) 27)).heap.size (w5.alloc (.cells (obA q.1 q.2.1 q.2.2) 27)) ((w5.alloc (.cells (obA q.1 q.2.1 q.2.2) 27)).alloc (.cells (obA q.1 q.2.1 q.2.2) 27)) from (Below.refl _ _).alloc (Nat.le_refl _) _)
      have ZO:=hZ (own_keep YO.out c3.out)
      have ZB:=hZ (YB.out.trans (c3.out.mono YB.out.size))
      have ZS:=hZ (Nat.le_trans YS.out c3.out.size)
      have T2:=hZ (S2.out.keep c3.out)
      have T3:=hZ (S3.out.keep c3.out)
      have T4:=hZ (S4.out.keep c3.out)
      have T5:=hZ (S5.out.keep c3.out)
      have N2:=hZ (fun g hg=>Nat.le_trans HSZ.out (ZO.out.lt g hg).1)
      have NE:=hZ (fun (g:Nat) (h:g<W1.heap.size)=>show (Value.slice A9 (rf2 ps p i).length c9).ownBlock≠some g from fun e=>by have:=(ZO.out.lt g e).1;omega)
      have NW0:=World.news_of_block (Box.new (w5.alloc (.cells (obA q.1 q.2.1 q.2.2) 27)) 27 (obA q.1 q.2.1 q.2.2))
      simp only [World.size_alloc] at NW0;have NW:=hZ NW0
      have hsz:=HW1.out
      clear NW0 c3
      go_wp2_with (at_builtin;go_loud (refine wpList_append_own _ rfl _ _ 46 rfl W1.heap.size 27 i0 _ 6 64 Tryz.underlying46 HI.out HZ0.out HZ1.out HZ2.out rfl (by decide) _ _ _ rfl ZO.out ⟨w5.heap.size+1,0,none⟩ 1 1 (encRO q) rfl rfl NW.out (encRO_one q) (by simp [maxLen];omega) (by omega) ZS.out ?_);intro v' w2 hown' hgrow _;obtain⟨A8,c8,rfl⟩:=own_formS6 hown';have HC2:=hZ (ZB.out.grown hgrow ZB.out.size N2.out);have HO2:=hZ hown';have V2:=hZ (T2.out.grown hgrow (NE.out _ (by omega)));have V3:=hZ (T3.out.grown hgrow (NE.out _ (by omega)));have V4:=hZ (T4.out.grown hgrow (NE.out _ (by omega)));have V5:=hZ (T5.out.grown hgrow (NE.out _ (by omega)));have VS:=hZ (Nat.le_trans ZS.out hgrow.size);clear hown' hgrow;have e5:=V5.out.cell 0;have k5:=V5.out.free 0)
      have U5:=hZ (V5.out.put 0 (.slice A8 ((rf2 ps p i).length+1) c8))
      have U2:=hZ (V2.out.far (p:=⟨w.heap.size+1+1+1,0,none⟩) (by show w.heap.size≠w.heap.size+1+1+1;omega) (.slice A8 ((rf2 ps p i).length+1) c8))
      have U3:=hZ (V3.out.far (p:=⟨w.heap.size+1+1+1,0,none⟩) (by show w.heap.size+1≠w.heap.size+1+1+1;omega) (.slice A8 ((rf2 ps p i).length+1) c8))
      have U4:=hZ (V4.out.far (p:=⟨w.heap.size+1+1+1,0,none⟩) (by show w.heap.size+1+1≠w.heap.size+1+1+1;omega) (.slice A8 ((rf2 ps p i).length+1) c8))
      have UO:=hZ (own_far HO2.out V5.out (by decide) 0 (.slice A8 ((rf2 ps p i).length+1) c8))
      have UB:=hZ (HC2.out.setCell (p:=⟨w.heap.size+1+1+1,0,none⟩) (show w.heap.size≤w.heap.size+1+1+1 by omega) (.slice A8 ((rf2 ps p i).length+1) c8))
      have US:=hZ (show W1.heap.size≤(w2.setCell ⟨w.heap.size+1+1+1,0,none⟩ (.slice A8 ((rf2 ps p i).length+1) c8)).heap.size by rw [size_set9];exact VS.out)
      go_roundw
      case rel=>
       have hl9:(rf2 ps p (i+1)).length=(rf2 ps p i).length+1:=by rw [HS9.out,List.length_append];rfl
       refine⟨i+1,A8,c8,hlt,by go_num,?_,?_,U2,U3,U4,UB,US⟩
       ·rw [hl9];exact U5
       ·rw [hl9,HS9.out,List.flatMap_append]
        have h9:=UO.out
        simpa using hZ h9
      case measure=>simp [Go.RowKit.intOf]<;>omega
     ·have hbf2:¬ ((q.1.1:Nat):Int)>((p.1.1:Nat):Int):=by omega
      have HS9:=hZ (HSn.out hbf)
      clear HSy HSn hbf
      go_wp2_with fail
      go_roundw
      case rel=>exact⟨i+1,A9,c9,hlt,by go_num,by rw [HS9.out];exact S5,by rw [HS9.out];exact YO,S2,S3,S4,YB,YS⟩
      case measure=>simp [Go.RowKit.intOf]<;>omega
    ·obtain rfl:i=ps.length:=by omega
     have hlt':¬ (ps.length:Int)<(ps.length:Int):=Int.lt_irrefl _
     have hF:=HF2.out
     have r5:=R5.out.cell 0
     have r4:=R4.out.cell 0
     have f4:=R4.out.free 0
     have hO:=HO.out
     rw [hF] at hO r5
     have HO9:=hZ hO
     have HP4:=hZ (R4.out.put 0 (.slice A9 (rfW ps p).length c9))
     have HRw:=hZ (own_recs encRO_len hO (by decide))
     have HRx:=hZ (Recs.farB HRw.out (g:=(w.heap.size+1+1)) (fun b off e _ h=>by
      have h1:=(hO.lt b (by rw [e];rfl)).1
      have h2:=HW1.out
      omega) 0 (.slice A9 (rfW ps p).length c9))
     have HSl:=hZ (own_cap6 hO)
     have HBz:=hZ (HC.out.setCell (p:=⟨w.heap.size+1+1,0,none⟩) (show w.heap.size≤w.heap.size+1+1 by omega) (.slice A9 (rfW ps p).length c9))
     clear hO hF
     go_wp2_with fail
     refine close_one Tryz.results42 rfl rfl HP4.out Tryz.underlying48 rfl (by kernel_rfl) ?_
     exact⟨A9,c9,rfl,HSl.out,HRx.out,HBz.out⟩
end
section
open Go.RowKit Go.Lib
set_option maxRecDepth 100000
abbrev fewRaw (q:RawO):RawO:=(fewO q.1,q.2)
def fewRs (ps:List RawO):List RawO:=(ps.take 10).map fewRaw
theorem fewRs_len (ps:List RawO):(fewRs ps).length=min ps.length 10:=by unfold fewRs;rw [List.length_map,List.length_take];omega
theorem fewRs_snoc (ps:List RawO) (i:Nat) (hi:i<ps.length):(ps.take (i+1)).map fewRaw=(ps.take i).map fewRaw++[fewRaw (ps.getD i default)]:=by
 rw [take_snocD ps i hi,List.map_append];rfl
theorem ids_few {xs:List SymR} (h:Ids xs) (n:Nat):Ids (xs.take n):=fun j=>by
 by_cases hj:j<n
 ·by_cases hl:j<xs.length
  ·have e:(xs.take n).getD j default=xs.getD j default:=by simp [List.getD,List.getElem?_take_of_lt hj]
   rw [e];exact h j
  ·have e:(xs.take n).getD j default=default:=by simp only [List.getD];rw [List.getElem?_eq_none (by rw [List.length_take];omega)];rfl
   rw [e];decide
 ·have e:(xs.take n).getD j default=default:=by simp only [List.getD];rw [List.getElem?_eq_none (by rw [List.length_take];omega)];rfl
  rw [e];decide
theorem fewRs_ids {ps:List RawO} (h:IdsO ps):IdsO (fewRs ps):=by
 rw [ids_obs] at h ⊢
 intro o ho
 obtain⟨p,hp,rfl⟩:=List.mem_map.1 ho
 obtain⟨q,hq,rfl⟩:=List.mem_map.1 hp
 have h9:=h q.1 (List.mem_map.2 ⟨q,List.mem_of_mem_take hq,rfl⟩)
 exact⟨h9.1,ids_few h9.2 _⟩
theorem fewO_len (o:ObR):(fewO o).2.1.2.2.2.length=fewN o.2.1.2.1 o.2.1.2.2.2.length:=by
 have:=(fewN_le o.2.1.2.1 o.2.1.2.2.2.length).1
 show (o.2.1.2.2.2.take _).length=_
 rw [List.length_take];omega
theorem few_ok {w:World} {q:RawO} (h:OkD w q):OkD w (fewRaw q):=by
 have h1:=(fewN_le q.1.2.1.2.1 q.1.2.1.2.2.2.length).1
 have hl:=fewO_len q.1
 refine⟨⟨?_,h.1.2.1,fun e=>⟨?_,(h.1.2.2 e).2⟩⟩,?_⟩
 ·show (fewO q.1).2.1.2.2.2.length≤_
  rw [hl];exact Nat.le_trans h1 h.1.1
 ·show (fewO q.1).2.1.2.2.2.length=0
  rw [hl];have:=(h.1.2.2 e).1;omega
 ·show Syms w q.2.1 (fewO q.1).2.1.2.2.2.length (fewO q.1).2.1.2.2.2
  rw [hl];exact h.2.take _ h1
theorem fewRs_ok {w:World} {ps:List RawO} (h:OkDs w ps):OkDs w (fewRs ps):=okds_mem fun p hp=>by
 obtain⟨q,hq,rfl⟩:=List.mem_map.1 hp
 exact few_ok (okds_of h q (List.mem_of_mem_take hq))
theorem enc_few (q:RawO) (m:Nat) (hm:m=fewN q.1.2.1.2.1 q.1.2.1.2.2.2.length):encRO (fewRaw q)=(oC q.1.1 q.1.2.1.1 q.1.2.1.2.1 q.1.2.1.2.2.1 q.2.1 m q.2.2 q.1.2.2).toList:=by
 subst hm
 rw [← fewO_len]
 rfl
theorem F2_gen (a b:Array Value) (w:World):Box ((w.alloc (.cells a 48)).alloc (.cells b 48)) w.heap.size 48 a∧Box ((w.alloc (.cells a 48)).alloc (.cells b 48)) (w.heap.size+1) 48 b∧Below w.heap.size w ((w.alloc (.cells a 48)).alloc (.cells b 48)):=by
 refine⟨(Box.new w _ _).alloc _,?_,((Below.refl _ _).alloc (Nat.le_refl _) _).alloc (by simp) _⟩
 have q:=Box.new (w.alloc (.cells a 48)) 48 b
 simpa only [World.size_alloc] using q
def FewR (qs:List RawO) (w:World) (e:Ending) (w':World):Prop:=∃ A c,e=.returned (.agg #[.slice A qs.length c])∧w'.ownsRow w.heap.size 27 6 (.slice A qs.length c) qs.length (qs.flatMap encRO)∧Below w.heap.size w w'
theorem one6 (id:Nat) (k s c:Int) (A:Option Addr) (m d:Nat) (cl:Int):∀ u∈(oC id k s c A m d cl).toList,u.oneCell'=true:=by
 intro u hu;simp at hu;rcases hu with rfl | rfl | rfl | rfl | rfl | rfl<;>rfl
theorem few19_any (A:Option Addr) (cp:Nat) (ps:List RawO) (w:World) (hs:SliceOk A ps.length cp) (hx:Raws w A ps.length ps) (hd:OkDs w ps) :
  Calls Tryz.prog 14 #[.agg #[.slice A ps.length cp]] w (FewR (fewRs ps) w):=by
 obtain⟨i0,hi,hz0,hz1,hz2⟩:=info_parts obj19_info
 have HI:=hZ hi
 have HZ0:=hZ hz0
 have HZ1:=hZ hz1
 have HZ2:=hZ hz2
 obtain⟨q1,q2,b3⟩:=F2_gen #[.slice A ps.length cp] #[.slice none 0 0] w
 have Q1:=hZ q1
 have Q2:=hZ q2
 have HB:=hZ b3
 have HX:=hZ hx
 have HD:=hZ hd
 have hcp:=hs.1
 have hcm:=hs.2.1
 unfold maxLen at hcm
 obtain⟨kk,ekk⟩:∃ k,k=min ps.length 10:=⟨_,rfl⟩
 have hkk1:kk≤ps.length:=by omega
 have hkk2:kk≤10:=by omega
 have hkk3:(kk:Int)≤(cp:Int):=by omega
 have hkk0:(0:Int)≤(kk:Int):=by omega
 have mkk:(if (10:Int)<(ps.length:Int) then 10 else (ps.length:Int))=(kk:Int):=by split<;>omega
 have mk2:min (ps.length:Int) 10=(kk:Int):=by omega
 have HFw:=hZ (show (ps.take kk).map fewRaw=fewRs ps by unfold fewRs;congr 1;rw [ekk];rcases Nat.le_total ps.length 10 with h | h
                                                        ·rw [Nat.min_eq_left h,List.take_of_length_le (Nat.le_refl _),List.take_of_length_le h]
                                                        ·rw [Nat.min_eq_right h])
 have HFl:=hZ (show (fewRs ps).length=kk by rw [fewRs_len,ekk])
 have r1:=Q1.out.cell 0
 clear hi hz0 hz1 hz2 q1 q2 b3 hx hd ekk hs
 go_enter Tryz.func14,Tryz.ntmps14
 go_wp2_with fail
 clear r1
 go_loopw [3,14] (fun v t wr=>∃ i:Nat,i≤kk∧t=.int .i64 i∧Hid (wr.ownsRow w.heap.size 27 6 v i (((ps.take i).map fewRaw).flatMap encRO))∧Hid (Box wr w.heap.size 48 #[.slice A ps.length cp])∧Hid (Box wr (w.heap.size+1) 48 #[.slice none 0 0])∧Hid (Below w.heap.size w wr)) (fun _ t _=>kk-(Go.RowKit.intOf t).toNat)
 case atStart=>exact⟨0,Nat.zero_le _,rfl,hZ (World.ownsRow_nil _ _ _ _),Q1,Q2,HB⟩
 case round=>
  obtain⟨i,hi,rfl,HO,R1,R2,HC⟩:=hrel
  by_cases hlt:i<kk
  ·have hlt':(i:Int)<(kk:Int):=by omega
   obtain⟨b,off,rfl,hlb,d0,d1,d2,d3,d4,d5⟩:=HX.out.six i (by omega)
   have d0:=(HC.out.cell (p:=⟨b,_,none⟩) hlb).trans d0
   have d1:=(HC.out.cell (p:=⟨b,_,none⟩) hlb).trans d1
   have d2:=(HC.out.cell (p:=⟨b,_,none⟩) hlb).trans d2
   have d3:=(HC.out.cell (p:=⟨b,_,none⟩) hlb).trans d3
   have d4:=(HC.out.cell (p:=⟨b,_,none⟩) hlb).trans d4
   have d5:=(HC.out.cell (p:=⟨b,_,none⟩) hlb).trans d5
   have HSn:=hZ (fewRs_snoc ps i (by omega))
   have hok:=(HD.out i).1
   obtain⟨q,hq⟩:∃ y,y=ps.getD i default:=⟨_,rfl⟩
   rw [← hq] at d0 d1 d2 d3 d4 d5 HSn hok
   clear hq
   obtain⟨⟨id,⟨k,s0,c0,xs⟩,cl⟩,A0,dd0⟩:=q
   dsimp only at d0 d1 d2 d3 d4 d5 hok
   have hl0:=hok.1
   have hl1:=hok.2.1
   unfold maxLen at hl1
   clear hok
   obtain⟨l,hl⟩:∃ l,l=xs.length:=⟨_,rfl⟩
   obtain⟨m,hm⟩:∃ m,m=min l 66:=⟨_,rfl⟩
   have HF:=hZ (show fewN s0 xs.length=if 24<m∧6<s0 then 24 else m by unfold fewN;rw [← hl,hm])
   rw [← hl] at d4 hl0
   have HL:=hZ hl
   have hdm:min (l:Int) 66=(m:Int):=by omega
   have hm0:(0:Int)≤(m:Int):=by omega
   have hmd:(m:Int)≤(dd0:Int):=by omega
   clear hl
   by_cases hl6:(66:Int)<(l:Int)
   ·obtain rfl:m=66:=by omega
    clear hm
    have h66d:(66:Int)≤(dd0:Int):=by omega
    by_cases h2:s0>6
    ·have h24d:(24:Int)≤(dd0:Int):=by omega
     replace HF:=hZ (HF.out.trans (if_pos ⟨by omega,h2⟩))
     have HE:=hZ (enc_few ((id,(k,s0,c0,xs),cl),(A0,dd0)) 24 (by have:=HF.out;exact this.symm))
     have c1:=hZ (show Below wr.heap.size wr (wr.alloc (.cells (oC id k s0 c0 A0 24 dd0 cl) 27)) from (Below.refl _ _).alloc (Nat.le_refl _) _)
     have c2:=hZ (show Below wr.heap.size wr ((wr.alloc (.cells (oC id k s0 c0 A0 24 dd0 cl) 27)).alloc (.cells (oC id k s0 c0 A0 24 dd0 cl) 27)) from c1.out.alloc c1.out.size _)
     have S1:=hZ (R1.out.keep c2.out)
     have S2:=hZ (R2.out.keep c2.out)
     have ZO:=hZ (own_keep HO.out c2.out)
     have ZB:=hZ (HC.out.trans (c2.out.mono HC.out.size))
     have N2:=hZ (fun g hg=>(ZO.out.lt g hg).1)
     have NW0:=World.news_of_block (Box.new (wr.alloc (.cells (oC id k s0 c0 A0 24 dd0 cl) 27)) 27 (oC id k s0 c0 A0 24 dd0 cl))
     simp only [World.size_alloc] at NW0
     have NW:=hZ NW0
     clear NW0 c1 HF
     go_wp2_with (at_builtin;go_loud (refine wpList_append_own _ rfl _ _ 46 rfl w.heap.size 27 i0 _ 6 64 Tryz.underlying46 HI.out HZ0.out HZ1.out HZ2.out rfl (by decide) _ _ _ rfl ZO.out ⟨wr.heap.size+1,0,none⟩ 1 1 (oC id k s0 c0 A0 24 dd0 cl).toList rfl rfl NW.out (one6 id k s0 c0 A0 24 dd0 cl) (by simp [maxLen];omega) (by omega) ZB.out.size ?_);intro v' w2 hown' hgrow _;have HC2:=hZ (ZB.out.grown hgrow ZB.out.size N2.out);have HO2:=hZ hown';have V1:=hZ (S1.out.grown hgrow (own_ne ZO.out S1.out (by decide)));have V2:=hZ (S2.out.grown hgrow (own_ne ZO.out S2.out (by decide)));clear hown' hgrow)
     go_roundw
     case rel=>
      refine⟨i+1,hlt,by go_num,?_,V1,V2,HC2⟩
      rw [HSn.out,List.flatMap_append,List.flatMap_singleton,HE.out]
      exact HO2
     case measure=>simp [Go.RowKit.intOf]<;>omega
    ·replace HF:=hZ (HF.out.trans (if_neg (fun h=>h2 h.2)))
     have HE:=hZ (enc_few ((id,(k,s0,c0,xs),cl),(A0,dd0)) 66 (by have:=HF.out;exact this.symm))
     have c1:=hZ (show Below wr.heap.size wr (wr.alloc (.cells (oC id k s0 c0 A0 66 dd0 cl) 27)) from (Below.refl _ _).alloc (Nat.le_refl _) _)
     have c2:=hZ (show Below wr.heap.size wr ((wr.alloc (.cells (oC id k s0 c0 A0 66 dd0 cl) 27)).alloc (.cells (oC id k s0 c0 A0 66 dd0 cl) 27)) from c1.out.alloc c1.out.size _)
     have S1:=hZ (R1.out.keep c2.out)
     have S2:=hZ (R2.out.keep c2.out)
     have ZO:=hZ (own_keep HO.out c2.out)
     have ZB:=hZ (HC.out.trans (c2.out.mono HC.out.size))
     have N2:=hZ (fun g hg=>(ZO.out.lt g hg).1)
     have NW0:=World.news_of_block (Box.new (wr.alloc (.cells (oC id k s0 c0 A0 66 dd0 cl) 27)) 27 (oC id k s0 c0 A0 66 dd0 cl))
     simp only [World.size_alloc] at NW0
     have NW:=hZ NW0
     clear NW0 c1 HF
     go_wp2_with (at_builtin;go_loud (refine wpList_append_own _ rfl _ _ 46 rfl w.heap.size 27 i0 _ 6 64 Tryz.underlying46 HI.out HZ0.out HZ1.out HZ2.out rfl (by decide) _ _ _ rfl ZO.out ⟨wr.heap.size+1,0,none⟩ 1 1 (oC id k s0 c0 A0 66 dd0 cl).toList rfl rfl NW.out (one6 id k s0 c0 A0 66 dd0 cl) (by simp [maxLen];omega) (by omega) ZB.out.size ?_);intro v' w2 hown' hgrow _;have HC2:=hZ (ZB.out.grown hgrow ZB.out.size N2.out);have HO2:=hZ hown';have V1:=hZ (S1.out.grown hgrow (own_ne ZO.out S1.out (by decide)));have V2:=hZ (S2.out.grown hgrow (own_ne ZO.out S2.out (by decide)));clear hown' hgrow)
     go_roundw
     case rel=>
      refine⟨i+1,hlt,by go_num,?_,V1,V2,HC2⟩
      rw [HSn.out,List.flatMap_append,List.flatMap_singleton,HE.out]
      exact HO2
     case measure=>simp [Go.RowKit.intOf]<;>omega
   ·obtain rfl:m=l:=by omega
    clear hm
    have hl7:(m:Int)≤66:=by omega
    by_cases h1:(m:Int)>24
    ·have h24:(24:Int)≤(m:Int):=by omega
     by_cases h2:s0>6
     ·have h24d:(24:Int)≤(dd0:Int):=by omega
      replace HF:=hZ (HF.out.trans (if_pos ⟨by omega,h2⟩))
      have HE:=hZ (enc_few ((id,(k,s0,c0,xs),cl),(A0,dd0)) 24 (by have:=HF.out;exact this.symm))
      have c1:=hZ (show Below wr.heap.size wr (wr.alloc (.cells (oC id k s0 c0 A0 24 dd0 cl) 27)) from (Below.refl _ _).alloc (Nat.le_refl _) _)
      have c2:=hZ (show Below wr.heap.size wr ((wr.alloc (.cells (oC id k s0 c0 A0 24 dd0 cl) 27)).alloc (.cells (oC id k s0 c0 A0 24 dd0 cl) 27)) from c1.out.alloc c1.out.size _)
      have S1:=hZ (R1.out.keep c2.out)
      have S2:=hZ (R2.out.keep c2.out)
      have ZO:=hZ (own_keep HO.out c2.out)
      have ZB:=hZ (HC.out.trans (c2.out.mono HC.out.size))
      have N2:=hZ (fun g hg=>(ZO.out.lt g hg).1)
      have NW0:=World.news_of_block (Box.new (wr.alloc (.cells (oC id k s0 c0 A0 24 dd0 cl) 27)) 27 (oC id k s0 c0 A0 24 dd0 cl))
      simp only [World.size_alloc] at NW0
      have NW:=hZ NW0
      clear NW0 c1 HF
      go_wp2_with (at_builtin;go_loud (refine wpList_append_own _ rfl _ _ 46 rfl w.heap.size 27 i0 _ 6 64 Tryz.underlying46 HI.out HZ0.out HZ1.out HZ2.out rfl (by decide) _ _ _ rfl ZO.out ⟨wr.heap.size+1,0,none⟩ 1 1 (oC id k s0 c0 A0 24 dd0 cl).toList rfl rfl NW.out (one6 id k s0 c0 A0 24 dd0 cl) (by simp [maxLen];omega) (by omega) ZB.out.size ?_);intro v' w2 hown' hgrow _;have HC2:=hZ (ZB.out.grown hgrow ZB.out.size N2.out);have HO2:=hZ hown';have V1:=hZ (S1.out.grown hgrow (own_ne ZO.out S1.out (by decide)));have V2:=hZ (S2.out.grown hgrow (own_ne ZO.out S2.out (by decide)));clear hown' hgrow)
      go_roundw
      case rel=>
       refine⟨i+1,hlt,by go_num,?_,V1,V2,HC2⟩
       rw [HSn.out,List.flatMap_append,List.flatMap_singleton,HE.out]
       exact HO2
      case measure=>simp [Go.RowKit.intOf]<;>omega
     ·replace HF:=hZ (HF.out.trans (if_neg (fun h=>h2 h.2)))
      have HE:=hZ (enc_few ((id,(k,s0,c0,xs),cl),(A0,dd0)) m (by have:=HF.out;exact this.symm))
      have c1:=hZ (show Below wr.heap.size wr (wr.alloc (.cells (oC id k s0 c0 A0 m dd0 cl) 27)) from (Below.refl _ _).alloc (Nat.le_refl _) _)
      have c2:=hZ (show Below wr.heap.size wr ((wr.alloc (.cells (oC id k s0 c0 A0 m dd0 cl) 27)).alloc (.cells (oC id k s0 c0 A0 m dd0 cl) 27)) from c1.out.alloc c1.out.size _)
      have S1:=hZ (R1.out.keep c2.out)
      have S2:=hZ (R2.out.keep c2.out)
      have ZO:=hZ (own_keep HO.out c2.out)
      have ZB:=hZ (HC.out.trans (c2.out.mono HC.out.size))
      have N2:=hZ (fun g hg=>(ZO.out.lt g hg).1)
      have NW0:=World.news_of_block (Box.new (wr.alloc (.cells (oC id k s0 c0 A0 m dd0 cl) 27)) 27 (oC id k s0 c0 A0 m dd0 cl))
      simp only [World.size_alloc] at NW0
      have NW:=hZ NW0
      clear NW0 c1 HF
      go_wp2_with (at_builtin;go_loud (refine wpList_append_own _ rfl _ _ 46 rfl w.heap.size 27 i0 _ 6 64 Tryz.underlying46 HI.out HZ0.out HZ1.out HZ2.out rfl (by decide) _ _ _ rfl ZO.out ⟨wr.heap.size+1,0,none⟩ 1 1 (oC id k s0 c0 A0 m dd0 cl).toList rfl rfl NW.out (one6 id k s0 c0 A0 m dd0 cl) (by simp [maxLen];omega) (by omega) ZB.out.size ?_);intro v' w2 hown' hgrow _;have HC2:=hZ (ZB.out.grown hgrow ZB.out.size N2.out);have HO2:=hZ hown';have V1:=hZ (S1.out.grown hgrow (own_ne ZO.out S1.out (by decide)));have V2:=hZ (S2.out.grown hgrow (own_ne ZO.out S2.out (by decide)));clear hown' hgrow)
      go_roundw
      case rel=>
       refine⟨i+1,hlt,by go_num,?_,V1,V2,HC2⟩
       rw [HSn.out,List.flatMap_append,List.flatMap_singleton,HE.out]
       exact HO2
      case measure=>simp [Go.RowKit.intOf]<;>omega
    ·have h24:¬ (24:Int)<(m:Int):=by omega
     replace HF:=hZ (HF.out.trans (if_neg (fun h=>h1 (by omega))))
     have HE:=hZ (enc_few ((id,(k,s0,c0,xs),cl),(A0,dd0)) m (by have:=HF.out;exact this.symm))
     have c1:=hZ (show Below wr.heap.size wr (wr.alloc (.cells (oC id k s0 c0 A0 m dd0 cl) 27)) from (Below.refl _ _).alloc (Nat.le_refl _) _)
     have c2:=hZ (show Below wr.heap.size wr ((wr.alloc (.cells (oC id k s0 c0 A0 m dd0 cl) 27)).alloc (.cells (oC id k s0 c0 A0 m dd0 cl) 27)) from c1.out.alloc c1.out.size _)
     have S1:=hZ (R1.out.keep c2.out)
     have S2:=hZ (R2.out.keep c2.out)
     have ZO:=hZ (own_keep HO.out c2.out)
     have ZB:=hZ (HC.out.trans (c2.out.mono HC.out.size))
     have N2:=hZ (fun g hg=>(ZO.out.lt g hg).1)
     have NW0:=World.news_of_block (Box.new (wr.alloc (.cells (oC id k s0 c0 A0 m dd0 cl) 27)) 27 (oC id k s0 c0 A0 m dd0 cl))
     simp only [World.size_alloc] at NW0
     have NW:=hZ NW0
     clear NW0 c1 HF
     go_wp2_with (at_builtin;go_loud (refine wpList_append_own _ rfl _ _ 46 rfl w.heap.size 27 i0 _ 6 64 Tryz.underlying46 HI.out HZ0.out HZ1.out HZ2.out rfl (by decide) _ _ _ rfl ZO.out ⟨wr.heap.size+1,0,none⟩ 1 1 (oC id k s0 c0 A0 m dd0 cl).toList rfl rfl NW.out (one6 id k s0 c0 A0 m dd0 cl) (by simp [maxLen];omega) (by omega) ZB.out.size ?_);intro v' w2 hown' hgrow _;have HC2:=hZ (ZB.out.grown hgrow ZB.out.size N2.out);have HO2:=hZ hown';have V1:=hZ (S1.out.grown hgrow (own_ne ZO.out S1.out (by decide)));have V2:=hZ (S2.out.grown hgrow (own_ne ZO.out S2.out (by decide)));clear hown' hgrow)
     go_roundw
     case rel=>
      refine⟨i+1,hlt,by go_num,?_,V1,V2,HC2⟩
      rw [HSn.out,List.flatMap_append,List.flatMap_singleton,HE.out]
      exact HO2
     case measure=>simp [Go.RowKit.intOf]<;>omega
  ·obtain rfl:i=kk:=by omega
   have hlt':¬ (i:Int)<(i:Int):=Int.lt_irrefl _
   obtain⟨A9,c9,rfl⟩:=own_formS6 HO.out
   have hO:=HO.out
   rw [HFw.out] at hO
   have s1:=R1.out.cell 0
   have f1:=R1.out.free 0
   have s2:=R2.out.cell 0
   have f2:=R2.out.free 0
   have hO1:=own_far hO R1.out (by decide) 0 (.slice A9 i c9)
   have S2:=R2.out.far (p:=⟨w.heap.size,0,none⟩) (by simp) (.slice A9 i c9)
   have hO2:=own_far hO1 S2 (by decide) 0 (.slice A9 i c9)
   have HO2:=hZ hO2
   have T2:=hZ (S2.put 0 (.slice A9 i c9))
   have HBz:=hZ ((HC.out.setCell (p:=⟨w.heap.size,0,none⟩) (Nat.le_refl _) (.slice A9 i c9)).setCell (p:=⟨w.heap.size+1,0,none⟩) (by simp) (.slice A9 i c9))
   clear hO hO1 hO2 S2
   go_wp2_with fail
   refine close_one Tryz.results14 rfl rfl T2.out Tryz.underlying48 rfl (by kernel_rfl) ?_
   have hfl:=HFl.out
   have h9:=HO2.out
   subst hfl
   exact⟨A9,c9,rfl,h9,HBz.out⟩
theorem alive_doR:doR [] (0,7,2,1,3,0,⟨#[]⟩)=([(7,(2,1,3,[]),0)],(0,2,[])):=by
 unfold doR
 rw [if_pos ⟨by decide,by decide,by decide⟩,if_pos rfl,if_neg (by decide),if_neg (by decide),alive_open,if_pos rfl]
 rfl
theorem alive19_any (w:World):Calls Tryz.prog 17 #[] w fun e w'=>e=.returned (.bool true)∧Below w.heap.size w w':=by
 have hO:=rdo19_any none 0 [] (0,7,2,1,3,0,⟨#[]⟩) w ⟨Nat.le_refl _,Nat.zero_le _,fun _=>⟨rfl,rfl⟩⟩ (Recs.nil _ _) (fun j=>OkD.zero w) (fun j=>⟨by simp [default],fun k=>by simp [default]⟩) (by decide)
 rw [alive_doR] at hO
 have HO:=hZ hO
 clear hO
 go_enter Tryz.func17,Tryz.ntmps17
 go_wp2_with fail
 refine HO.out.mono ?_
 rintro e w2 ⟨qs,hqs,A,d,B,c,rfl,-,-,-,-,-,-,hb⟩
 have hl:qs.length=1:=by rw [← obsR_len,hqs];rfl
 rw [hl]
 have b1:Below w2.heap.size w2 (w2.alloc (.cells #[.slice A 1 d] 48)):=(Below.refl _ _).alloc (Nat.le_refl _) _
 have b2:=b1.alloc b1.size (.cells #[.int .i64 0,.int .i64 2,.slice B 0 c] 36)
 have HB:=hZ (chain hb b2)
 clear b1 b2 hb HO hl hqs
 go_wp2_with fail
 go_ret
 exact⟨rfl,HB.out⟩
end
section
open Go.RowKit Go.Lib
set_option maxRecDepth 100000
theorem r17_no (i:Nat) (s:ByteArray):(#[Value.slice none 0 0,.int .i64 0]:Array Value)[i]?≠some (.string s):=by
 match i with
 | 0 | 1=>simp
 | n+2=>simp
theorem Box.put2s {w:World} {g:Nat} {t:TypeId} {a b u v:Value} (h:Box w g t #[a,b]):Box ((w.setCell ⟨g,0,none⟩ u).setCell ⟨g,1,none⟩ v) g t #[u,v]:=(h.put 0 u).put 1 v
theorem below_set2s {B:Nat} {w x:World} (h:Below B w x) {g:Nat} (hg:B≤g) (a b:Value):Below B w ((x.setCell ⟨g,0,none⟩ a).setCell ⟨g,1,none⟩ b):=(h.setCell (p:=⟨g,0,none⟩) hg a).setCell (p:=⟨g,1,none⟩) hg b
theorem S2_gen (a b:Array Value) (w:World):Box ((w.alloc (.cells a 25)).alloc (.cells b 76)) w.heap.size 25 a∧Box ((w.alloc (.cells a 25)).alloc (.cells b 76)) (w.heap.size+1) 76 b∧Below w.heap.size w ((w.alloc (.cells a 25)).alloc (.cells b 76)):=by
 refine⟨(Box.new w _ _).alloc _,?_,((Below.refl _ _).alloc (Nat.le_refl _) _).alloc (by simp) _⟩
 have q:=Box.new (w.alloc (.cells a 25)) 76 b
 simpa only [World.size_alloc] using q
theorem rsolve_any (k s:Nat) (c:Int) (A:Option Addr) (d:Nat) (xs:List SymR) (w:World) (hx:Syms w A xs.length xs) (hl:xs.length≤d) (hd:d≤maxLen) (hs:storeB (k:Int) (s:Int) c xs=true) (hid:Ids xs) :
  Calls Tryz.prog 33 #[.agg #[.int .i64 (k:Int),.int .i64 (s:Int),.int .i64 c,.slice A xs.length d]] w (SolveOne (solveF (k:Int) (s:Int) xs) w):=by
 obtain⟨⟨k1,k2⟩,-,hc,hlc⟩:=storeB_bd hs
 obtain⟨q0,q1,b3⟩:=S2_gen #[.int .i64 (k:Int),.int .i64 (s:Int),.int .i64 c,.slice A xs.length d] #[.slice none 0 0,.int .i64 0] w
 have HRw:=hZ (refRows12_any k s c A xs.length d xs _ (Recs.below hx b3) hl hd (by omega) (by omega) (by omega) hid)
 have HU:=hZ (fun wy (hw:Below w.heap.size w wy)=>refSumsX_any k s c A xs.length d xs wy (Recs.below hx hw) hl hd hs)
 have HK:=hZ (fun (A' S:Option Addr) (cA cS base:Nat) (w':World) hm ht h1 h2=>store_bk (A:=A') (S:=S) (cA:=cA) (cS:=cS) (base:=base) (w:=w') hs hm (hm.sl (idn_len k xs)) ht h1 h2)
 have HF:=hZ (fun (E:Int) (b:List ByteArray) (h:SvRes k s (rowsN k xs) (zs k (rowsN k xs) (dtL xs)) E b)=>solveF_eq h)
 have Q:=hZ q0
 have QR:=hZ q1
 have HB:=hZ b3
 have hk64:(k:Int)≤64:=k2
 obtain⟨r0,r1,r2,r3,-,-,-,-⟩:=Q.out.four
 obtain⟨l,hll⟩:∃ l,l=xs.length:=⟨_,rfl⟩
 clear hx b3 hs hl q0 q1 hll hc hlc k1
 go_enter Tryz.func33,Tryz.ntmps33
 go_wp2_with fail
 refine HRw.out.mono ?_
 rintro e w1 ⟨A1,c1,rfl,hm,hb⟩
 have b2:Below w1.heap.size w1 (w1.alloc (.cells #[.int .i64 (k:Int),.slice A1 xs.length c1] 102)):=(Below.refl _ _).alloc (Nat.le_refl _) _
 have hbb:=chain hb b2
 have HM:=hZ (hm.below b2)
 have QM:=hZ (Box.new w1 102 #[.int .i64 (k:Int),.slice A1 xs.length c1])
 have Q2:=hZ (Q.out.keep hbb)
 have QR2:=hZ (QR.out.keep hbb)
 have HB2:=hZ (chain HB.out hbb)
 clear hb b2 hbb hm r0 r1 r2 r3 HRw HB Q QR
 obtain⟨gm,hgm⟩:∃ g,g=w1.heap.size:=⟨_,rfl⟩
 obtain⟨w2,hw2⟩:∃ y,y=w1.alloc (.cells #[.int .i64 (k:Int),.slice A1 xs.length c1] 102):=⟨_,rfl⟩
 rw [← hgm] at QM
 rw [← hw2] at HM QM Q2 QR2 HB2
 go_upto_region 2 with (fail)
 rw [← hgm,← hw2]
 clear hgm hw2
 obtain⟨r0,r1,r2,r3,-,-,-,-⟩:=Q2.out.four
 have HUw:=hZ (HU.out _ HB2.out)
 go_wp2_with fail
 refine HUw.out.mono ?_
 rintro e w3 ⟨S,cS,rfl,ht,h1,h2,hb⟩
 have HM3:=hZ (HM.out.below hb)
 have HB3:=hZ (chain HB2.out hb)
 have Q3:=hZ (Q2.out.keep hb)
 have QR3:=hZ (QR2.out.keep hb)
 have QM3:=hZ (QM.out.keep hb)
 have HBk:=hZ (HK.out A1 S c1 cS _ w3 HM3.out ht h1 h2)
 have HFi:=hZ (refFits_any w3 HBk.out)
 clear hb ht h1 h2 r0 r1 r2 r3 HUw HM QM Q2 QR2 HB2 HU HK
 obtain⟨r0,r1,r2,r3,-,-,-,-⟩:=Q3.out.four
 obtain⟨m0,m1,-,-⟩:=QM3.out.two
 go_wp2_with fail
 refine HFi.out.mono ?_
 rintro e w4 ⟨b,hbf,rfl,hb⟩
 have HB4:=hZ (chain HB3.out hb)
 have Q4:=hZ (Q3.out.keep hb)
 have QR4:=hZ (QR3.out.keep hb)
 have QM4:=hZ (QM3.out.keep hb)
 have HBk4:=hZ (HBk.out.below hb)
 clear hb HFi HBk HM3 HB3 Q3 QR3 QM3 r0 r1 r2 r3 m0 m1
 obtain⟨r0,r1,r2,r3,-,-,-,-⟩:=Q4.out.four
 obtain⟨m0,m1,-,-⟩:=QM4.out.two
 cases b with
 | false=>
   have HE:=hZ (HF.out 10 [] (.inl ⟨rfl,fun h=>(by have:=hbf.2 h;cases this),rfl⟩))
   clear hbf HF HBk4
   obtain⟨p0,p1,f0,f1⟩:=QR4.out.two
   go_wp2_with fail
   refine close_one Tryz.results33 rfl rfl QR4.out.put2s Tryz.underlying76 rfl (by kernel_rfl) ?_
   rw [HE.out]
   exact⟨none,0,rfl,Texts.nil _ _,below_set2s HB4.out (by omega) _ _⟩
 | true=>
   have hf:=hbf.1 rfl
   have HFt:=hZ hf
   have HKn:=hZ (refKnown_any w4 HBk4.out hf)
   clear hbf hf HBk4
   go_wp2_with fail
   refine HKn.out.mono ?_
   rintro e w5 ⟨cols,blks,B1,B2,c1',c2',rfl,hi,ht,hkn,h64,hb⟩
   have b2:Below w5.heap.size w5 (w5.alloc (.cells #[.slice B1 cols.length c1',.slice B2 blks.length c2'] 108)):=(Below.refl _ _).alloc (Nat.le_refl _) _
   have hbb:=chain hb b2
   have Q5:=hZ (Q4.out.keep hbb)
   have QR5:=hZ (QR4.out.keep hbb)
   have QK:=hZ (Box.new w5 108 #[.slice B1 cols.length c1',.slice B2 blks.length c2'])
   have HT:=hZ (ht.below b2)
   have HKp:=hZ hkn
   have HB5:=hZ (chain HB4.out hbb)
   have hc64:=h64
   clear hb b2 hbb hi ht hkn h64 HKn HB4 Q4 QR4 QM4 r0 r1 r2 r3 m0 m1
   obtain⟨r0,r1,r2,r3,-,-,-,-⟩:=Q5.out.four
   obtain⟨p0,p1,f0,f1⟩:=QR5.out.two
   obtain⟨n0,n1,-,-⟩:=QK.out.two
   by_cases hlt:cols.length<k
   ·have hlt':(cols.length:Int)<(k:Int):=by omega
    have HE:=hZ (HF.out 9 [] (.inr (.inl ⟨rfl,HFt.out,rfl,cols,blks,HKp.out,hlt⟩)))
    clear HF
    go_wp2_with fail
    refine close_one Tryz.results33 rfl rfl QR5.out.put2s Tryz.underlying76 rfl (by kernel_rfl) ?_
    rw [HE.out]
    exact⟨none,0,rfl,Texts.nil _ _,below_set2s HB5.out (by omega) _ _⟩
   ·have hlt':¬ (cols.length:Int)<(k:Int):=by omega
    have HE:=hZ (HF.out 0 blks (.inr (.inr ⟨rfl,HFt.out,cols,HKp.out,hlt⟩)))
    clear HF
    go_wp2_with fail
    refine close_one Tryz.results33 rfl rfl QR5.out.put2s Tryz.underlying76 rfl (by kernel_rfl) ?_
    rw [HE.out]
    exact⟨B2,c2',rfl,(HT.out.farN (HT.out.neO QR5.out r17_no) 0 _).farN (HT.out.neO QR5.out r17_no) 1 _,below_set2s HB5.out (by omega) _ _⟩
end
section
open Go.RowKit Go.Lib
set_option maxRecDepth 100000
theorem Box.put9s {w:World} {g:Nat} {t:TypeId} {a b c d e f a1 b1 c1 u v x y z k u1 v1 x1:Value} (h:Box w g t #[a,b,c,d,e,f,a1,b1,c1]):Box (((((((((w.setCell ⟨g,0,none⟩ u).setCell ⟨g,1,none⟩ v).setCell ⟨g,2,none⟩ x).setCell ⟨g,3,none⟩ y).setCell ⟨g,4,none⟩ z).setCell ⟨g,5,none⟩ k).setCell ⟨g,6,none⟩ u1).setCell ⟨g,7,none⟩ v1).setCell ⟨g,8,none⟩ x1) g t #[u,v,x,y,z,k,u1,v1,x1]:=by
 have h0:Box (w.setCell ⟨g,0,none⟩ u) g t #[u,b,c,d,e,f,a1,b1,c1]:=h.put 0 u
 have h1:Box ((w.setCell ⟨g,0,none⟩ u).setCell ⟨g,1,none⟩ v) g t #[u,v,c,d,e,f,a1,b1,c1]:=h0.put 1 v
 have h2:Box (((w.setCell ⟨g,0,none⟩ u).setCell ⟨g,1,none⟩ v).setCell ⟨g,2,none⟩ x) g t #[u,v,x,d,e,f,a1,b1,c1]:=h1.put 2 x
 have h3:Box ((((w.setCell ⟨g,0,none⟩ u).setCell ⟨g,1,none⟩ v).setCell ⟨g,2,none⟩ x).setCell ⟨g,3,none⟩ y) g t #[u,v,x,y,e,f,a1,b1,c1]:=h2.put 3 y
 have h4:Box (((((w.setCell ⟨g,0,none⟩ u).setCell ⟨g,1,none⟩ v).setCell ⟨g,2,none⟩ x).setCell ⟨g,3,none⟩ y).setCell ⟨g,4,none⟩ z) g t #[u,v,x,y,z,f,a1,b1,c1]:=h3.put 4 z
 have h5:Box ((((((w.setCell ⟨g,0,none⟩ u).setCell ⟨g,1,none⟩ v).setCell ⟨g,2,none⟩ x).setCell ⟨g,3,none⟩ y).setCell ⟨g,4,none⟩ z).setCell ⟨g,5,none⟩ k) g t #[u,v,x,y,z,k,a1,b1,c1]:=h4.put 5 k
 have h6:Box (((((((w.setCell ⟨g,0,none⟩ u).setCell ⟨g,1,none⟩ v).setCell ⟨g,2,none⟩ x).setCell ⟨g,3,none⟩ y).setCell ⟨g,4,none⟩ z).setCell ⟨g,5,none⟩ k).setCell ⟨g,6,none⟩ u1) g t #[u,v,x,y,z,k,u1,b1,c1]:=h5.put 6 u1
 have h7:Box ((((((((w.setCell ⟨g,0,none⟩ u).setCell ⟨g,1,none⟩ v).setCell ⟨g,2,none⟩ x).setCell ⟨g,3,none⟩ y).setCell ⟨g,4,none⟩ z).setCell ⟨g,5,none⟩ k).setCell ⟨g,6,none⟩ u1).setCell ⟨g,7,none⟩ v1) g t #[u,v,x,y,z,k,u1,v1,c1]:=h6.put 7 v1
 have h8:Box (((((((((w.setCell ⟨g,0,none⟩ u).setCell ⟨g,1,none⟩ v).setCell ⟨g,2,none⟩ x).setCell ⟨g,3,none⟩ y).setCell ⟨g,4,none⟩ z).setCell ⟨g,5,none⟩ k).setCell ⟨g,6,none⟩ u1).setCell ⟨g,7,none⟩ v1).setCell ⟨g,8,none⟩ x1) g t #[u,v,x,y,z,k,u1,v1,x1]:=h7.put 8 x1
 exact h8
theorem below_set9s {B:Nat} {w0 w:World} (h:Below B w0 w) {g:Nat} (hg:B≤g) (u v x y z k u1 v1 x1:Value):Below B w0 (((((((((w.setCell ⟨g,0,none⟩ u).setCell ⟨g,1,none⟩ v).setCell ⟨g,2,none⟩ x).setCell ⟨g,3,none⟩ y).setCell ⟨g,4,none⟩ z).setCell ⟨g,5,none⟩ k).setCell ⟨g,6,none⟩ u1).setCell ⟨g,7,none⟩ v1).setCell ⟨g,8,none⟩ x1):=
 (((below_set6o h hg u v x y z k).setCell (p:=⟨g,6,none⟩) hg u1).setCell (p:=⟨g,7,none⟩) hg v1).setCell (p:=⟨g,8,none⟩) hg x1
theorem Texts.far9s {w:World} {g:Nat} {A:Option Addr} {l:Nat} {ss:List ByteArray} (h:Texts w A l ss) (hn:∀ b off,A=some ⟨b,off,none⟩→0<l→b≠g) (u v x y z k u1 v1 x1:Value):Texts (((((((((w.setCell ⟨g,0,none⟩ u).setCell ⟨g,1,none⟩ v).setCell ⟨g,2,none⟩ x).setCell ⟨g,3,none⟩ y).setCell ⟨g,4,none⟩ z).setCell ⟨g,5,none⟩ k).setCell ⟨g,6,none⟩ u1).setCell ⟨g,7,none⟩ v1).setCell ⟨g,8,none⟩ x1) A l ss:=
 ((((((((h.farN hn 0 u).farN hn 1 v).farN hn 2 x).farN hn 3 y).farN hn 4 z).farN hn 5 k).farN hn 6 u1).farN hn 7 v1).farN hn 8 x1
theorem Syms.far9s {w:World} {g:Nat} {A:Option Addr} {l:Nat} {xs:List SymR} (h:Syms w A l xs) (hn:∀ b off,A=some ⟨b,off,none⟩→0<l→b≠g) (u v x y z k u1 v1 x1:Value):Syms (((((((((w.setCell ⟨g,0,none⟩ u).setCell ⟨g,1,none⟩ v).setCell ⟨g,2,none⟩ x).setCell ⟨g,3,none⟩ y).setCell ⟨g,4,none⟩ z).setCell ⟨g,5,none⟩ k).setCell ⟨g,6,none⟩ u1).setCell ⟨g,7,none⟩ v1).setCell ⟨g,8,none⟩ x1) A l xs:=
 ((((((((Recs.farB h hn 0 u).farB hn 1 v).farB hn 2 x).farB hn 3 y).farB hn 4 z).farB hn 5 k).farB hn 6 u1).farB hn 7 v1).farB hn 8 x1
theorem dz_no (i:Nat) (s:ByteArray):dZ[i]?≠some (.string s):=by
 match i with
 | 0 | 1 | 2 | 3 | 4 | 5 | 6 | 7 | 8=>simp
 | n+9=>simp
def DOutW (o:ObR) (r:ReplyR) (w:World) (e:Ending) (w':World):Prop:=
 ∃ A d B c,e=.returned (.agg #[.int .u64 (o.1:Nat),.int .i64 o.2.1.1,.int .i64 o.2.1.2.1,.int .i64 o.2.1.2.2.1,.slice A o.2.1.2.2.2.length d,.int .i64 o.2.2,.int .i64 r.1,.int .i64 r.2.1,.slice B r.2.2.length c])∧SliceOk A o.2.1.2.2.2.length d∧Syms w' A o.2.1.2.2.2.length o.2.1.2.2.2∧Texts w' B r.2.2.length r.2.2∧Below w.heap.size w w'
theorem D3_gen (t1:TypeId) (a c b:Array Value) (w:World):Box (((w.alloc (.cells a 27)).alloc (.cells c t1)).alloc (.cells b 40)) w.heap.size 27 a∧Box (((w.alloc (.cells a 27)).alloc (.cells c t1)).alloc (.cells b 40)) (w.heap.size+1) t1 c∧Box (((w.alloc (.cells a 27)).alloc (.cells c t1)).alloc (.cells b 40)) (w.heap.size+1+1) 40 b∧Below w.heap.size w (((w.alloc (.cells a 27)).alloc (.cells c t1)).alloc (.cells b 40)):=by
 refine⟨((Box.new w _ _).alloc _).alloc _,?_,?_,(((Below.refl _ _).alloc (Nat.le_refl _) _).alloc (by simp) _).alloc (by simp;omega) _⟩
 ·have q:=(Box.new (w.alloc (.cells a 27)) t1 c).alloc (.cells b 40)
  simpa only [World.size_alloc] using q
 ·have q:=Box.new ((w.alloc (.cells a 27)).alloc (.cells c t1)) 40 b
  simpa only [World.size_alloc] using q
noncomputable def addO (o:ObR) (x:SymR):ObR×ReplyR:=
 if whyI o.2.1.2.1 o.2.1.2.2.1 o.2.1.2.2.2 x=0 then ((o.1,(o.2.1.1,o.2.1.2.1,o.2.1.2.2.1,o.2.1.2.2.2++[x]),o.2.2),(0,(rankF o.2.1.1 (o.2.1.2.2.2++[x]):Int),[])) else (o,(whyI o.2.1.2.1 o.2.1.2.2.1 o.2.1.2.2.2 x,0,[]))
theorem radd_no (id:Nat) (k s cp:Int) (xs:List SymR) (cl:Int) (A:Option Addr) (d:Nat) (x:SymR) (w:World) (hl:xs.length≤66) (hs:SliceOk A xs.length d) (hx:Syms w A xs.length xs) (hE:¬ whyI s cp xs x=0) :
  Calls Tryz.prog 31 #[.agg (obA (id,(k,s,cp,xs),cl) A d),.agg #[.int .u64 (x.1:Int),.string x.2]] w (DOutW (id,(k,s,cp,xs),cl) (whyI s cp xs x,0,[]) w):=by
 have HW:=hZ (fun wy (hw:Below w.heap.size w wy)=>refWhy_any k s cp A xs.length d xs x wy (Recs.below hx hw) (by unfold maxLen;omega))
 obtain⟨E,hEe⟩:∃ E,E=whyI s cp xs x:=⟨_,rfl⟩
 rw [← hEe] at HW hE ⊢
 have t9:(E != 0)=true:=by simpa using hE
 have HX:=hZ hx
 have HS:=hZ hs
 clear hEe hE hs hx
 obtain⟨z0,z1,z2,b5⟩:=D3_gen 29 (obA (id,(k,s,cp,xs),cl) A d) #[.int .u64 (x.1:Int),.string x.2] dZ w
 have Q0:=hZ z0
 have Q1:=hZ z1
 have Q2:=hZ z2
 have HB:=hZ b5
 obtain⟨r0,r1,r2,r3,r4,r5⟩:=Q0.out.sixO
 obtain⟨v0,v1,-,-⟩:=Q1.out.two
 clear z0 z1 z2 b5
 have HWw:=hZ (HW.out _ HB.out)
 clear HW
 go_enter Tryz.func31,Tryz.ntmps31
 go_wp2_with fail
 refine HWw.out.mono ?_
 rintro e w2 ⟨rfl,hb⟩
 have P0:=hZ (Q0.out.keep hb)
 have P1:=hZ (Q1.out.keep hb)
 have P2:=hZ (Q2.out.keep hb)
 have HB2:=hZ (chain HB.out hb)
 clear hb HWw r0 r1 r2 r3 r4 r5 v0 v1
 obtain⟨r0,r1,r2,r3,r4,r5⟩:=P0.out.sixO
 obtain⟨v0,v1,-,-⟩:=P1.out.two
 have q0:=P2.out.cell 0
 have f0:=P2.out.free 0
 have q1:=P2.out.cell 1
 have f1:=P2.out.free 1
 have q2:=P2.out.cell 2
 have f2:=P2.out.free 2
 have q3:=P2.out.cell 3
 have f3:=P2.out.free 3
 have q4:=P2.out.cell 4
 have f4:=P2.out.free 4
 have q5:=P2.out.cell 5
 have f5:=P2.out.free 5
 have q6:=P2.out.cell 6
 have f6:=P2.out.free 6
 have q7:=P2.out.cell 7
 have f7:=P2.out.free 7
 have q8:=P2.out.cell 8
 have f8:=P2.out.free 8
 go_wp2_with fail
 refine close_one Tryz.results31 rfl rfl P2.out.put9s Tryz.underlying40 rfl (by kernel_rfl) ?_
 exact⟨A,d,none,0,rfl,HS.out,Syms.far9s (Recs.below HX.out HB2.out) (Syms.neO (Recs.below HX.out HB2.out) P2.out dz_no) _ _ _ _ _ _ _ _ _,Texts.nil _ _,below_set9s HB2.out (show w.heap.size≤w.heap.size+1+1 by omega) _ _ _ _ _ _ _ _ _⟩
theorem radd_yes (id:Nat) (k:Nat) (s cp:Int) (xs:List SymR) (cl:Int) (A:Option Addr) (d:Nat) (x:SymR) (w:World) (hst:storeB (k:Int) s cp xs=true) (hs:SliceOk A xs.length d) (hx:Syms w A xs.length xs) (hi:Ids xs) (hci:x.1<18446744073709551616) (hE:whyI s cp xs x=0) :
  Calls Tryz.prog 31 #[.agg (obA (id,((k:Int),s,cp,xs),cl) A d),.agg #[.int .u64 (x.1:Int),.string x.2]] w (DOutW (id,((k:Int),s,cp,xs++[x]),cl) (0,(rankF (k:Int) (xs++[x]):Int),[]) w):=by
 have hb4:=storeB_bd hst
 have hl64:xs.length≤64:=by have:=hb4.2.2.1;have:=hb4.2.2.2;omega
 have HW:=hZ (fun wy (hw:Below w.heap.size w wy)=>refWhy_any k s cp A xs.length d xs x wy (Recs.below hx hw) (by unfold maxLen;omega))
 rw [hE] at HW
 have hE2:addE (k:Int) s cp xs x=0:=by rw [addE_yes hst];exact hE
 have hg:=storeB_grow hE2
 have hg4:=storeB_bd hg
 have HA:=hZ (fun wy (hw:Below w.heap.size w wy)=>refAdd12_any k s cp A xs.length d xs x wy (Recs.below hx hw) hl64)
 have hiy:Ids (xs++[x]):=ids_snoc hi hci
 obtain⟨ys,hys⟩:∃ y,y=xs++[x]:=⟨_,rfl⟩
 rw [← hys] at HA hg hiy hg4 ⊢
 have HRa:=hZ (fun (A':Option Addr) (d':Nat) (wy:World) (hz:Syms wy A' ys.length ys) (h1:ys.length≤d') (h2:d'≤maxLen)=>refRank12_any k s cp A' ys.length d' ys wy hz h1 h2 (by omega) (by omega) (by omega) hiy)
 clear hiy hg hys hE2 hE hb4 hl64 hs hx hi hst hci hg4
 obtain⟨z0,z1,z2,b5⟩:=D3_gen 29 (obA (id,((k:Int),s,cp,xs),cl) A d) #[.int .u64 (x.1:Int),.string x.2] dZ w
 have Q0:=hZ z0
 have Q1:=hZ z1
 have Q2:=hZ z2
 have HB:=hZ b5
 obtain⟨r0,r1,r2,r3,r4,r5⟩:=Q0.out.sixO
 obtain⟨v0,v1,-,-⟩:=Q1.out.two
 clear z0 z1 z2 b5
 have HWw:=hZ (HW.out _ HB.out)
 clear HW
 go_enter Tryz.func31,Tryz.ntmps31
 go_wp2_with fail
 refine HWw.out.mono ?_
 rintro e w2 ⟨rfl,hb⟩
 have P0:=hZ (Q0.out.keep hb)
 have P1:=hZ (Q1.out.keep hb)
 have P2:=hZ (Q2.out.keep hb)
 have HB2:=hZ (chain HB.out hb)
 clear hb HWw r0 r1 r2 r3 r4 r5 v0 v1
 obtain⟨r0,r1,r2,r3,r4,r5⟩:=P0.out.sixO
 obtain⟨v0,v1,-,-⟩:=P1.out.two
 have HAw:=hZ (HA.out _ HB2.out)
 go_wp2_with fail
 refine HAw.out.mono ?_
 rintro e w3 ⟨A',d',rfl,hz,hz1,hz2,hz3,-,hb⟩
 have M0:=hZ (P0.out.keep hb)
 have M1:=hZ (P1.out.keep hb)
 have M2:=hZ (P2.out.keep hb)
 have HB3:=hZ (chain HB2.out hb)
 have HZ:=hZ hz
 have HSl:=hZ (show SliceOk A' ys.length d' from ⟨hz1,hz2,fun e=>⟨by have:=hz3 e;omega,hz3 e⟩⟩)
 clear hb HAw HA hz hz1 hz2 hz3 r0 r1 r2 r3 r4 r5 v0 v1
 obtain⟨r0,r1,r2,r3,r4,r5⟩:=M0.out.sixO
 obtain⟨v0,v1,-,-⟩:=M1.out.two
 have f1:=M0.out.free 1
 have f2:=M0.out.free 2
 have f3:=M0.out.free 3
 have f4:=M0.out.free 4
 obtain⟨w5,hw5⟩:∃ y,y=((((w3.setCell ⟨w.heap.size,1,none⟩ (.int .i64 k)).setCell ⟨w.heap.size,2,none⟩ (.int .i64 s)).setCell ⟨w.heap.size,3,none⟩ (.int .i64 cp)).setCell ⟨w.heap.size,4,none⟩ (.slice A' ys.length d')):=⟨_,rfl⟩
 have L0:=hZ (show Box w5 w.heap.size 27 (obA (id,((k:Int),s,cp,ys),cl) A' d') from hw5 ▸ M0.out.put4h)
 have L2:=hZ (show Box w5 (w.heap.size+1+1) 40 dZ from hw5 ▸ M2.out.far4h (by omega) (.int .i64 k) (.int .i64 s) (.int .i64 cp) (.slice A' ys.length d'))
 have HZ5:=hZ (show Syms w5 A' ys.length ys from hw5 ▸ Syms.far4h HZ.out (Syms.neO HZ.out M0.out (obA_no _ _ _)) (.int .i64 k) (.int .i64 s) (.int .i64 cp) (.slice A' ys.length d'))
 have HB5:=hZ (show Below w.heap.size w w5 from hw5 ▸ below_set4h HB3.out (Nat.le_refl _) (.int .i64 k) (.int .i64 s) (.int .i64 cp) (.slice A' ys.length d'))
 clear HZ HB2 HB3
 go_upto_region 5 with (fail)
 rw [← hw5]
 clear hw5 M0 M1 M2 P0 P1 P2 f1 f2 f3 f4 r0 r1 r2 r3 r4 r5 v0 v1
 obtain⟨r0,r1,r2,r3,r4,r5⟩:=L0.out.sixO
 have BC:=hZ HB5.out.drew
 have BD:=hZ (Below.refl w5.heap.size w5).drew
 refine wp_held_tail (S:=(fun (w':World)=>w'.cell? ⟨w.heap.size,0,none⟩=some (.int .u64 (id:Int))∧w'.cell? ⟨w.heap.size,1,none⟩=some (.int .i64 (k:Int))∧w'.cell? ⟨w.heap.size,2,none⟩=some (.int .i64 s)∧w'.cell? ⟨w.heap.size,3,none⟩=some (.int .i64 cp)∧w'.cell? ⟨w.heap.size,4,none⟩=some (.slice A' ys.length d')∧w'.cell? ⟨w.heap.size,5,none⟩=some (.int .i64 cl))) 6 (by kernel_rfl) (by decide) ?_
 have hS:=hZ (show (fun (w':World)=>w'.cell? ⟨w.heap.size,0,none⟩=some (.int .u64 (id:Int))∧w'.cell? ⟨w.heap.size,1,none⟩=some (.int .i64 (k:Int))∧w'.cell? ⟨w.heap.size,2,none⟩=some (.int .i64 s)∧w'.cell? ⟨w.heap.size,3,none⟩=some (.int .i64 cp)∧w'.cell? ⟨w.heap.size,4,none⟩=some (.slice A' ys.length d')∧w'.cell? ⟨w.heap.size,5,none⟩=some (.int .i64 cl)) w5.drew from ⟨r0,r1,r2,r3,r4,r5⟩)
 replace hS:=hS.out
 refine headH_take (i:=0) (v:=?_) rfl (by kernel_rfl) (fun _ _ _ h=>h) (fun _ _ _ h=>seqB_ready h.1) (Or.inl ⟨by rfl,?y1⟩) hS ?r1
 case y1=>intro w hSw;(try dsimp only at hSw);obtain⟨hc0,hc1,hc2,hc3,hc4,hc5⟩:=hSw;go_simp;try (with_reducible rfl)
 case r1=>
 try simp only [pZa,pZb,pZc,pZd]
 refine headH_take (i:=1) (v:=?_) rfl (by kernel_rfl) (fun _ _ _ h=>h) (fun _ _ _ h=>seqB_ready h.1) (Or.inl ⟨by rfl,?y2⟩) hS ?r2
 case y2=>intro w hSw;(try dsimp only at hSw);obtain⟨hc0,hc1,hc2,hc3,hc4,hc5⟩:=hSw;go_simp;try (with_reducible rfl)
 case r2=>
 try simp only [pZa,pZb,pZc,pZd]
 refine headH_take (i:=2) (v:=?_) rfl (by kernel_rfl) (fun _ _ _ h=>h) (fun _ _ _ h=>seqB_ready h.1) (Or.inl ⟨by rfl,?y3⟩) hS ?r3
 case y3=>intro w hSw;(try dsimp only at hSw);obtain⟨hc0,hc1,hc2,hc3,hc4,hc5⟩:=hSw;go_simp;try (with_reducible rfl)
 case r3=>
 try simp only [pZa,pZb,pZc,pZd]
 refine headH_one (i:=3) (by kernel_rfl) rfl (fun K hK=>?_)
 go_simp
 refine (HRa.out A' d' _ (Recs.below HZ5.out BD.out) HSl.out.1 HSl.out.2.1).mono ?_
 rintro e x1 ⟨nn,rfl,hrk,hb⟩
 have HRk:=hZ (rankF_eq hrk)
 replace BC:=hZ (chain BC.out hb)
 replace BD:=hZ (chain BD.out hb)
 clear hb hrk r0 r1 r2 r3 r4 r5
 obtain⟨r0,r1,r2,r3,r4,r5⟩:=(L0.out.keep BD.out).sixO
 have R2:=hZ (L2.out.keep BD.out)
 have HZ6:=hZ (Recs.below HZ5.out BD.out)
 have q0:=R2.out.cell 0
 have f0:=R2.out.free 0
 have q1:=R2.out.cell 1
 have f1:=R2.out.free 1
 have q2:=R2.out.cell 2
 have f2:=R2.out.free 2
 have q3:=R2.out.cell 3
 have f3:=R2.out.free 3
 have q4:=R2.out.cell 4
 have f4:=R2.out.free 4
 have q5:=R2.out.cell 5
 have f5:=R2.out.free 5
 have q6:=R2.out.cell 6
 have f6:=R2.out.free 6
 have q7:=R2.out.cell 7
 have f7:=R2.out.free 7
 have q8:=R2.out.cell 8
 have f8:=R2.out.free 8
 refine hK.out _ _ (show (fun (w':World)=>w'.cell? ⟨w.heap.size,0,none⟩=some (.int .u64 (id:Int))∧w'.cell? ⟨w.heap.size,1,none⟩=some (.int .i64 (k:Int))∧w'.cell? ⟨w.heap.size,2,none⟩=some (.int .i64 s)∧w'.cell? ⟨w.heap.size,3,none⟩=some (.int .i64 cp)∧w'.cell? ⟨w.heap.size,4,none⟩=some (.slice A' ys.length d')∧w'.cell? ⟨w.heap.size,5,none⟩=some (.int .i64 cl)) x1 from ⟨r0,r1,r2,r3,r4,r5⟩) (fun hS=>?_)
 clear hK K
 refine headH_take (i:=4) (v:=?_) rfl (by kernel_rfl) (fun _ _ _ h=>h) (fun _ _ _ h=>seqB_ready h.1) (Or.inl ⟨by rfl,?y4⟩) hS ?r4
 case y4=>intro w hSw;(try dsimp only at hSw);obtain⟨hc0,hc1,hc2,hc3,hc4,hc5⟩:=hSw;go_simp;try (with_reducible rfl)
 case r4=>
 try simp only [pZa,pZb,pZc,pZd]
 refine headH_take (i:=5) (v:=?_) rfl (by kernel_rfl) (fun _ _ _ h=>h) (fun _ _ _ h=>seqB_ready h.1) (Or.inl ⟨by rfl,?y5⟩) hS ?r5
 case y5=>intro w hSw;(try dsimp only at hSw);obtain⟨hc0,hc1,hc2,hc3,hc4,hc5⟩:=hSw;go_simp;try (with_reducible rfl)
 case r5=>
 try simp only [pZa,pZb,pZc,pZd]
 refine⟨by kernel_rfl,?_⟩
 go_wp2_with fail
 rw [HRk.out]
 refine close_one Tryz.results31 rfl rfl R2.out.put9s Tryz.underlying40 rfl (by kernel_rfl) ?_
 exact⟨A',d',none,0,rfl,HSl.out,Syms.far9s HZ6.out (Syms.neO HZ6.out R2.out dz_no) _ _ _ _ _ _ _ _ _,Texts.nil _ _,below_set9s BC.out (show w.heap.size≤w.heap.size+1+1 by omega) _ _ _ _ _ _ _ _ _⟩
end
section
open Go.RowKit Go.Lib
set_option maxRecDepth 100000
theorem radd_any (o:ObR) (A:Option Addr) (d:Nat) (x:SymR) (w:World) (hr:rightO o=true) (hs:SliceOk A o.2.1.2.2.2.length d) (hx:Syms w A o.2.1.2.2.2.length o.2.1.2.2.2) (hi:Ids o.2.1.2.2.2) (hci:x.1<18446744073709551616) :
  Calls Tryz.prog 31 #[.agg (obA o A d),.agg #[.int .u64 (x.1:Int),.string x.2]] w (DOutW (addO o x).1 (addO o x).2 w):=by
 have hst:=right_store hr
 obtain⟨⟨k1,k2⟩,-,hcp,hlc⟩:=storeB_bd hst
 obtain⟨id,⟨k,s,cp,xs⟩,cl⟩:=o
 unfold addO
 by_cases hE:whyI s cp xs x=0
 ·rw [if_pos hE]
  obtain⟨kn,rfl⟩:=Int.eq_ofNat_of_zero_le (show 0≤k from by have:(1:Int)≤k:=k1;omega)
  exact radd_yes id kn s cp xs cl A d x w hst hs hx hi hci hE
 ·rw [if_neg hE]
  exact radd_no id k s cp xs cl A d x w (by have h1:(xs.length:Int)≤cp:=hlc;have h2:=hcp.2;have h3:cp≤64:=h2;omega) hs hx hE
theorem rdo_no (o:ObR) (A:Option Addr) (d:Nat) (wh:Int) (ct:Nat×Int×Int×Int×Nat×ByteArray) (w:World) (hs:SliceOk A o.2.1.2.2.2.length d) (hx:Syms w A o.2.1.2.2.2.length o.2.1.2.2.2) (hn:¬ (rightO o=true∧0≤wh∧wh≤4)) :
  Calls Tryz.prog 10 #[.agg (obA o A d),callV (wh,ct)] w (DOutW o (1,0,[]) w):=by
 have HR:=hZ (fun wy (hw:Below w.heap.size w wy)=>oright18_any (.agg (obA o A d)) o wy ⟨A,d,rfl,hs,Recs.below hx hw⟩)
 obtain⟨z0,z1,z2,b5⟩:=D3_gen 31 (obA o A d) (callL (wh,ct)).toArray dZ w
 have Q0:=hZ z0
 have Q1:=hZ z1
 have Q2:=hZ z2
 have HB:=hZ b5
 have HX:=hZ hx
 have HS:=hZ hs
 obtain⟨r0,r1,r2,r3,r4,r5⟩:=Q0.out.sixO
 obtain⟨v0,v1,v2,v3,v4,v5,v6⟩:=Q1.out.sevenO
 clear z0 z1 z2 b5
 cases hr:rightO o with
 | false=>
   rw [hr] at HR
   clear hr hn
   have HRw:=hZ (HR.out _ HB.out)
   go_enter Tryz.func10,Tryz.ntmps10
   go_wp2_with fail
   refine HRw.out.mono ?_
   rintro e w2 ⟨rfl,hb⟩
   have P0:=hZ (Q0.out.keep hb)
   have P1:=hZ (Q1.out.keep hb)
   have P2:=hZ (Q2.out.keep hb)
   have HB2:=hZ (chain HB.out hb)
   clear hb HRw HR hx hs r0 r1 r2 r3 r4 r5 v0 v1 v2 v3 v4 v5 v6
   obtain⟨r0,r1,r2,r3,r4,r5⟩:=P0.out.sixO
   obtain⟨v0,v1,v2,v3,v4,v5,v6⟩:=P1.out.sevenO
   have q0:=P2.out.cell 0
   have f0:=P2.out.free 0
   have q1:=P2.out.cell 1
   have f1:=P2.out.free 1
   have q2:=P2.out.cell 2
   have f2:=P2.out.free 2
   have q3:=P2.out.cell 3
   have f3:=P2.out.free 3
   have q4:=P2.out.cell 4
   have f4:=P2.out.free 4
   have q5:=P2.out.cell 5
   have f5:=P2.out.free 5
   have q6:=P2.out.cell 6
   have f6:=P2.out.free 6
   have q7:=P2.out.cell 7
   have f7:=P2.out.free 7
   have q8:=P2.out.cell 8
   have f8:=P2.out.free 8
   go_wp2_with fail
   refine close_one Tryz.results10 rfl rfl P2.out.put9s Tryz.underlying40 rfl (by kernel_rfl) ?_
   exact⟨A,d,none,0,rfl,HS.out,Syms.far9s (Recs.below HX.out HB2.out) (Syms.neO (Recs.below HX.out HB2.out) P2.out dz_no) _ _ _ _ _ _ _ _ _,Texts.nil _ _,below_set9s HB2.out (show w.heap.size≤w.heap.size+1+1 by omega) _ _ _ _ _ _ _ _ _⟩
 | true=>
   have hn2:¬ (0≤wh∧wh≤4):=fun h=>hn ⟨hr,h⟩
   rw [hr] at HR
   clear hr hn
   by_cases h0:wh<0
   ·clear hn2
    have HRw:=hZ (HR.out _ HB.out)
    go_enter Tryz.func10,Tryz.ntmps10
    go_wp2_with fail
    refine HRw.out.mono ?_
    rintro e w2 ⟨rfl,hb⟩
    have P0:=hZ (Q0.out.keep hb)
    have P1:=hZ (Q1.out.keep hb)
    have P2:=hZ (Q2.out.keep hb)
    have HB2:=hZ (chain HB.out hb)
    clear hb HRw HR hx hs r0 r1 r2 r3 r4 r5 v0 v1 v2 v3 v4 v5 v6
    obtain⟨r0,r1,r2,r3,r4,r5⟩:=P0.out.sixO
    obtain⟨v0,v1,v2,v3,v4,v5,v6⟩:=P1.out.sevenO
    have q0:=P2.out.cell 0
    have f0:=P2.out.free 0
    have q1:=P2.out.cell 1
    have f1:=P2.out.free 1
    have q2:=P2.out.cell 2
    have f2:=P2.out.free 2
    have q3:=P2.out.cell 3
    have f3:=P2.out.free 3
    have q4:=P2.out.cell 4
    have f4:=P2.out.free 4
    have q5:=P2.out.cell 5
    have f5:=P2.out.free 5
    have q6:=P2.out.cell 6
    have f6:=P2.out.free 6
    have q7:=P2.out.cell 7
    have f7:=P2.out.free 7
    have q8:=P2.out.cell 8
    have f8:=P2.out.free 8
    go_wp2_with fail
    refine close_one Tryz.results10 rfl rfl P2.out.put9s Tryz.underlying40 rfl (by kernel_rfl) ?_
    exact⟨A,d,none,0,rfl,HS.out,Syms.far9s (Recs.below HX.out HB2.out) (Syms.neO (Recs.below HX.out HB2.out) P2.out dz_no) _ _ _ _ _ _ _ _ _,Texts.nil _ _,below_set9s HB2.out (show w.heap.size≤w.heap.size+1+1 by omega) _ _ _ _ _ _ _ _ _⟩
   ·have h5:wh>4:=by omega
    clear hn2
    have HRw:=hZ (HR.out _ HB.out)
    go_enter Tryz.func10,Tryz.ntmps10
    go_wp2_with fail
    refine HRw.out.mono ?_
    rintro e w2 ⟨rfl,hb⟩
    have P0:=hZ (Q0.out.keep hb)
    have P1:=hZ (Q1.out.keep hb)
    have P2:=hZ (Q2.out.keep hb)
    have HB2:=hZ (chain HB.out hb)
    clear hb HRw HR hx hs r0 r1 r2 r3 r4 r5 v0 v1 v2 v3 v4 v5 v6
    obtain⟨r0,r1,r2,r3,r4,r5⟩:=P0.out.sixO
    obtain⟨v0,v1,v2,v3,v4,v5,v6⟩:=P1.out.sevenO
    have q0:=P2.out.cell 0
    have f0:=P2.out.free 0
    have q1:=P2.out.cell 1
    have f1:=P2.out.free 1
    have q2:=P2.out.cell 2
    have f2:=P2.out.free 2
    have q3:=P2.out.cell 3
    have f3:=P2.out.free 3
    have q4:=P2.out.cell 4
    have f4:=P2.out.free 4
    have q5:=P2.out.cell 5
    have f5:=P2.out.free 5
    have q6:=P2.out.cell 6
    have f6:=P2.out.free 6
    have q7:=P2.out.cell 7
    have f7:=P2.out.free 7
    have q8:=P2.out.cell 8
    have f8:=P2.out.free 8
    go_wp2_with fail
    refine close_one Tryz.results10 rfl rfl P2.out.put9s Tryz.underlying40 rfl (by kernel_rfl) ?_
    exact⟨A,d,none,0,rfl,HS.out,Syms.far9s (Recs.below HX.out HB2.out) (Syms.neO (Recs.below HX.out HB2.out) P2.out dz_no) _ _ _ _ _ _ _ _ _,Texts.nil _ _,below_set9s HB2.out (show w.heap.size≤w.heap.size+1+1 by omega) _ _ _ _ _ _ _ _ _⟩
theorem rdo_open (o:ObR) (A:Option Addr) (d:Nat) (ct:Nat×Int×Int×Int×Nat×ByteArray) (w:World) (hs:SliceOk A o.2.1.2.2.2.length d) (hx:Syms w A o.2.1.2.2.2.length o.2.1.2.2.2) (hr:rightO o=true) :
  Calls Tryz.prog 10 #[.agg (obA o A d),callV (0,ct)] w (DOutW o (11,0,[]) w):=by
 have HR:=hZ (fun wy (hw:Below w.heap.size w wy)=>oright18_any (.agg (obA o A d)) o wy ⟨A,d,rfl,hs,Recs.below hx hw⟩)
 obtain⟨z0,z1,z2,b5⟩:=D3_gen 31 (obA o A d) (callL (0,ct)).toArray dZ w
 have Q0:=hZ z0
 have Q1:=hZ z1
 have Q2:=hZ z2
 have HB:=hZ b5
 have HX:=hZ hx
 have HS:=hZ hs
 obtain⟨r0,r1,r2,r3,r4,r5⟩:=Q0.out.sixO
 obtain⟨v0,v1,v2,v3,v4,v5,v6⟩:=Q1.out.sevenO
 clear z0 z1 z2 b5
 rw [hr] at HR
 clear hr
 have HRw:=hZ (HR.out _ HB.out)
 go_enter Tryz.func10,Tryz.ntmps10
 go_wp2_with fail
 refine HRw.out.mono ?_
 rintro e w2 ⟨rfl,hb⟩
 have P0:=hZ (Q0.out.keep hb)
 have P1:=hZ (Q1.out.keep hb)
 have P2:=hZ (Q2.out.keep hb)
 have HB2:=hZ (chain HB.out hb)
 clear hb HRw HR hx hs r0 r1 r2 r3 r4 r5 v0 v1 v2 v3 v4 v5 v6
 obtain⟨r0,r1,r2,r3,r4,r5⟩:=P0.out.sixO
 obtain⟨v0,v1,v2,v3,v4,v5,v6⟩:=P1.out.sevenO
 have q0:=P2.out.cell 0
 have f0:=P2.out.free 0
 have q1:=P2.out.cell 1
 have f1:=P2.out.free 1
 have q2:=P2.out.cell 2
 have f2:=P2.out.free 2
 have q3:=P2.out.cell 3
 have f3:=P2.out.free 3
 have q4:=P2.out.cell 4
 have f4:=P2.out.free 4
 have q5:=P2.out.cell 5
 have f5:=P2.out.free 5
 have q6:=P2.out.cell 6
 have f6:=P2.out.free 6
 have q7:=P2.out.cell 7
 have f7:=P2.out.free 7
 have q8:=P2.out.cell 8
 have f8:=P2.out.free 8
 go_wp2_with fail
 refine close_one Tryz.results10 rfl rfl P2.out.put9s Tryz.underlying40 rfl (by kernel_rfl) ?_
 exact⟨A,d,none,0,rfl,HS.out,Syms.far9s (Recs.below HX.out HB2.out) (Syms.neO (Recs.below HX.out HB2.out) P2.out dz_no) _ _ _ _ _ _ _ _ _,Texts.nil _ _,below_set9s HB2.out (show w.heap.size≤w.heap.size+1+1 by omega) _ _ _ _ _ _ _ _ _⟩
theorem rdo_closed (o:ObR) (A:Option Addr) (d:Nat) (wh:Int) (ct:Nat×Int×Int×Int×Nat×ByteArray) (w:World) (hs:SliceOk A o.2.1.2.2.2.length d) (hx:Syms w A o.2.1.2.2.2.length o.2.1.2.2.2) (hr:rightO o=true) (h0:0<wh) (h4:wh≤4) (hc:o.2.2=1) :
  Calls Tryz.prog 10 #[.agg (obA o A d),callV (wh,ct)] w (DOutW o (6,0,[]) w):=by
 have HR:=hZ (fun wy (hw:Below w.heap.size w wy)=>oright18_any (.agg (obA o A d)) o wy ⟨A,d,rfl,hs,Recs.below hx hw⟩)
 obtain⟨z0,z1,z2,b5⟩:=D3_gen 31 (obA o A d) (callL (wh,ct)).toArray dZ w
 have Q0:=hZ z0
 have Q1:=hZ z1
 have Q2:=hZ z2
 have HB:=hZ b5
 have HX:=hZ hx
 have HS:=hZ hs
 obtain⟨r0,r1,r2,r3,r4,r5⟩:=Q0.out.sixO
 obtain⟨v0,v1,v2,v3,v4,v5,v6⟩:=Q1.out.sevenO
 clear z0 z1 z2 b5
 rw [hr] at HR
 have t1:¬ wh<0:=by omega
 have t2:¬ wh>4:=by omega
 have t3:(wh==0)=false:=by simpa using (show ¬ wh=0 by omega)
 have tc:(o.2.2==1)=true:=by simpa using hc
 clear h0 h4 hc hr
 have HRw:=hZ (HR.out _ HB.out)
 go_enter Tryz.func10,Tryz.ntmps10
 go_wp2_with fail
 refine HRw.out.mono ?_
 rintro e w2 ⟨rfl,hb⟩
 have P0:=hZ (Q0.out.keep hb)
 have P1:=hZ (Q1.out.keep hb)
 have P2:=hZ (Q2.out.keep hb)
 have HB2:=hZ (chain HB.out hb)
 clear hb HRw HR hx hs r0 r1 r2 r3 r4 r5 v0 v1 v2 v3 v4 v5 v6
 obtain⟨r0,r1,r2,r3,r4,r5⟩:=P0.out.sixO
 obtain⟨v0,v1,v2,v3,v4,v5,v6⟩:=P1.out.sevenO
 have q0:=P2.out.cell 0
 have f0:=P2.out.free 0
 have q1:=P2.out.cell 1
 have f1:=P2.out.free 1
 have q2:=P2.out.cell 2
 have f2:=P2.out.free 2
 have q3:=P2.out.cell 3
 have f3:=P2.out.free 3
 have q4:=P2.out.cell 4
 have f4:=P2.out.free 4
 have q5:=P2.out.cell 5
 have f5:=P2.out.free 5
 have q6:=P2.out.cell 6
 have f6:=P2.out.free 6
 have q7:=P2.out.cell 7
 have f7:=P2.out.free 7
 have q8:=P2.out.cell 8
 have f8:=P2.out.free 8
 go_wp2_with fail
 refine close_one Tryz.results10 rfl rfl P2.out.put9s Tryz.underlying40 rfl (by kernel_rfl) ?_
 exact⟨A,d,none,0,rfl,HS.out,Syms.far9s (Recs.below HX.out HB2.out) (Syms.neO (Recs.below HX.out HB2.out) P2.out dz_no) _ _ _ _ _ _ _ _ _,Texts.nil _ _,below_set9s HB2.out (show w.heap.size≤w.heap.size+1+1 by omega) _ _ _ _ _ _ _ _ _⟩
theorem rdo_add (o:ObR) (A:Option Addr) (d:Nat) (ct:Nat×Int×Int×Int×Nat×ByteArray) (w:World) (hs:SliceOk A o.2.1.2.2.2.length d) (hx:Syms w A o.2.1.2.2.2.length o.2.1.2.2.2) (hr:rightO o=true) (hi:Ids o.2.1.2.2.2) (hci:ct.2.2.2.2.1<18446744073709551616) (hc:¬ o.2.2=1) :
  Calls Tryz.prog 10 #[.agg (obA o A d),callV (1,ct)] w (DOutW (addO o (ct.2.2.2.2.1,ct.2.2.2.2.2)).1 (addO o (ct.2.2.2.2.1,ct.2.2.2.2.2)).2 w):=by
 have HR:=hZ (fun wy (hw:Below w.heap.size w wy)=>oright18_any (.agg (obA o A d)) o wy ⟨A,d,rfl,hs,Recs.below hx hw⟩)
 have tc:(o.2.2==1)=false:=by simpa using hc
 have HA:=hZ (fun wy (hw:Below w.heap.size w wy)=>radd_any o A d (ct.2.2.2.2.1,ct.2.2.2.2.2) wy hr hs (Recs.below hx hw) hi hci)
 obtain⟨ro,hro⟩:∃ x,x=addO o (ct.2.2.2.2.1,ct.2.2.2.2.2):=⟨_,rfl⟩
 rw [← hro] at HA ⊢
 obtain⟨z0,z1,z2,b5⟩:=D3_gen 31 (obA o A d) (callL (1,ct)).toArray dZ w
 have Q0:=hZ z0
 have Q1:=hZ z1
 have Q2:=hZ z2
 have HB:=hZ b5
 have HX:=hZ hx
 have HS:=hZ hs
 obtain⟨r0,r1,r2,r3,r4,r5⟩:=Q0.out.sixO
 obtain⟨v0,v1,v2,v3,v4,v5,v6⟩:=Q1.out.sevenO
 clear z0 z1 z2 b5
 rw [hr] at HR
 clear hc hr hi hci hro
 have HRw:=hZ (HR.out _ HB.out)
 go_enter Tryz.func10,Tryz.ntmps10
 go_wp2_with fail
 refine HRw.out.mono ?_
 rintro e w2 ⟨rfl,hb⟩
 have P0:=hZ (Q0.out.keep hb)
 have P1:=hZ (Q1.out.keep hb)
 have P2:=hZ (Q2.out.keep hb)
 have HB2:=hZ (chain HB.out hb)
 clear hb HRw HR hx hs r0 r1 r2 r3 r4 r5 v0 v1 v2 v3 v4 v5 v6
 obtain⟨r0,r1,r2,r3,r4,r5⟩:=P0.out.sixO
 obtain⟨v0,v1,v2,v3,v4,v5,v6⟩:=P1.out.sevenO
 have HAw:=hZ (HA.out _ HB2.out)
 clear HA
 go_wp2_with fail
 refine HAw.out.mono ?_
 rintro e w3 ⟨A2,d2,B2,c2,rfl,hs2,hx2,ht2,hb⟩
 have R0:=hZ (P0.out.keep hb)
 have R1:=hZ (P1.out.keep hb)
 have R2:=hZ (P2.out.keep hb)
 have HB3:=hZ (chain HB2.out hb)
 have HX2:=hZ hx2
 have HT2:=hZ ht2
 have HS2:=hZ hs2
 clear hb hs2 hx2 ht2 HAw r0 r1 r2 r3 r4 r5 v0 v1 v2 v3 v4 v5 v6
 have q0:=R2.out.cell 0
 have f0:=R2.out.free 0
 have q1:=R2.out.cell 1
 have f1:=R2.out.free 1
 have q2:=R2.out.cell 2
 have f2:=R2.out.free 2
 have q3:=R2.out.cell 3
 have f3:=R2.out.free 3
 have q4:=R2.out.cell 4
 have f4:=R2.out.free 4
 have q5:=R2.out.cell 5
 have f5:=R2.out.free 5
 have q6:=R2.out.cell 6
 have f6:=R2.out.free 6
 have q7:=R2.out.cell 7
 have f7:=R2.out.free 7
 have q8:=R2.out.cell 8
 have f8:=R2.out.free 8
 go_wp2_with fail
 refine close_one Tryz.results10 rfl rfl R2.out.put9s Tryz.underlying40 rfl (by kernel_rfl) ?_
 exact⟨A2,d2,B2,c2,rfl,HS2.out,Syms.far9s HX2.out (Syms.neO HX2.out R2.out dz_no) _ _ _ _ _ _ _ _ _,HT2.out.far9s (HT2.out.neO R2.out dz_no) _ _ _ _ _ _ _ _ _,below_set9s HB3.out (show w.heap.size≤w.heap.size+1+1 by omega) _ _ _ _ _ _ _ _ _⟩
theorem rdo_prog (o:ObR) (A:Option Addr) (d:Nat) (ct:Nat×Int×Int×Int×Nat×ByteArray) (w:World) (hs:SliceOk A o.2.1.2.2.2.length d) (hx:Syms w A o.2.1.2.2.2.length o.2.1.2.2.2) (hr:rightO o=true) (hi:Ids o.2.1.2.2.2) (hc:¬ o.2.2=1) :
  Calls Tryz.prog 10 #[.agg (obA o A d),callV (2,ct)] w (DOutW o (0,(rankF o.2.1.1 o.2.1.2.2.2:Int),[]) w):=by
 have HR:=hZ (fun wy (hw:Below w.heap.size w wy)=>oright18_any (.agg (obA o A d)) o wy ⟨A,d,rfl,hs,Recs.below hx hw⟩)
 have tc:(o.2.2==1)=false:=by simpa using hc
 have hst:=right_store hr
 obtain⟨⟨k1,k2⟩,⟨z1',z2'⟩,hcp,hlc⟩:=storeB_bd hst
 obtain⟨kn,hk⟩:=Int.eq_ofNat_of_zero_le (show 0≤o.2.1.1 by omega)
 have HP:=hZ (fun wy (hw:Below w.heap.size w wy)=>refRank12_any kn o.2.1.2.1 o.2.1.2.2.1 A o.2.1.2.2.2.length d o.2.1.2.2.2 wy (Recs.below hx hw) hs.1 hs.2.1 (by omega) (by omega) (by omega) hi)
 rw [← hk] at HP
 have HRf:=hZ (fun (n:Nat) (h:RkIs (rowsN kn o.2.1.2.2.2) n)=>show rankF o.2.1.1 o.2.1.2.2.2=n by rw [hk];exact rankF_eq h)
 obtain⟨z0,z1,z2,b5⟩:=D3_gen 31 (obA o A d) (callL (2,ct)).toArray dZ w
 have Q0:=hZ z0
 have Q1:=hZ z1
 have Q2:=hZ z2
 have HB:=hZ b5
 have HX:=hZ hx
 have HS:=hZ hs
 obtain⟨r0,r1,r2,r3,r4,r5⟩:=Q0.out.sixO
 obtain⟨v0,v1,v2,v3,v4,v5,v6⟩:=Q1.out.sevenO
 clear z0 z1 z2 b5
 rw [hr] at HR
 clear hc hr hi hst k1 k2 z1' z2' hcp hlc hk
 have HRw:=hZ (HR.out _ HB.out)
 go_enter Tryz.func10,Tryz.ntmps10
 go_wp2_with fail
 refine HRw.out.mono ?_
 rintro e w2 ⟨rfl,hb⟩
 have P0:=hZ (Q0.out.keep hb)
 have P1:=hZ (Q1.out.keep hb)
 have P2:=hZ (Q2.out.keep hb)
 have HB2:=hZ (chain HB.out hb)
 clear hb HRw HR hx hs r0 r1 r2 r3 r4 r5 v0 v1 v2 v3 v4 v5 v6
 obtain⟨r0,r1,r2,r3,r4,r5⟩:=P0.out.sixO
 obtain⟨v0,v1,v2,v3,v4,v5,v6⟩:=P1.out.sevenO
 go_upto_region 10 with (fail)
 have BC:=hZ HB2.out.drew
 have BD:=hZ (Below.refl w2.heap.size w2).drew
 refine wp_held_tail (S:=(fun (w':World)=>w'.cell? ⟨w.heap.size,0,none⟩=some (.int .u64 (o.1:Nat))∧w'.cell? ⟨w.heap.size,1,none⟩=some (.int .i64 o.2.1.1)∧w'.cell? ⟨w.heap.size,2,none⟩=some (.int .i64 o.2.1.2.1)∧w'.cell? ⟨w.heap.size,3,none⟩=some (.int .i64 o.2.1.2.2.1)∧w'.cell? ⟨w.heap.size,4,none⟩=some (.slice A o.2.1.2.2.2.length d)∧w'.cell? ⟨w.heap.size,5,none⟩=some (.int .i64 o.2.2))) 6 (by kernel_rfl) (by decide) ?_
 have hS:=hZ (show (fun (w':World)=>w'.cell? ⟨w.heap.size,0,none⟩=some (.int .u64 (o.1:Nat))∧w'.cell? ⟨w.heap.size,1,none⟩=some (.int .i64 o.2.1.1)∧w'.cell? ⟨w.heap.size,2,none⟩=some (.int .i64 o.2.1.2.1)∧w'.cell? ⟨w.heap.size,3,none⟩=some (.int .i64 o.2.1.2.2.1)∧w'.cell? ⟨w.heap.size,4,none⟩=some (.slice A o.2.1.2.2.2.length d)∧w'.cell? ⟨w.heap.size,5,none⟩=some (.int .i64 o.2.2)) w2.drew from ⟨r0,r1,r2,r3,r4,r5⟩)
 replace hS:=hS.out
 refine headH_take (i:=0) (v:=?_) rfl (by kernel_rfl) (fun _ _ _ h=>h) (fun _ _ _ h=>seqB_ready h.1) (Or.inl ⟨by rfl,?y1⟩) hS ?r1
 case y1=>intro w hSw;(try dsimp only at hSw);obtain⟨hc0,hc1,hc2,hc3,hc4,hc5⟩:=hSw;go_simp;try (with_reducible rfl)
 case r1=>
 try simp only [pZa,pZb,pZc,pZd]
 refine headH_take (i:=1) (v:=?_) rfl (by kernel_rfl) (fun _ _ _ h=>h) (fun _ _ _ h=>seqB_ready h.1) (Or.inl ⟨by rfl,?y2⟩) hS ?r2
 case y2=>intro w hSw;(try dsimp only at hSw);obtain⟨hc0,hc1,hc2,hc3,hc4,hc5⟩:=hSw;go_simp;try (with_reducible rfl)
 case r2=>
 try simp only [pZa,pZb,pZc,pZd]
 refine headH_take (i:=2) (v:=?_) rfl (by kernel_rfl) (fun _ _ _ h=>h) (fun _ _ _ h=>seqB_ready h.1) (Or.inl ⟨by rfl,?y3⟩) hS ?r3
 case y3=>intro w hSw;(try dsimp only at hSw);obtain⟨hc0,hc1,hc2,hc3,hc4,hc5⟩:=hSw;go_simp;try (with_reducible rfl)
 case r3=>
 try simp only [pZa,pZb,pZc,pZd]
 refine headH_one (i:=3) (by kernel_rfl) rfl (fun K hK=>?_)
 go_simp
 refine (HP.out _ BC.out).mono ?_
 rintro e x1 ⟨nn,rfl,hrk,hb⟩
 have HRk:=hZ (HRf.out nn hrk)
 replace BC:=hZ (chain BC.out hb)
 replace BD:=hZ (chain BD.out hb)
 clear hb hrk r0 r1 r2 r3 r4 r5 v0 v1 v2 v3 v4 v5 v6
 obtain⟨r0,r1,r2,r3,r4,r5⟩:=(P0.out.keep BD.out).sixO
 have R2:=hZ (P2.out.keep BD.out)
 have q0:=R2.out.cell 0
 have f0:=R2.out.free 0
 have q1:=R2.out.cell 1
 have f1:=R2.out.free 1
 have q2:=R2.out.cell 2
 have f2:=R2.out.free 2
 have q3:=R2.out.cell 3
 have f3:=R2.out.free 3
 have q4:=R2.out.cell 4
 have f4:=R2.out.free 4
 have q5:=R2.out.cell 5
 have f5:=R2.out.free 5
 have q6:=R2.out.cell 6
 have f6:=R2.out.free 6
 have q7:=R2.out.cell 7
 have f7:=R2.out.free 7
 have q8:=R2.out.cell 8
 have f8:=R2.out.free 8
 refine hK.out _ _ (show (fun (w':World)=>w'.cell? ⟨w.heap.size,0,none⟩=some (.int .u64 (o.1:Nat))∧w'.cell? ⟨w.heap.size,1,none⟩=some (.int .i64 o.2.1.1)∧w'.cell? ⟨w.heap.size,2,none⟩=some (.int .i64 o.2.1.2.1)∧w'.cell? ⟨w.heap.size,3,none⟩=some (.int .i64 o.2.1.2.2.1)∧w'.cell? ⟨w.heap.size,4,none⟩=some (.slice A o.2.1.2.2.2.length d)∧w'.cell? ⟨w.heap.size,5,none⟩=some (.int .i64 o.2.2)) x1 from ⟨r0,r1,r2,r3,r4,r5⟩) (fun hS=>?_)
 clear hK K
 refine headH_take (i:=4) (v:=?_) rfl (by kernel_rfl) (fun _ _ _ h=>h) (fun _ _ _ h=>seqB_ready h.1) (Or.inl ⟨by rfl,?y4⟩) hS ?r4
 case y4=>intro w hSw;(try dsimp only at hSw);obtain⟨hc0,hc1,hc2,hc3,hc4,hc5⟩:=hSw;go_simp;try (with_reducible rfl)
 case r4=>
 try simp only [pZa,pZb,pZc,pZd]
 refine headH_take (i:=5) (v:=?_) rfl (by kernel_rfl) (fun _ _ _ h=>h) (fun _ _ _ h=>seqB_ready h.1) (Or.inl ⟨by rfl,?y5⟩) hS ?r5
 case y5=>intro w hSw;(try dsimp only at hSw);obtain⟨hc0,hc1,hc2,hc3,hc4,hc5⟩:=hSw;go_simp;try (with_reducible rfl)
 case r5=>
 try simp only [pZa,pZb,pZc,pZd]
 refine⟨by kernel_rfl,?_⟩
 go_wp2_with fail
 rw [HRk.out]
 refine close_one Tryz.results10 rfl rfl R2.out.put9s Tryz.underlying40 rfl (by kernel_rfl) ?_
 exact⟨A,d,none,0,rfl,HS.out,Syms.far9s (Recs.below HX.out BC.out) (Syms.neO (Recs.below HX.out BC.out) R2.out dz_no) _ _ _ _ _ _ _ _ _,Texts.nil _ _,below_set9s BC.out (show w.heap.size≤w.heap.size+1+1 by omega) _ _ _ _ _ _ _ _ _⟩
theorem rdo_res (o:ObR) (A:Option Addr) (d:Nat) (ct:Nat×Int×Int×Int×Nat×ByteArray) (w:World) (hs:SliceOk A o.2.1.2.2.2.length d) (hx:Syms w A o.2.1.2.2.2.length o.2.1.2.2.2) (hr:rightO o=true) (hi:Ids o.2.1.2.2.2) (hc:¬ o.2.2=1) :
  Calls Tryz.prog 10 #[.agg (obA o A d),callV (3,ct)] w (DOutW o ((solveF o.2.1.1 o.2.1.2.1 o.2.1.2.2.2).1,((solveF o.2.1.1 o.2.1.2.1 o.2.1.2.2.2).2.length:Int),(solveF o.2.1.1 o.2.1.2.1 o.2.1.2.2.2).2) w):=by
 have HR:=hZ (fun wy (hw:Below w.heap.size w wy)=>oright18_any (.agg (obA o A d)) o wy ⟨A,d,rfl,hs,Recs.below hx hw⟩)
 have tc:(o.2.2==1)=false:=by simpa using hc
 have hst:=right_store hr
 obtain⟨⟨k1,k2⟩,⟨z1',z2'⟩,hcp,hlc⟩:=storeB_bd hst
 obtain⟨kn,hk⟩:=Int.eq_ofNat_of_zero_le (show 0≤o.2.1.1 by omega)
 obtain⟨sn,hsn⟩:=Int.eq_ofNat_of_zero_le (show 0≤o.2.1.2.1 by omega)
 have HP:=hZ (fun wy (hw:Below w.heap.size w wy)=>rsolve_any kn sn o.2.1.2.2.1 A d o.2.1.2.2.2 wy (Recs.below hx hw) hs.1 hs.2.1 (by rw [← hk,← hsn];exact hst) hi)
 rw [← hk,← hsn] at HP
 obtain⟨p,hp⟩:∃ r,r=solveF o.2.1.1 o.2.1.2.1 o.2.1.2.2.2:=⟨_,rfl⟩
 rw [← hp] at HP ⊢
 obtain⟨z0,z1,z2,b5⟩:=D3_gen 31 (obA o A d) (callL (3,ct)).toArray dZ w
 have Q0:=hZ z0
 have Q1:=hZ z1
 have Q2:=hZ z2
 have HB:=hZ b5
 have HX:=hZ hx
 have HS:=hZ hs
 obtain⟨r0,r1,r2,r3,r4,r5⟩:=Q0.out.sixO
 obtain⟨v0,v1,v2,v3,v4,v5,v6⟩:=Q1.out.sevenO
 clear z0 z1 z2 b5
 rw [hr] at HR
 clear hc hr hi hst k1 k2 z1' z2' hcp hlc hk hsn hp
 have HRw:=hZ (HR.out _ HB.out)
 go_enter Tryz.func10,Tryz.ntmps10
 go_wp2_with fail
 refine HRw.out.mono ?_
 rintro e w2 ⟨rfl,hb⟩
 have P0:=hZ (Q0.out.keep hb)
 have P1:=hZ (Q1.out.keep hb)
 have P2:=hZ (Q2.out.keep hb)
 have HB2:=hZ (chain HB.out hb)
 clear hb HRw HR hx hs r0 r1 r2 r3 r4 r5 v0 v1 v2 v3 v4 v5 v6
 obtain⟨r0,r1,r2,r3,r4,r5⟩:=P0.out.sixO
 obtain⟨v0,v1,v2,v3,v4,v5,v6⟩:=P1.out.sevenO
 have HPw:=hZ (HP.out _ HB2.out)
 clear HP
 obtain⟨E,bl⟩:=p
 go_wp2_with fail
 refine HPw.out.mono ?_
 rintro e w3 ⟨B2,c2,rfl,ht2,hb⟩
 have b2:Below w3.heap.size w3 (w3.alloc (.cells #[.slice B2 bl.length c2,.int .i64 E] 76)):=(Below.refl _ _).alloc (Nat.le_refl _) _
 have hbb:=chain hb b2
 have R0:=hZ (P0.out.keep hbb)
 have R1:=hZ (P1.out.keep hbb)
 have R2:=hZ (P2.out.keep hbb)
 have QS:=hZ (Box.new w3 76 #[.slice B2 bl.length c2,.int .i64 E])
 have HB3:=hZ (chain HB2.out hbb)
 have HT2:=hZ (ht2.below b2)
 clear hb b2 hbb ht2 HPw r0 r1 r2 r3 r4 r5 v0 v1 v2 v3 v4 v5 v6
 obtain⟨r0,r1,r2,r3,r4,r5⟩:=R0.out.sixO
 obtain⟨v0,v1,v2,v3,v4,v5,v6⟩:=R1.out.sevenO
 obtain⟨m0,m1,-,-⟩:=QS.out.two
 have q0:=R2.out.cell 0
 have f0:=R2.out.free 0
 have q1:=R2.out.cell 1
 have f1:=R2.out.free 1
 have q2:=R2.out.cell 2
 have f2:=R2.out.free 2
 have q3:=R2.out.cell 3
 have f3:=R2.out.free 3
 have q4:=R2.out.cell 4
 have f4:=R2.out.free 4
 have q5:=R2.out.cell 5
 have f5:=R2.out.free 5
 have q6:=R2.out.cell 6
 have f6:=R2.out.free 6
 have q7:=R2.out.cell 7
 have f7:=R2.out.free 7
 have q8:=R2.out.cell 8
 have f8:=R2.out.free 8
 go_wp2_with fail
 refine close_one Tryz.results10 rfl rfl R2.out.put9s Tryz.underlying40 rfl (by kernel_rfl) ?_
 exact⟨A,d,B2,c2,rfl,HS.out,Syms.far9s (Recs.below HX.out HB3.out) (Syms.neO (Recs.below HX.out HB3.out) R2.out dz_no) _ _ _ _ _ _ _ _ _,HT2.out.far9s (HT2.out.neO R2.out dz_no) _ _ _ _ _ _ _ _ _,below_set9s HB3.out (show w.heap.size≤w.heap.size+1+1 by omega) _ _ _ _ _ _ _ _ _⟩
theorem rdo_close (o:ObR) (A:Option Addr) (d:Nat) (ct:Nat×Int×Int×Int×Nat×ByteArray) (w:World) (hs:SliceOk A o.2.1.2.2.2.length d) (hx:Syms w A o.2.1.2.2.2.length o.2.1.2.2.2) (hr:rightO o=true) (hc:¬ o.2.2=1) :
  Calls Tryz.prog 10 #[.agg (obA o A d),callV (4,ct)] w (DOutW (o.1,o.2.1,1) (0,(o.2.1.2.2.2.length:Int),[]) w):=by
 have HR:=hZ (fun wy (hw:Below w.heap.size w wy)=>oright18_any (.agg (obA o A d)) o wy ⟨A,d,rfl,hs,Recs.below hx hw⟩)
 have tc:(o.2.2==1)=false:=by simpa using hc
 obtain⟨z0,z1,z2,b5⟩:=D3_gen 31 (obA o A d) (callL (4,ct)).toArray dZ w
 have Q0:=hZ z0
 have Q1:=hZ z1
 have Q2:=hZ z2
 have HB:=hZ b5
 have HX:=hZ hx
 have HS:=hZ hs
 obtain⟨r0,r1,r2,r3,r4,r5⟩:=Q0.out.sixO
 obtain⟨v0,v1,v2,v3,v4,v5,v6⟩:=Q1.out.sevenO
 clear z0 z1 z2 b5
 rw [hr] at HR
 clear hc hr
 have HRw:=hZ (HR.out _ HB.out)
 go_enter Tryz.func10,Tryz.ntmps10
 go_wp2_with fail
 refine HRw.out.mono ?_
 rintro e w2 ⟨rfl,hb⟩
 have P0:=hZ (Q0.out.keep hb)
 have P1:=hZ (Q1.out.keep hb)
 have P2:=hZ (Q2.out.keep hb)
 have HB2:=hZ (chain HB.out hb)
 clear hb HRw HR hx hs r0 r1 r2 r3 r4 r5 v0 v1 v2 v3 v4 v5 v6
 obtain⟨r0,r1,r2,r3,r4,r5⟩:=P0.out.sixO
 obtain⟨v0,v1,v2,v3,v4,v5,v6⟩:=P1.out.sevenO
 have f5:=P0.out.free 5
 obtain⟨w5,hw5⟩:∃ y,y=w2.setCell ⟨w.heap.size,5,none⟩ (.int .i64 1):=⟨_,rfl⟩
 have L0:=hZ (show Box w5 w.heap.size 27 (obA (o.1,o.2.1,1) A d) from hw5 ▸ P0.out.put 5 (.int .i64 1))
 have L2:=hZ (show Box w5 (w.heap.size+1+1) 40 dZ from hw5 ▸ P2.out.far (p:=⟨w.heap.size,5,none⟩) (by show w.heap.size+1+1≠w.heap.size;omega) (.int .i64 1))
 have HB5:=hZ (show Below w.heap.size w w5 from hw5 ▸ HB2.out.setCell (p:=⟨w.heap.size,5,none⟩) (Nat.le_refl _) (.int .i64 1))
 go_upto_region 15 with (fail)
 rw [← hw5]
 clear hw5 P0 P1 P2 HB2 f5 r0 r1 r2 r3 r4 r5 v0 v1 v2 v3 v4 v5 v6
 obtain⟨r0,r1,r2,r3,r4,r5⟩:=L0.out.sixO
 have q0:=L2.out.cell 0
 have f0:=L2.out.free 0
 have q1:=L2.out.cell 1
 have f1:=L2.out.free 1
 have q2:=L2.out.cell 2
 have f2:=L2.out.free 2
 have q3:=L2.out.cell 3
 have f3:=L2.out.free 3
 have q4:=L2.out.cell 4
 have f4:=L2.out.free 4
 have q5:=L2.out.cell 5
 have f5:=L2.out.free 5
 have q6:=L2.out.cell 6
 have f6:=L2.out.free 6
 have q7:=L2.out.cell 7
 have f7:=L2.out.free 7
 have q8:=L2.out.cell 8
 have f8:=L2.out.free 8
 go_wp2_with fail
 refine close_one Tryz.results10 rfl rfl L2.out.put9s Tryz.underlying40 rfl (by kernel_rfl) ?_
 exact⟨A,d,none,0,rfl,HS.out,Syms.far9s (Recs.below HX.out HB5.out) (Syms.neO (Recs.below HX.out HB5.out) L2.out dz_no) _ _ _ _ _ _ _ _ _,Texts.nil _ _,below_set9s HB5.out (show w.heap.size≤w.heap.size+1+1 by omega) _ _ _ _ _ _ _ _ _⟩
theorem rdo_any (o:ObR) (A:Option Addr) (d:Nat) (c:CallR) (w:World) (hs:SliceOk A o.2.1.2.2.2.length d) (hx:Syms w A o.2.1.2.2.2.length o.2.1.2.2.2) (hi:Ids o.2.1.2.2.2) (hci:c.2.2.2.2.2.1<18446744073709551616) :
  Calls Tryz.prog 10 #[.agg (obA o A d),callV c] w (DOutW (doO o c).1 (doO o c).2 w):=by
 obtain⟨wh,ct⟩:=c
 by_cases hn:rightO o=true∧0≤wh∧wh≤4
 ·have hd:doO o (wh,ct)=(if wh=0 then (o,(11,0,[])) else if o.2.2=1 then (o,(6,0,[])) else actO o (wh,ct)):=if_pos hn
  obtain⟨hr,h0,h4⟩:=hn
  rw [hd]
  by_cases hz:wh=0
  ·subst hz
   rw [if_pos rfl]
   exact rdo_open o A d ct w hs hx hr
  ·rw [if_neg hz]
   by_cases hc:o.2.2=1
   ·rw [if_pos hc]
    exact rdo_closed o A d wh ct w hs hx hr (by omega) h4 hc
   ·rw [if_neg hc]
    have h5:wh=1∨wh=2∨wh=3∨wh=4:=by omega
    rcases h5 with rfl | rfl | rfl | rfl
    ·exact rdo_add o A d ct w hs hx hr hi hci hc
    ·exact rdo_prog o A d ct w hs hx hr hi hc
    ·exact rdo_res o A d ct w hs hx hr hi hc
    ·exact rdo_close o A d ct w hs hx hr hc
 ·have hd:doO o (wh,ct)=(o,(1,0,[])):=if_neg hn
  rw [hd]
  exact rdo_no o A d wh ct w hs hx hn
end
section
open Go.RowKit Go.Lib
set_option maxRecDepth 100000
theorem refTexts_max (A B:Option Addr) (l c d:Nat) (ss:List ByteArray) (w:World) (hu:Texts w A l ss) (hv:Texts w B l ss) (hl:l≤maxLen) :
  Calls Tryz.prog 36 #[.slice A l c,.slice B l d] w fun e w'=>e=.returned (.bool true)∧Below w.heap.size w w':=by
 unfold maxLen at hl
 have HU:=hZ hu
 have HV:=hZ hv
 clear hu hv
 have t2:((l:Int) != (l:Int))=false:=by simp
 go_enter Tryz.func36,Tryz.ntmps36
 go_wp2_with fail
 clear t2
 go_loopw [13] (fun i wr=>∃ j:Nat,j≤l∧i=.int .i64 j∧Below w.heap.size w wr) (fun i _=>l-(intOf i).toNat)
 case atStart=>exact⟨0,by omega,rfl,Below.refl _ _⟩
 case round=>
  obtain⟨j,hj,rfl,hbel⟩:=hrel
  have HB:=hZ hbel
  clear hbel
  by_cases hlt:j<l
  ·obtain⟨p,o,rfl,lt1,hc1⟩:=HU.out.2.2 (by omega)
   obtain⟨p2,o2,rfl,lt2,hc2⟩:=HV.out.2.2 (by omega)
   have cu:=(HB.out.cell (p:=⟨p,o+j,none⟩) lt1).trans (hc1 j hlt)
   have cv:=(HB.out.cell (p:=⟨p2,o2+j,none⟩) lt2).trans (hc2 j hlt)
   generalize ss.getD j ByteArray.empty=s at *
   clear hc1 hc2
   have hlt':(j:Int)<(l:Int):=by omega
   have hj0:(0:Int)≤(j:Int):=by omega
   go_wp2
   go_quiet (fail)
   go_wp2_with fail
   go_roundw
   case rel=>exact⟨j+1,by omega,by go_num,bdN HB.out _⟩
   case measure=>simp [intOf];omega
  ·obtain rfl:j=l:=by omega
   go_wp2
   go_ret
   exact⟨rfl,HB.out⟩
def RpW (w:World) (v:Value) (r:ReplyR):Prop:=∃ A c,v=.agg #[.int .i64 r.1,.int .i64 r.2.1,.slice A r.2.2.length c]∧Texts w A r.2.2.length r.2.2
theorem RpW.below {w w':World} {v:Value} {r:ReplyR} (h:RpW w v r) (hb:Below w.heap.size w w'):RpW w' v r:=by
 obtain⟨A,c,h1,h2⟩:=h
 exact⟨A,c,h1,h2.below hb⟩
theorem replies_w (va vb:Value) (r:ReplyR) (w:World) (ha:RpAt w va r) (hb:RpW w vb r):Calls Tryz.prog 13 #[va,vb] w fun e w'=>e=.returned (.bool true)∧Below w.heap.size w w':=by
 obtain⟨A,c,rfl,hx,hc1,hc2⟩:=ha
 obtain⟨B,c2,rfl,hy⟩:=hb
 obtain⟨why,n,bl⟩:=r
 dsimp only at hx hy hc1
 have b1:Below w.heap.size w (w.alloc (.cells #[.int .i64 why,.int .i64 n,.slice A bl.length c] 36)):=(Below.refl _ _).alloc (Nat.le_refl _) _
 have b2:=b1.alloc b1.size (.cells #[.int .i64 why,.int .i64 n,.slice B bl.length c2] 36)
 have Q:=hZ ((Box.new w 36 #[.int .i64 why,.int .i64 n,.slice A bl.length c]).alloc (.cells #[.int .i64 why,.int .i64 n,.slice B bl.length c2] 36))
 have u0:=Box.new (w.alloc (.cells #[.int .i64 why,.int .i64 n,.slice A bl.length c] 36)) 36 #[.int .i64 why,.int .i64 n,.slice B bl.length c2]
 simp only [World.size_alloc] at u0
 have U:=hZ u0
 have HB:=hZ b2
 have HT:=hZ (refTexts_max A B bl.length c c2 bl _ (hx.below b2) (hy.below b2) (Nat.le_trans hc1 hc2))
 obtain⟨r0,r1,r2⟩:=Q.out.threeO
 obtain⟨s0,s1,s2⟩:=U.out.threeO
 have t1:(why==why)=true:=by simp
 have t2:(n==n)=true:=by simp
 clear b1 b2 hx hy hc1 hc2 u0
 go_enter Tryz.func13,Tryz.ntmps13
 go_wp2_with fail
 refine HT.out.mono ?_
 rintro e w2 ⟨rfl,hb2⟩
 have HB2:=hZ (chain HB.out hb2)
 clear hb2
 go_wp2_with fail
 go_ret
 exact⟨rfl,HB2.out⟩
theorem cutX_noO (s:ByteArray) (h:s.size≤66):cutX s=s:=(cutX_id s h).symm
theorem Box.nineD {w:World} {g:Nat} {t:TypeId} {a b c d e f u v x:Value} (h:Box w g t #[a,b,c,d,e,f,u,v,x]):w.cell? ⟨g,0,none⟩=some a∧w.cell? ⟨g,1,none⟩=some b∧w.cell? ⟨g,2,none⟩=some c∧w.cell? ⟨g,3,none⟩=some d∧w.cell? ⟨g,4,none⟩=some e∧w.cell? ⟨g,5,none⟩=some f∧w.cell? ⟨g,6,none⟩=some u∧w.cell? ⟨g,7,none⟩=some v∧w.cell? ⟨g,8,none⟩=some x:=⟨h.cell 0,h.cell 1,h.cell 2,h.cell 3,h.cell 4,h.cell 5,h.cell 6,h.cell 7,h.cell 8⟩
end
section
open Go.RowKit Go.Lib
set_option maxRecDepth 100000
abbrev dZ19:Array Value:=#[.slice none 0 0,.int .i64 0,.int .i64 0,.slice none 0 0]
theorem dz19_str (i:Nat) (s:ByteArray):dZ19[i]?≠some (.string s):=by
 match i with
 | 0 | 1 | 2 | 3=>simp
 | i+4=>simp
theorem dz19_u64 (i:Nat) (n:Int):dZ19[i]?≠some (.int .u64 n):=by
 match i with
 | 0 | 1 | 2 | 3=>simp
 | i+4=>simp
abbrev set4d (y:World) (g:Nat) (u a b c:Value):World:=(((y.setCell ⟨g,0,none⟩ u).setCell ⟨g,1,none⟩ a).setCell ⟨g,2,none⟩ b).setCell ⟨g,3,none⟩ c
def RcD (os:List ObR) (r:ReplyR) (w:World) (e:Ending) (w':World):Prop:=
 ∃ (qs:List RawO) (A:Option Addr) (d:Nat) (B:Option Addr) (c:Nat),obsR qs=os∧e=.returned (.agg #[.slice A qs.length d,.int .i64 r.1,.int .i64 r.2.1,.slice B r.2.2.length c])∧SliceOk A qs.length d∧Raws w' A qs.length qs∧OkDs w' qs∧Texts w' B r.2.2.length r.2.2∧Below w.heap.size w w'
theorem rd_store {B:Nat} {w y:World} {g:Nat} {qs:List RawO} {r:ReplyR} {A C:Option Addr} {d e:Nat} (hb:Below B w y) (hg:Box y g 53 dZ19) (h1:B≤g) (hx:Raws y A qs.length qs) (hd:OkDs y qs) (ht:Texts y C r.2.2.length r.2.2) :
  ∃ z,z=set4d y g (.slice A qs.length d) (.int .i64 r.1) (.int .i64 r.2.1) (.slice C r.2.2.length e)∧Box z g 53 #[.slice A qs.length d,.int .i64 r.1,.int .i64 r.2.1,.slice C r.2.2.length e]∧Raws z A qs.length qs∧OkDs z qs∧Texts z C r.2.2.length r.2.2∧Below B w z:=by
 have n1:=Raws.neO hx hg dz19_u64
 have n3:=Texts.neO ht hg dz19_str
 refine⟨_,rfl,(((hg.put 0 _).put 1 _).put 2 _).put 3 _,(((Recs.farB hx n1 0 _).farB n1 1 _).farB n1 2 _).farB n1 3 _,fun j=>⟨(hd j).1,?_⟩,(((Texts.farN ht n3 0 _).farN (fun b off e hp=>n3 b off e hp) 1 _).farN (fun b off e hp=>n3 b off e hp) 2 _).farN (fun b off e hp=>n3 b off e hp) 3 _,(((hb.setCell (p:=⟨g,0,none⟩) h1 _).setCell (p:=⟨g,1,none⟩) h1 _).setCell (p:=⟨g,2,none⟩) h1 _).setCell (p:=⟨g,3,none⟩) h1 _⟩
 have n2:=Syms.neO (hd j).2 hg dz19_str
 exact (((Recs.farB (hd j).2 n2 0 _).farB n2 1 _).farB n2 2 _).farB n2 3 _
theorem Box.fourD {w:World} {g:Nat} {t:TypeId} {a b c d:Value} (h:Box w g t #[a,b,c,d]):w.cell? ⟨g,0,none⟩=some a∧w.cell? ⟨g,1,none⟩=some b∧w.cell? ⟨g,2,none⟩=some c∧w.cell? ⟨g,3,none⟩=some d:=⟨h.cell 0,h.cell 1,h.cell 2,h.cell 3⟩
theorem O3_gen (a c:Array Value) (w:World):Box (((w.alloc (.cells a 48)).alloc (.cells c 31)).alloc (.cells dZ19 53)) w.heap.size 48 a∧Box (((w.alloc (.cells a 48)).alloc (.cells c 31)).alloc (.cells dZ19 53)) (w.heap.size+1) 31 c∧Box (((w.alloc (.cells a 48)).alloc (.cells c 31)).alloc (.cells dZ19 53)) (w.heap.size+1+1) 53 dZ19∧Below w.heap.size w (((w.alloc (.cells a 48)).alloc (.cells c 31)).alloc (.cells dZ19 53)):=by
 refine⟨((Box.new w _ _).alloc _).alloc _,?_,?_,(((Below.refl _ _).alloc (Nat.le_refl _) _).alloc (by simp) _).alloc (by simp;omega) _⟩
 ·have q:=(Box.new (w.alloc (.cells a 48)) 31 c).alloc (.cells dZ19 53)
  simpa only [World.size_alloc] using q
 ·have q:=Box.new ((w.alloc (.cells a 48)).alloc (.cells c 31)) 53 dZ19
  simpa only [World.size_alloc] using q
theorem at_yes {ps:List RawO} {id:Nat} (h:isR ps id=true):atR ps id=(posR ps id:Int):=by unfold atR;rw [if_pos (of_decide_eq_true h)]
theorem at_no {ps:List RawO} {id:Nat} (h:isR ps id=false):atR ps id=-1:=by unfold atR;rw [if_neg (of_decide_eq_false h)]
theorem rfW_ok {w:World} {xs:List RawO} {d:RawO} (h:OkDs w xs) (hd:OkD w d):OkDs w (rfW xs d):=okds_mem fun p hp=>by
 unfold rfW at hp
 rcases List.mem_append.1 hp with q | q
 ·exact okds_of h p (List.mem_filter.1 q).1
 ·rcases List.mem_cons.1 q with rfl | q
  ·exact hd
  ·exact okds_of h p (List.mem_filter.1 q).1
theorem ropen19_old (A:Option Addr) (cp:Nat) (ps:List RawO) (c:CallR) (w:World) (hs:SliceOk A ps.length cp) (hx:Raws w A ps.length ps) (hd:OkDs w ps) (hn:isR ps c.2.1=true):Calls Tryz.prog 41 #[.agg #[.slice A ps.length cp],callV c] w (RcD (obsR ps) (8,0,[]) w):=by
 obtain⟨q2,q3,q4,b5⟩:=O3_gen #[.slice A ps.length cp] (callL c).toArray w
 have Q2:=hZ q2
 have Q3:=hZ q3
 have Q4:=hZ q4
 have HB:=hZ b5
 have HX:=hZ (Recs.below hx b5)
 have HD:=hZ (OkDs.below hd b5)
 have r0:=Q2.out.cell 0
 obtain⟨v0,v1,v2,v3,v4,v5,v6⟩:=Q3.out.sevenO
 have HAt:=hZ (fun wy (hb:Below w.heap.size w wy)=>rcat_any (.agg #[.slice A ps.length cp]) ps c.2.1 wy ⟨A,cp,rfl,hs,Recs.below hx hb,OkDs.below hd hb⟩)
 rw [at_yes hn] at HAt
 have hpos:(posR ps c.2.1:Int)≥0:=by omega
 generalize posR ps c.2.1=pp at *
 clear hn
 clear q2 q3 q4 b5 hx hd
 go_enter Tryz.func41,Tryz.ntmps41
 go_wp2_with fail
 refine (HAt.out _ HB.out).mono ?_
 rintro e wa ⟨rfl,hb⟩
 replace Q2:=hZ (Q2.out.keep hb)
 replace Q3:=hZ (Q3.out.keep hb)
 replace Q4:=hZ (Q4.out.keep hb)
 replace HX:=hZ (Recs.below HX.out hb)
 replace HD:=hZ (OkDs.below HD.out hb)
 replace HB:=hZ (chain HB.out hb)
 clear hb r0 v0 v1 v2 v3 v4 v5 v6 HAt
 have r0:=Q2.out.cell 0
 obtain⟨v0,v1,v2,v3,v4,v5,v6⟩:=Q3.out.sevenO
 obtain⟨e0,e1,e2,e3⟩:=Q4.out.fourD
 have f0:=Q4.out.free 0
 have f1:=Q4.out.free 1
 have f2:=Q4.out.free 2
 have f3:=Q4.out.free 3
 go_wp2_with fail
 obtain⟨z,hz,z1,z3,z4,z5,z6⟩:=rd_store (B:=w.heap.size) (r:=((8,0,[]):ReplyR)) (d:=cp) (e:=0) HB.out Q4.out (by omega) HX.out HD.out (C:=none) (Texts.nil _ _)
 subst hz
 refine close_one Tryz.results41 rfl rfl z1 Tryz.underlying53 rfl (by kernel_rfl) ?_
 exact⟨ps,A,cp,none,0,rfl,rfl,hs,z3,z4,z5,z6⟩
theorem ropen19_full (A:Option Addr) (cp:Nat) (ps:List RawO) (c:CallR) (w:World) (hs:SliceOk A ps.length cp) (hx:Raws w A ps.length ps) (hd:OkDs w ps) (hn:isR ps c.2.1=false) (hl:ps.length=8):Calls Tryz.prog 41 #[.agg #[.slice A ps.length cp],callV c] w (RcD (obsR ps) (7,0,[]) w):=by
 obtain⟨q2,q3,q4,b5⟩:=O3_gen #[.slice A ps.length cp] (callL c).toArray w
 have Q2:=hZ q2
 have Q3:=hZ q3
 have Q4:=hZ q4
 have HB:=hZ b5
 have HX:=hZ (Recs.below hx b5)
 have HD:=hZ (OkDs.below hd b5)
 have r0:=Q2.out.cell 0
 obtain⟨v0,v1,v2,v3,v4,v5,v6⟩:=Q3.out.sevenO
 have HAt:=hZ (fun wy (hb:Below w.heap.size w wy)=>rcat_any (.agg #[.slice A ps.length cp]) ps c.2.1 wy ⟨A,cp,rfl,hs,Recs.below hx hb,OkDs.below hd hb⟩)
 rw [at_no hn] at HAt
 have t8:((ps.length:Int)==8)=true:=by rw [hl];rfl
 clear hn hl
 clear q2 q3 q4 b5 hx hd
 go_enter Tryz.func41,Tryz.ntmps41
 go_wp2_with fail
 refine (HAt.out _ HB.out).mono ?_
 rintro e wa ⟨rfl,hb⟩
 replace Q2:=hZ (Q2.out.keep hb)
 replace Q3:=hZ (Q3.out.keep hb)
 replace Q4:=hZ (Q4.out.keep hb)
 replace HX:=hZ (Recs.below HX.out hb)
 replace HD:=hZ (OkDs.below HD.out hb)
 replace HB:=hZ (chain HB.out hb)
 clear hb r0 v0 v1 v2 v3 v4 v5 v6 HAt
 have r0:=Q2.out.cell 0
 obtain⟨v0,v1,v2,v3,v4,v5,v6⟩:=Q3.out.sevenO
 obtain⟨e0,e1,e2,e3⟩:=Q4.out.fourD
 have f0:=Q4.out.free 0
 have f1:=Q4.out.free 1
 have f2:=Q4.out.free 2
 have f3:=Q4.out.free 3
 go_wp2_with fail
 obtain⟨z,hz,z1,z3,z4,z5,z6⟩:=rd_store (B:=w.heap.size) (r:=((7,0,[]):ReplyR)) (d:=cp) (e:=0) HB.out Q4.out (by omega) HX.out HD.out (C:=none) (Texts.nil _ _)
 subst hz
 refine close_one Tryz.results41 rfl rfl z1 Tryz.underlying53 rfl (by kernel_rfl) ?_
 exact⟨ps,A,cp,none,0,rfl,rfl,hs,z3,z4,z5,z6⟩
theorem ropen19_bad (A:Option Addr) (cp:Nat) (ps:List RawO) (c:CallR) (w:World) (hs:SliceOk A ps.length cp) (hx:Raws w A ps.length ps) (hd:OkDs w ps) (hn:isR ps c.2.1=false) (hl:¬ ps.length=8) (hw:¬ (openO c).2.1=0):Calls Tryz.prog 41 #[.agg #[.slice A ps.length cp],callV c] w (RcD (obsR ps) (openO c).2 w):=by
 obtain⟨q2,q3,q4,b5⟩:=O3_gen #[.slice A ps.length cp] (callL c).toArray w
 have Q2:=hZ q2
 have Q3:=hZ q3
 have Q4:=hZ q4
 have HB:=hZ b5
 have HX:=hZ (Recs.below hx b5)
 have HD:=hZ (OkDs.below hd b5)
 have r0:=Q2.out.cell 0
 obtain⟨v0,v1,v2,v3,v4,v5,v6⟩:=Q3.out.sevenO
 have HAt:=hZ (fun wy (hb:Below w.heap.size w wy)=>rcat_any (.agg #[.slice A ps.length cp]) ps c.2.1 wy ⟨A,cp,rfl,hs,Recs.below hx hb,OkDs.below hd hb⟩)
 rw [at_no hn] at HAt
 have t8:((ps.length:Int)==8)=false:=by rw [beq_eq_false_iff_ne];omega
 have HO:=hZ (fun wy=>ropen_any c wy)
 obtain⟨oo,hoo⟩:∃ y,y=(openO c).1:=⟨_,rfl⟩
 obtain⟨rr,hrr⟩:∃ y,y=(openO c).2:=⟨_,rfl⟩
 rw [← hoo,← hrr] at HO
 rw [← hrr] at hw ⊢
 clear hoo hrr hn hl
 obtain⟨r1,r2,bl⟩:=rr
 replace hw:¬ r1=0:=hw
 have t9:(r1 != 0)=true:=by simpa using hw
 clear hw
 clear q2 q3 q4 b5 hx hd
 go_enter Tryz.func41,Tryz.ntmps41
 go_wp2_with fail
 refine (HAt.out _ HB.out).mono ?_
 rintro e wa ⟨rfl,hb⟩
 replace Q2:=hZ (Q2.out.keep hb)
 replace Q3:=hZ (Q3.out.keep hb)
 replace Q4:=hZ (Q4.out.keep hb)
 replace HX:=hZ (Recs.below HX.out hb)
 replace HD:=hZ (OkDs.below HD.out hb)
 replace HB:=hZ (chain HB.out hb)
 clear hb r0 v0 v1 v2 v3 v4 v5 v6 HAt
 have r0:=Q2.out.cell 0
 obtain⟨v0,v1,v2,v3,v4,v5,v6⟩:=Q3.out.sevenO
 go_wp2_with fail
 refine (HO.out _).mono ?_
 rintro e w1 ⟨A3,d3,B3,c3,rfl,hs3,hx3,ht3,-,-,hb⟩
 have PD:=hZ (Box.new w1 40 #[.int .u64 (oo.1:Nat),.int .i64 oo.2.1.1,.int .i64 oo.2.1.2.1,.int .i64 oo.2.1.2.2.1,.slice A3 oo.2.1.2.2.2.length d3,.int .i64 oo.2.2,.int .i64 r1,.int .i64 r2,.slice B3 bl.length c3])
 have HT3:=hZ ht3
 have HGG:=hZ (show w.heap.size+1+1<w1.heap.size from Nat.lt_of_lt_of_le Q4.out.lt hb.size)
 have hgg:=HGG.out
 clear ht3 hs3 hx3 HO
 replace Q2:=hZ (Q2.out.keep hb)
 replace Q3:=hZ (Q3.out.keep hb)
 replace Q4:=hZ (Q4.out.keep hb)
 replace HX:=hZ (Recs.below HX.out hb)
 replace HD:=hZ (OkDs.below HD.out hb)
 replace HB:=hZ (chain HB.out hb)
 clear hb r0 v0 v1 v2 v3 v4 v5 v6
 have r0:=Q2.out.cell 0
 obtain⟨v0,v1,v2,v3,v4,v5,v6⟩:=Q3.out.sevenO
 obtain⟨p0,p1,p2,p3,p4,p5,p6,p7,p8⟩:=PD.out.nineD
 have hb2:Below w1.heap.size w1 (w1.alloc (.cells #[.int .u64 (oo.1:Nat),.int .i64 oo.2.1.1,.int .i64 oo.2.1.2.1,.int .i64 oo.2.1.2.2.1,.slice A3 oo.2.1.2.2.2.length d3,.int .i64 oo.2.2,.int .i64 r1,.int .i64 r2,.slice B3 bl.length c3] 40)):=(Below.refl _ _).alloc (Nat.le_refl _) _
 have R2:=hZ (Q2.out.keep hb2)
 have r9:=R2.out.cell 0
 clear hb2
 obtain⟨e0,e1,e2,e3⟩:=Q4.out.fourD
 have f0:=Q4.out.free 0
 have f1:=Q4.out.free 1
 have f2:=Q4.out.free 2
 have f3:=Q4.out.free 3
 go_wp2_with fail
 obtain⟨z,hz,z1,z3,z4,z5,z6⟩:=rd_store (B:=w.heap.size) (r:=((r1,r2,bl):ReplyR)) (d:=cp) (e:=c3) HB.out Q4.out (by omega) HX.out HD.out (C:=B3) HT3.out
 have hbz:Below z.heap.size z (z.alloc (.cells #[.int .u64 (oo.1:Nat),.int .i64 oo.2.1.1,.int .i64 oo.2.1.2.1,.int .i64 oo.2.1.2.2.1,.slice A3 oo.2.1.2.2.2.length d3,.int .i64 oo.2.2,.int .i64 r1,.int .i64 r2,.slice B3 bl.length c3] 40)):=(Below.refl _ _).alloc (Nat.le_refl _) _
 have z1':=z1.alloc (.cells #[.int .u64 (oo.1:Nat),.int .i64 oo.2.1.1,.int .i64 oo.2.1.2.1,.int .i64 oo.2.1.2.2.1,.slice A3 oo.2.1.2.2.2.length d3,.int .i64 oo.2.2,.int .i64 r1,.int .i64 r2,.slice B3 bl.length c3] 40)
 have z3':=Recs.below z3 hbz
 have z4':=OkDs.below z4 hbz
 have z5':=z5.below hbz
 have z6':=chain z6 hbz
 subst hz
 refine close_one Tryz.results41 rfl rfl z1' Tryz.underlying53 rfl (by kernel_rfl) ?_
 exact⟨ps,A,cp,B3,c3,rfl,rfl,hs,z3',z4',z5',z6'⟩
theorem ropen19_yes (A:Option Addr) (cp:Nat) (ps:List RawO) (c:CallR) (w:World) (hs:SliceOk A ps.length cp) (hx:Raws w A ps.length ps) (hd:OkDs w ps) (hlm:ps.length≤8) (hn:isR ps c.2.1=false) (hl:¬ ps.length=8) (hw:(openO c).2.1=0):Calls Tryz.prog 41 #[.agg #[.slice A ps.length cp],callV c] w (RcD (withO (obsR ps) (openO c).1) (openO c).2 w):=by
 obtain⟨q2,q3,q4,b5⟩:=O3_gen #[.slice A ps.length cp] (callL c).toArray w
 have Q2:=hZ q2
 have Q3:=hZ q3
 have Q4:=hZ q4
 have HB:=hZ b5
 have HX:=hZ (Recs.below hx b5)
 have HD:=hZ (OkDs.below hd b5)
 have r0:=Q2.out.cell 0
 obtain⟨v0,v1,v2,v3,v4,v5,v6⟩:=Q3.out.sevenO
 have HAt:=hZ (fun wy (hb:Below w.heap.size w wy)=>rcat_any (.agg #[.slice A ps.length cp]) ps c.2.1 wy ⟨A,cp,rfl,hs,Recs.below hx hb,OkDs.below hd hb⟩)
 rw [at_no hn] at HAt
 have t8:((ps.length:Int)==8)=false:=by rw [beq_eq_false_iff_ne];omega
 have hok:=openO_ok c hw
 have HO:=hZ (fun wy=>ropen_any c wy)
 obtain⟨oo,hoo⟩:∃ y,y=(openO c).1:=⟨_,rfl⟩
 obtain⟨rr,hrr⟩:∃ y,y=(openO c).2:=⟨_,rfl⟩
 rw [← hoo,← hrr] at HO
 rw [← hoo,← hrr]
 have hr0:rr=(0,c.2.2.1,[]):=by rw [hrr];exact hok.2.2.1
 have HLM:=hZ hlm
 clear hoo hrr hn hl hw hok hlm
 obtain⟨r1,r2,bl⟩:=rr
 obtain rfl:r1=0:=congrArg Prod.fst hr0
 clear hr0
 clear q2 q3 q4 b5 hx hd
 go_enter Tryz.func41,Tryz.ntmps41
 go_wp2_with fail
 refine (HAt.out _ HB.out).mono ?_
 rintro e wa ⟨rfl,hb⟩
 replace Q2:=hZ (Q2.out.keep hb)
 replace Q3:=hZ (Q3.out.keep hb)
 replace Q4:=hZ (Q4.out.keep hb)
 replace HX:=hZ (Recs.below HX.out hb)
 replace HD:=hZ (OkDs.below HD.out hb)
 replace HB:=hZ (chain HB.out hb)
 clear hb r0 v0 v1 v2 v3 v4 v5 v6 HAt
 have r0:=Q2.out.cell 0
 obtain⟨v0,v1,v2,v3,v4,v5,v6⟩:=Q3.out.sevenO
 go_wp2_with fail
 refine (HO.out _).mono ?_
 rintro e w1 ⟨A3,d3,B3,c3,rfl,hs3,hx3,ht3,-,-,hb1⟩
 have b2:Below w1.heap.size w1 (w1.alloc (.cells #[.int .u64 (oo.1:Nat),.int .i64 oo.2.1.1,.int .i64 oo.2.1.2.1,.int .i64 oo.2.1.2.2.1,.slice A3 oo.2.1.2.2.2.length d3,.int .i64 oo.2.2,.int .i64 0,.int .i64 r2,.slice B3 bl.length c3] 40)):=(Below.refl _ _).alloc (Nat.le_refl _) _
 have hb:=chain hb1 b2
 have PD:=hZ (Box.new w1 40 #[.int .u64 (oo.1:Nat),.int .i64 oo.2.1.1,.int .i64 oo.2.1.2.1,.int .i64 oo.2.1.2.2.1,.slice A3 oo.2.1.2.2.2.length d3,.int .i64 oo.2.2,.int .i64 0,.int .i64 r2,.slice B3 bl.length c3])
 have HX3:=hZ (Recs.below hx3 b2)
 have HT3:=hZ (ht3.below b2)
 have HS3:=hZ hs3
 have HGG:=hZ (show w.heap.size+1+1<w1.heap.size from Nat.lt_of_lt_of_le Q4.out.lt hb1.size)
 have hgg:=HGG.out
 clear b2 hb1 hx3 ht3 hs3 HO
 replace Q2:=hZ (Q2.out.keep hb)
 replace Q3:=hZ (Q3.out.keep hb)
 replace Q4:=hZ (Q4.out.keep hb)
 replace HX:=hZ (Recs.below HX.out hb)
 replace HD:=hZ (OkDs.below HD.out hb)
 replace HB:=hZ (chain HB.out hb)
 clear hb r0 v0 v1 v2 v3 v4 v5 v6
 have r0:=Q2.out.cell 0
 obtain⟨v0,v1,v2,v3,v4,v5,v6⟩:=Q3.out.sevenO
 obtain⟨p0,p1,p2,p3,p4,p5,p6,p7,p8⟩:=PD.out.nineD
 go_upto_region 8 with (fail)
 obtain⟨wv,hwv⟩:∃ y,y=(w1.alloc (.cells #[.int .u64 (oo.1:Nat),.int .i64 oo.2.1.1,.int .i64 oo.2.1.2.1,.int .i64 oo.2.1.2.2.1,.slice A3 oo.2.1.2.2.2.length d3,.int .i64 oo.2.2,.int .i64 0,.int .i64 r2,.slice B3 bl.length c3] 40)):=⟨_,rfl⟩
 rw [← hwv] at Q2 Q3 Q4 HB HX HD PD HX3 HT3 r0 p0 p1 p2 p3 p4 p5 p6 p7 p8 ⊢
 clear hwv v0 v1 v2 v3 v4 v5 v6
 refine wp_heldK_bar [(3,(fun (w':World)=>w'.cell? ⟨w.heap.size,0,none⟩=some (.slice A ps.length cp))),(3,(fun (w':World)=>w'.cell? ⟨w1.heap.size,0,none⟩=some (.int .u64 (oo.1:Nat))∧w'.cell? ⟨w1.heap.size,1,none⟩=some (.int .i64 oo.2.1.1)∧w'.cell? ⟨w1.heap.size,2,none⟩=some (.int .i64 oo.2.1.2.1)∧w'.cell? ⟨w1.heap.size,3,none⟩=some (.int .i64 oo.2.1.2.2.1)∧w'.cell? ⟨w1.heap.size,4,none⟩=some (.slice A3 oo.2.1.2.2.2.length d3)∧w'.cell? ⟨w1.heap.size,5,none⟩=some (.int .i64 oo.2.2))),(7,(fun (w':World)=>w'.cell? ⟨w1.heap.size,6,none⟩=some (.int .i64 0)∧w'.cell? ⟨w1.heap.size,7,none⟩=some (.int .i64 r2)∧w'.cell? ⟨w1.heap.size,8,none⟩=some (.slice B3 bl.length c3)))] 8 (by kernel_rfl) (by decide) ?_
 have hS0:=(show (fun (w':World)=>w'.cell? ⟨w.heap.size,0,none⟩=some (.slice A ps.length cp)) wv.drew from Q2.out.drew.cell 0)
 have hS1:=(show (fun (w':World)=>w'.cell? ⟨w1.heap.size,0,none⟩=some (.int .u64 (oo.1:Nat))∧w'.cell? ⟨w1.heap.size,1,none⟩=some (.int .i64 oo.2.1.1)∧w'.cell? ⟨w1.heap.size,2,none⟩=some (.int .i64 oo.2.1.2.1)∧w'.cell? ⟨w1.heap.size,3,none⟩=some (.int .i64 oo.2.1.2.2.1)∧w'.cell? ⟨w1.heap.size,4,none⟩=some (.slice A3 oo.2.1.2.2.2.length d3)∧w'.cell? ⟨w1.heap.size,5,none⟩=some (.int .i64 oo.2.2)) wv.drew from ⟨PD.out.drew.cell 0,PD.out.drew.cell 1,PD.out.drew.cell 2,PD.out.drew.cell 3,PD.out.drew.cell 4,PD.out.drew.cell 5⟩)
 have hS2:=(show (fun (w':World)=>w'.cell? ⟨w1.heap.size,6,none⟩=some (.int .i64 0)∧w'.cell? ⟨w1.heap.size,7,none⟩=some (.int .i64 r2)∧w'.cell? ⟨w1.heap.size,8,none⟩=some (.slice B3 bl.length c3)) wv.drew from ⟨PD.out.drew.cell 6,PD.out.drew.cell 7,PD.out.drew.cell 8⟩)
 refine headK_load 0 3 _ rfl (i:=0) (v:=?_) rfl (by kernel_rfl) (fun _ _ _ h=>h) (fun _ _ _ h=>passed_ready h.1) (Or.inl ⟨by rfl,?y1⟩) ⟨fun _=>hS0,fun _=>hS1,fun _=>hS2,trivial⟩ ?r1
 case y1=>intro w hSw;(try dsimp only at hSw);go_simp;try (with_reducible rfl)
 case r1=>
 try simp only [pZa,pZb,pZc,pZd]
 refine headK_take (i:=1) (v:=?_) rfl (by kernel_rfl) (fun _ _ _ h=>h) (fun _ _ _ h=>passed_ready h.1) (Or.inl ⟨by rfl,?y2⟩) ⟨fun _=>hS0,fun _=>hS1,fun _=>hS2,trivial⟩ ?r2
 case y2=>intro w _;go_simp;try (with_reducible rfl)
 case r2=>
 try simp only [pZa,pZb,pZc,pZd]
 refine headK_load 1 3 _ rfl (i:=2) (v:=?_) rfl (by kernel_rfl) (fun _ _ _ h=>h) (fun _ _ _ h=>passed_ready h.1) (Or.inl ⟨by rfl,?y3⟩) ⟨fun _=>hS0,fun _=>hS1,fun _=>hS2,trivial⟩ ?r3
 case y3=>intro w hSw;(try dsimp only at hSw);obtain⟨hc0,hc1,hc2,hc3,hc4,hc5⟩:=hSw;go_simp;try (with_reducible rfl)
 case r3=>
 try simp only [pZa,pZb,pZc,pZd]
 refine headK_take (i:=4) (v:=?_) rfl (by kernel_rfl) (fun _ _ _ h=>h) (fun _ _ _ h=>passed_ready h.1) (Or.inl ⟨by rfl,?y4⟩) ⟨fun _=>hS0,fun _=>hS1,fun _=>hS2,trivial⟩ ?r4
 case y4=>intro w _;go_simp;try (with_reducible rfl)
 case r4=>
 try simp only [pZa,pZb,pZc,pZd]
 refine headK_load 2 7 _ rfl (i:=5) (v:=?_) rfl (by kernel_rfl) (fun _ _ _ h=>h) (fun _ _ _ h=>passed_ready h.1) (Or.inl ⟨by rfl,?y5⟩) ⟨fun _=>hS0,fun _=>hS1,fun _=>hS2,trivial⟩ ?r5
 case y5=>intro w hSw;(try dsimp only at hSw);obtain⟨hc0,hc1,hc2⟩:=hSw;go_simp;try (with_reducible rfl)
 case r5=>
 try simp only [pZa,pZb,pZc,pZd]
 refine headK_one (i:=3) (by kernel_rfl) rfl (fun K hK=>?_)
 go_simp
 refine (refWith19_any A cp ps (oo,(A3,d3)) _ HX.out.drew (by have:=HLM.out;omega)).mono ?_
 rintro e y ⟨A9,c9,rfl,hs9,hx9,hb⟩
 have BY:=hZ (show Below wv.heap.size wv y from chain ((Below.refl _ _).drew) hb)
 have HX9:=hZ hx9
 have HS9:=hZ hs9
 have R4:=hZ (Q4.out.keep BY.out)
 have RD:=hZ (PD.out.keep BY.out)
 clear hb hx9 hs9
 obtain⟨e0,e1,e2,e3⟩:=R4.out.fourD
 have f0:=R4.out.free 0
 have f1:=R4.out.free 1
 have f2:=R4.out.free 2
 have f3:=R4.out.free 3
 have hS2:=(show (fun (w':World)=>w'.cell? ⟨w1.heap.size,6,none⟩=some (.int .i64 0)∧w'.cell? ⟨w1.heap.size,7,none⟩=some (.int .i64 r2)∧w'.cell? ⟨w1.heap.size,8,none⟩=some (.slice B3 bl.length c3)) y from ⟨RD.out.cell 6,RD.out.cell 7,RD.out.cell 8⟩)
 refine hK.out _ _ ⟨nZ,nZ,fun _=>hS2,trivial⟩ ?_
 clear hK K
 try simp only [pZa,pZb,pZc,pZd]
 refine headK_take (i:=6) (v:=?_) rfl (by kernel_rfl) (fun _ _ _ h=>h) (fun _ _ _ h=>passed_ready h.1) (Or.inl ⟨by rfl,?y6⟩) ⟨nZ,nZ,fun _=>hS2,trivial⟩ ?r6
 case y6=>intro w _;go_simp;try (with_reducible rfl)
 case r6=>
 try simp only [pZa,pZb,pZc,pZd]
 refine headK_one (i:=7) (by kernel_rfl) rfl (fun K hK=>?_)
 go_simp
 refine hK.out _ _ ⟨nZ,nZ,nZ,trivial⟩ ?_
 clear hK K
 try simp only [pZa,pZb,pZc,pZd]
 refine⟨by kernel_rfl,?_⟩
 refine wpAny_done (by kernel_rfl) ?_ _
 go_wp2_with fail
 have hok:=rfW_ok (d:=(oo,(A3,d3))) (OkDs.below HD.out BY.out) ⟨HS3.out,Recs.below HX3.out BY.out⟩
 obtain⟨z,hz,z1,z3,z4,z5,z6⟩:=rd_store (B:=w.heap.size) (r:=((0,r2,bl):ReplyR)) (d:=c9) (e:=c3) (HB.out.trans (BY.out.mono HB.out.size)) R4.out (by omega) HX9.out hok (HT3.out.below BY.out)
 subst hz
 refine close_one Tryz.results41 rfl rfl z1 Tryz.underlying53 rfl (by kernel_rfl) ?_
 exact⟨rfW ps (oo,(A3,d3)),A9,c9,B3,c3,rfW_obs ps (oo,(A3,d3)),rfl,HS9.out,z3,z4,z5,z6⟩
theorem ropen19_any (A:Option Addr) (cp:Nat) (ps:List RawO) (c:CallR) (w:World) (hs:SliceOk A ps.length cp) (hx:Raws w A ps.length ps) (hd:OkDs w ps) (hr:rightR ps=true) (h0:c.1=0):Calls Tryz.prog 41 #[.agg #[.slice A ps.length cp],callV c] w (RcD (doR ps c).1 (doR ps c).2 w):=by
 unfold doR
 rw [if_pos ⟨hr,by omega,by omega⟩,if_pos h0]
 cases hn:isR ps c.2.1 with
 | true=>exact ropen19_old A cp ps c w hs hx hd hn
 | false=>
   rw [if_neg (by decide)]
   by_cases hl:ps.length=8
   ·rw [if_pos hl];exact ropen19_full A cp ps c w hs hx hd hn hl
   ·rw [if_neg hl]
    by_cases hw:(openO c).2.1=0
    ·rw [if_pos hw];exact ropen19_yes A cp ps c w hs hx hd (by have:=((rightR_iff ps).1 hr).1;rwa [obsR_len] at this) hn hl hw
    ·rw [if_neg hw,← openO_fail c hw];exact ropen19_bad A cp ps c w hs hx hd hn hl hw
end
end Go.Proofs.YtcikoaeiopbbbaaGreat
