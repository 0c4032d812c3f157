/- Parts: ObK. -/
import Derived.Test.YtcikoaeiopbbbaaGreatYg
namespace Go.Proofs.YtcikoaeiopbbbaaGreat
set_option linter.unusedVariables false
set_option linter.unusedSimpArgs false
set_option linter.unusedSectionVars false
section
/- Layer 18: byKind, Do. -/
open Go.RowKit Go.Lib
set_option maxRecDepth 100000
abbrev kindsA:Array Value:=#[.func (.func 51) #[] #[],.func (.func 52) #[] #[],.func (.func 53) #[] #[],.func (.func 54) #[] #[],.func (.func 55) #[] #[]]
theorem store_fnO {W:World} {g i:Nat} {t:TypeId} {cs:Array Value} (h:Box W g t cs) (hi:i<cs.size) (f:Fn):Sem.run Tryz.prog (store ⟨g,i,none⟩ (.func f #[] #[])) W=.ok () (W.setCell ⟨g,i,none⟩ (.func f #[] #[])):=by
 rw [run_store _ _ _ _ _ rfl,h.cell i,Array.getElem?_eq_getElem hi]
 simp [h.free i]
set_option maxHeartbeats 4000000 in
theorem byKind_any (w:World):Calls Tryz.prog 29 #[] w fun e w'=>e=.returned (.agg kindsA)∧Below w.heap.size w w':=by
 have X1:=hZ (Box.new w 71 #[.nilFunc,.nilFunc,.nilFunc,.nilFunc,.nilFunc])
 have HB:=hZ ((Below.refl w.heap.size w).alloc (Nat.le_refl _) (.cells #[.nilFunc,.nilFunc,.nilFunc,.nilFunc,.nilFunc] 71))
 go_enter Tryz.func29,Tryz.ntmps29
 go_wp2_with fail
 rw [store_fnO (i:=0) (X1.out) (by decide) (.func 51)]
 simp only [Result.andThen_ok]
 rw [store_fnO (i:=1) ((X1.out).put 0 (.func (.func 51) #[] #[])) (by decide) (.func 52)]
 simp only [Result.andThen_ok]
 rw [store_fnO (i:=2) (((X1.out).put 0 (.func (.func 51) #[] #[])).put 1 (.func (.func 52) #[] #[])) (by decide) (.func 53)]
 simp only [Result.andThen_ok]
 rw [store_fnO (i:=3) ((((X1.out).put 0 (.func (.func 51) #[] #[])).put 1 (.func (.func 52) #[] #[])).put 2 (.func (.func 53) #[] #[])) (by decide) (.func 54)]
 simp only [Result.andThen_ok]
 rw [store_fnO (i:=4) (((((X1.out).put 0 (.func (.func 51) #[] #[])).put 1 (.func (.func 52) #[] #[])).put 2 (.func (.func 53) #[] #[])).put 3 (.func (.func 54) #[] #[])) (by decide) (.func 55)]
 simp only [Result.andThen_ok]
 go_wp2_with fail
 exact close_one Tryz.results29 rfl rfl (Box.new w 71 kindsA) Tryz.underlying71 rfl (by kernel_rfl) ⟨rfl,(Below.refl w.heap.size w).alloc (Nat.le_refl _) _⟩
noncomputable def kindO (o:ObR) (c:CallR):ObR×ReplyR:=if c.1=0 then (o,(11,0,[])) else actO o c
theorem Ref2.do {o:ObR} {A:Option Addr} {d:Nat} {why:Int} {w w':World} {e:Ending} (h:Ref2 o A d why w e w') (hs:SliceOk A o.2.1.2.2.2.length d) (hx:Syms w A o.2.1.2.2.2.length o.2.1.2.2.2):DoOut o (why,0,[]) w e w':=
 ⟨A,d,none,0,h.1,hs,Recs.below hx h.2,Texts.nil _ _,Nat.le_refl _,Nat.zero_le _,h.2⟩
theorem SameOut.do {o:ObR} {A:Option Addr} {d:Nat} {n:Int} {w w':World} {e:Ending} (h:SameOut o A d n w e w') (hs:SliceOk A o.2.1.2.2.2.length d) (hx:Syms w A o.2.1.2.2.2.length o.2.1.2.2.2):DoOut o (0,n,[]) w e w':=
 ⟨A,d,none,0,h.1,hs,Recs.below hx h.2,Texts.nil _ _,Nat.le_refl _,Nat.zero_le _,h.2⟩
theorem ResOut.do {o:ObR} {A:Option Addr} {d:Nat} {p:Int×List ByteArray} {w w':World} {e:Ending} (h:ResOut o A d p w e w') (hs:SliceOk A o.2.1.2.2.2.length d) (hx:Syms w A o.2.1.2.2.2.length o.2.1.2.2.2):DoOut o (p.1,(p.2.length:Int),p.2) w e w':=by
 obtain⟨B,c,h1,h2,h3,h4,h5⟩:=h
 exact⟨A,d,B,c,h1,hs,Recs.below hx h5,h2,h3,h4,h5⟩
section
variable (o:ObR) (A:Option Addr) (d:Nat) (c:CallR) (w:World) (hr:rightO o=true) (hs:SliceOk A o.2.1.2.2.2.length d) (hx:Syms w A o.2.1.2.2.2.length o.2.1.2.2.2) (hi:Ids o.2.1.2.2.2) (hci:c.2.2.2.2.2.1<18446744073709551616)
include hr hs hx hi hci
theorem kind0 (h:c.1=0):Calls Tryz.prog 51 #[.agg (obA o A d),callV c] w (DoOut (kindO o c).1 (kindO o c).2 w):=by
 have e:kindO o c=(o,(11,0,[])):=if_pos h
 rw [e]
 exact (hopen_any o A d c w).mono fun _ _ h=>h.do hs hx
theorem kind1 (h:c.1=1):Calls Tryz.prog 52 #[.agg (obA o A d),callV c] w (DoOut (kindO o c).1 (kindO o c).2 w):=by
 have e:kindO o c=actO o c:=if_neg (by omega)
 rw [e]
 unfold actO
 rw [if_pos h]
 obtain⟨id,⟨k,s,cp,xs⟩,cl⟩:=o
 by_cases hE:whyI s cp xs (c.2.2.2.2.2.1,c.2.2.2.2.2.2)=0
 ·rw [if_pos hE]
  exact hadd_yes id k s cp xs cl A d c w hr hs hx hi hci hE
 ·rw [if_neg hE]
  exact (hadd_no id k s cp xs cl A d c w (right_store hr) hs hx hE).mono fun _ _ h=>h.do hs hx
theorem kind2 (h:c.1=2):Calls Tryz.prog 53 #[.agg (obA o A d),callV c] w (DoOut (kindO o c).1 (kindO o c).2 w):=by
 have e:kindO o c=(o,(0,(rankF o.2.1.1 o.2.1.2.2.2:Int),[])):=by unfold kindO actO;rw [if_neg (by omega),if_neg (by omega),if_pos h]
 rw [e]
 exact (hprog_any o A d c w hr hs hx hi).mono fun _ _ h=>h.do hs hx
theorem kind3 (h:c.1=3):Calls Tryz.prog 54 #[.agg (obA o A d),callV c] w (DoOut (kindO o c).1 (kindO o c).2 w):=by
 have e:kindO o c=(o,((solveF o.2.1.1 o.2.1.2.1 o.2.1.2.2.2).1,((solveF o.2.1.1 o.2.1.2.1 o.2.1.2.2.2).2.length:Int),(solveF o.2.1.1 o.2.1.2.1 o.2.1.2.2.2).2)):=by unfold kindO actO;rw [if_neg (by omega),if_neg (by omega),if_neg (by omega),if_pos h]
 rw [e]
 exact (hres_any o A d c w hr hs hx hi).mono fun _ _ h=>h.do hs hx
theorem kind4 (h:c.1=4):Calls Tryz.prog 55 #[.agg (obA o A d),callV c] w (DoOut (kindO o c).1 (kindO o c).2 w):=by
 have e:kindO o c=((o.1,o.2.1,1),(0,(o.2.1.2.2.2.length:Int),[])):=by unfold kindO actO;rw [if_neg (by omega),if_neg (by omega),if_neg (by omega),if_neg (by omega)]
 rw [e]
 exact (hclose_any o A d c w).mono fun _ _ h=>SameOut.do (o:=(o.1,o.2.1,1)) h hs hx
end
set_option maxHeartbeats 8000000 in
theorem do_no (o:ObR) (A:Option Addr) (d:Nat) (c:CallR) (w:World) (hs:SliceOk A o.2.1.2.2.2.length d) (hx:Syms w A o.2.1.2.2.2.length o.2.1.2.2.2) (hn:¬ (rightO o=true∧0≤c.1∧c.1≤4)) :
  Calls Tryz.prog 9 #[.agg (obA o A d),callV c] w (Ref2 o A d 1 w):=by
 have HR:=hZ (fun wy (hw:Below w.heap.size w wy)=>oright_any (.agg (obA o A d)) o wy ⟨A,d,rfl,hs,Recs.below hx hw⟩)
 obtain⟨wh,ct⟩:=c
 dsimp only at hn
 obtain⟨q0,q1,q2,q3,b5⟩:=A4_gen 27 (obA o A d) (callL (wh,ct)).toArray oZ rZ w
 have Q0:=hZ q0
 have Q1:=hZ q1
 have Q2:=hZ q2
 have Q3:=hZ q3
 have HB:=hZ b5
 obtain⟨r0,r1,r2,r3,r4,r5⟩:=Q0.out.sixO
 obtain⟨v0,v1,v2,v3,v4,v5,v6⟩:=Q1.out.sevenO
 clear q0 q1 q2 q3 b5
 cases hr:rightO o with
 | false=>
   rw [hr] at HR
   clear hr hn
   have HRw:=hZ (HR.out _ HB.out)
   go_enter Tryz.func9,Tryz.ntmps9
   go_wp2_with fail
   refine HRw.out.mono ?_
   rintro e w2 ⟨rfl,hb⟩
   have P0:=hZ (Q0.out.keep hb)
   have P1:=hZ (Q1.out.keep hb)
   have P2:=hZ (Q2.out.keep hb)
   have P3:=hZ (Q3.out.keep hb)
   have HB2:=hZ (chain HB.out hb)
   clear hb HRw r0 r1 r2 r3 r4 r5 v0 v1 v2 v3 v4 v5 v6
   obtain⟨r0,r1,r2,r3,r4,r5⟩:=P0.out.sixO
   obtain⟨v0,v1,v2,v3,v4,v5,v6⟩:=P1.out.sevenO
   obtain⟨s0,s1,s2,s3,s4,s5⟩:=P2.out.sixO
   obtain⟨t0,t1,t2⟩:=P3.out.threeO
   have f0:=P2.out.free 0
   have f1:=P2.out.free 1
   have f2:=P2.out.free 2
   have f3:=P2.out.free 3
   have f4:=P2.out.free 4
   have f5:=P2.out.free 5
   have g0:=P3.out.free 0
   have g1:=P3.out.free 1
   have g2:=P3.out.free 2
   go_wp2_with fail
   refine close_two Tryz.results9 rfl rfl rfl (P2.out.put6o.far3o (by omega) _ _ _) ((P3.out.far6o (g':=w.heap.size+1+1) (by omega) _ _ _ _ _ _).put3o) Tryz.underlying27 Tryz.underlying36 rfl rfl (by kernel_rfl) (by kernel_rfl) ?_
   exact⟨rfl,below_set3o (below_set6o HB2.out (show w.heap.size≤w.heap.size+1+1 by omega) _ _ _ _ _ _) (show w.heap.size≤w.heap.size+1+1+1 by omega) _ _ _⟩
 | true=>
   have hn2:¬ (0≤wh∧wh≤4):=fun h=>hn ⟨hr,h⟩
   rw [hr] at HR
   clear hr hn
   by_cases h0:wh<0
   ·clear hn2
    have HRw:=hZ (HR.out _ HB.out)
    go_enter Tryz.func9,Tryz.ntmps9
    go_wp2_with fail
    refine HRw.out.mono ?_
    rintro e w2 ⟨rfl,hb⟩
    have P0:=hZ (Q0.out.keep hb)
    have P1:=hZ (Q1.out.keep hb)
    have P2:=hZ (Q2.out.keep hb)
    have P3:=hZ (Q3.out.keep hb)
    have HB2:=hZ (chain HB.out hb)
    clear hb HRw r0 r1 r2 r3 r4 r5 v0 v1 v2 v3 v4 v5 v6
    obtain⟨r0,r1,r2,r3,r4,r5⟩:=P0.out.sixO
    obtain⟨v0,v1,v2,v3,v4,v5,v6⟩:=P1.out.sevenO
    obtain⟨s0,s1,s2,s3,s4,s5⟩:=P2.out.sixO
    obtain⟨t0,t1,t2⟩:=P3.out.threeO
    have f0:=P2.out.free 0
    have f1:=P2.out.free 1
    have f2:=P2.out.free 2
    have f3:=P2.out.free 3
    have f4:=P2.out.free 4
    have f5:=P2.out.free 5
    have g0:=P3.out.free 0
    have g1:=P3.out.free 1
    have g2:=P3.out.free 2
    go_wp2_with fail
    refine close_two Tryz.results9 rfl rfl rfl (P2.out.put6o.far3o (by omega) _ _ _) ((P3.out.far6o (g':=w.heap.size+1+1) (by omega) _ _ _ _ _ _).put3o) Tryz.underlying27 Tryz.underlying36 rfl rfl (by kernel_rfl) (by kernel_rfl) ?_
    exact⟨rfl,below_set3o (below_set6o HB2.out (show w.heap.size≤w.heap.size+1+1 by omega) _ _ _ _ _ _) (show w.heap.size≤w.heap.size+1+1+1 by omega) _ _ _⟩
   ·have h5:wh≥5:=by omega
    clear hn2
    have HRw:=hZ (HR.out _ HB.out)
    go_enter Tryz.func9,Tryz.ntmps9
    go_wp2_with fail
    refine HRw.out.mono ?_
    rintro e w2 ⟨rfl,hb⟩
    have P0:=hZ (Q0.out.keep hb)
    have P1:=hZ (Q1.out.keep hb)
    have P2:=hZ (Q2.out.keep hb)
    have P3:=hZ (Q3.out.keep hb)
    have HB2:=hZ (chain HB.out hb)
    clear hb HRw r0 r1 r2 r3 r4 r5 v0 v1 v2 v3 v4 v5 v6
    obtain⟨r0,r1,r2,r3,r4,r5⟩:=P0.out.sixO
    obtain⟨v0,v1,v2,v3,v4,v5,v6⟩:=P1.out.sevenO
    obtain⟨s0,s1,s2,s3,s4,s5⟩:=P2.out.sixO
    obtain⟨t0,t1,t2⟩:=P3.out.threeO
    have f0:=P2.out.free 0
    have f1:=P2.out.free 1
    have f2:=P2.out.free 2
    have f3:=P2.out.free 3
    have f4:=P2.out.free 4
    have f5:=P2.out.free 5
    have g0:=P3.out.free 0
    have g1:=P3.out.free 1
    have g2:=P3.out.free 2
    go_wp2_with fail
    refine close_two Tryz.results9 rfl rfl rfl (P2.out.put6o.far3o (by omega) _ _ _) ((P3.out.far6o (g':=w.heap.size+1+1) (by omega) _ _ _ _ _ _).put3o) Tryz.underlying27 Tryz.underlying36 rfl rfl (by kernel_rfl) (by kernel_rfl) ?_
    exact⟨rfl,below_set3o (below_set6o HB2.out (show w.heap.size≤w.heap.size+1+1 by omega) _ _ _ _ _ _) (show w.heap.size≤w.heap.size+1+1+1 by omega) _ _ _⟩
set_option maxHeartbeats 8000000 in
theorem do_closed (o:ObR) (A:Option Addr) (d:Nat) (c:CallR) (w:World) (hs:SliceOk A o.2.1.2.2.2.length d) (hx:Syms w A o.2.1.2.2.2.length o.2.1.2.2.2) (hr:rightO o=true) (h0:0<c.1) (h4:c.1≤4) (hc:o.2.2=1) :
  Calls Tryz.prog 9 #[.agg (obA o A d),callV c] w (Ref2 o A d 6 w):=by
 have HR:=hZ (fun wy (hw:Below w.heap.size w wy)=>oright_any (.agg (obA o A d)) o wy ⟨A,d,rfl,hs,Recs.below hx hw⟩)
 obtain⟨wh,ct⟩:=c
 dsimp only at h0 h4
 obtain⟨q0,q1,q2,q3,b5⟩:=A4_gen 27 (obA o A d) (callL (wh,ct)).toArray oZ rZ w
 have Q0:=hZ q0
 have Q1:=hZ q1
 have Q2:=hZ q2
 have Q3:=hZ q3
 have HB:=hZ b5
 obtain⟨r0,r1,r2,r3,r4,r5⟩:=Q0.out.sixO
 obtain⟨v0,v1,v2,v3,v4,v5,v6⟩:=Q1.out.sevenO
 clear q0 q1 q2 q3 b5
 rw [hr] at HR
 have t1:¬ wh<0:=by omega
 have t2:¬ wh≥5:=by omega
 have t3:(wh != 0)=true:=by simpa using (show ¬ wh=0 by omega)
 have tc:(o.2.2==1)=true:=by simpa using hc
 clear h0 h4 hc hr
 have HRw:=hZ (HR.out _ HB.out)
 go_enter Tryz.func9,Tryz.ntmps9
 go_wp2_with fail
 refine HRw.out.mono ?_
 rintro e w2 ⟨rfl,hb⟩
 have P0:=hZ (Q0.out.keep hb)
 have P1:=hZ (Q1.out.keep hb)
 have P2:=hZ (Q2.out.keep hb)
 have P3:=hZ (Q3.out.keep hb)
 have HB2:=hZ (chain HB.out hb)
 clear hb HRw r0 r1 r2 r3 r4 r5 v0 v1 v2 v3 v4 v5 v6
 obtain⟨r0,r1,r2,r3,r4,r5⟩:=P0.out.sixO
 obtain⟨v0,v1,v2,v3,v4,v5,v6⟩:=P1.out.sevenO
 go_wp2_with fail
 refine (refused_any o A d 6 _).mono ?_
 rintro e w3 ⟨rfl,hb⟩
 have R0:=hZ (P0.out.keep hb)
 have R1:=hZ (P1.out.keep hb)
 have R2:=hZ (P2.out.keep hb)
 have R3:=hZ (P3.out.keep hb)
 have HB3:=hZ (chain HB2.out hb)
 clear hb r0 r1 r2 r3 r4 r5 v0 v1 v2 v3 v4 v5 v6
 obtain⟨s0,s1,s2,s3,s4,s5⟩:=R2.out.sixO
 obtain⟨t0,t1,t2⟩:=R3.out.threeO
 have f0:=R2.out.free 0
 have f1:=R2.out.free 1
 have f2:=R2.out.free 2
 have f3:=R2.out.free 3
 have f4:=R2.out.free 4
 have f5:=R2.out.free 5
 have g0:=R3.out.free 0
 have g1:=R3.out.free 1
 have g2:=R3.out.free 2
 go_wp2_with fail
 refine close_two Tryz.results9 rfl rfl rfl (R2.out.put6o.far3o (by omega) _ _ _) ((R3.out.far6o (g':=w.heap.size+1+1) (by omega) _ _ _ _ _ _).put3o) Tryz.underlying27 Tryz.underlying36 rfl rfl (by kernel_rfl) (by kernel_rfl) ?_
 exact⟨rfl,below_set3o (below_set6o HB3.out (show w.heap.size≤w.heap.size+1+1 by omega) _ _ _ _ _ _) (show w.heap.size≤w.heap.size+1+1+1 by omega) _ _ _⟩
set_option maxHeartbeats 8000000 in
theorem do_kind0 (o:ObR) (A:Option Addr) (d:Nat) (ct:Nat×Int×Int×Int×Nat×ByteArray) (w:World) (hs:SliceOk A o.2.1.2.2.2.length d) (hx:Syms w A o.2.1.2.2.2.length o.2.1.2.2.2) (hr:rightO o=true) (hi:Ids o.2.1.2.2.2) (hci:ct.2.2.2.2.1<18446744073709551616) :
  Calls Tryz.prog 9 #[.agg (obA o A d),callV (0,ct)] w (DoOut (kindO o (0,ct)).1 (kindO o (0,ct)).2 w):=by
 have HR:=hZ (fun wy (hw:Below w.heap.size w wy)=>oright_any (.agg (obA o A d)) o wy ⟨A,d,rfl,hs,Recs.below hx hw⟩)
 have HK:=hZ (fun wy (hw:Below w.heap.size w wy)=>kind0 o A d (0,ct) wy hr hs (Recs.below hx hw) hi hci rfl)
 obtain⟨ro,hro⟩:∃ x,x=kindO o (0,ct):=⟨_,rfl⟩
 rw [← hro] at HK ⊢
 obtain⟨q0,q1,q2,q3,b5⟩:=A4_gen 27 (obA o A d) (callL (0,ct)).toArray oZ rZ w
 have Q0:=hZ q0
 have Q1:=hZ q1
 have Q2:=hZ q2
 have Q3:=hZ q3
 have HB:=hZ b5
 obtain⟨r0,r1,r2,r3,r4,r5⟩:=Q0.out.sixO
 obtain⟨v0,v1,v2,v3,v4,v5,v6⟩:=Q1.out.sevenO
 clear q0 q1 q2 q3 b5
 rw [hr] at HR
 have ix:∀ w:World,(Instr.index 71 (.agg #[.func (.func 51) #[] #[],.func (.func 52) #[] #[],.func (.func 53) #[] #[],.func (.func 54) #[] #[],.func (.func 55) #[] #[]]) (.int .i64 0)).run Tryz.prog w=.ok (.func (.func 51) #[] #[]) w:=fun _=>by kernel_rfl
 have eg:∀ args w,(callFunc 51 args).run Tryz.prog w=.ok (.enter 51 args) w:=enters_of Tryz.func51 (by kernel_rfl) rfl
 cases htc:(o.2.2==1) with
 | true=>
   clear hro hs hx hi hr
   have HRw:=hZ (HR.out _ HB.out)
   go_enter Tryz.func9,Tryz.ntmps9
   go_wp2_with fail
   refine HRw.out.mono ?_
   rintro e w2 ⟨rfl,hb⟩
   have P0:=hZ (Q0.out.keep hb)
   have P1:=hZ (Q1.out.keep hb)
   have P2:=hZ (Q2.out.keep hb)
   have P3:=hZ (Q3.out.keep hb)
   have HB2:=hZ (chain HB.out hb)
   clear hb HRw r0 r1 r2 r3 r4 r5 v0 v1 v2 v3 v4 v5 v6
   obtain⟨r0,r1,r2,r3,r4,r5⟩:=P0.out.sixO
   obtain⟨v0,v1,v2,v3,v4,v5,v6⟩:=P1.out.sevenO
   go_upto_region 5 with (fail)
   have BC:=hZ HB2.out.drew
   have BD:=hZ (Below.refl w2.heap.size w2).drew
   refine wp_held_tail (S:=(fun (w':World)=>w'.cell? ⟨w.heap.size,0,none⟩=some (.int .u64 (o.1:Nat))∧w'.cell? ⟨w.heap.size,1,none⟩=some (.int .i64 o.2.1.1)∧w'.cell? ⟨w.heap.size,2,none⟩=some (.int .i64 o.2.1.2.1)∧w'.cell? ⟨w.heap.size,3,none⟩=some (.int .i64 o.2.1.2.2.1)∧w'.cell? ⟨w.heap.size,4,none⟩=some (.slice A o.2.1.2.2.2.length d)∧w'.cell? ⟨w.heap.size,5,none⟩=some (.int .i64 o.2.2)∧w'.cell? ⟨w.heap.size+1,0,none⟩=some (.int .i64 0)∧w'.cell? ⟨w.heap.size+1,1,none⟩=some (.int .u64 (ct.1:Nat))∧w'.cell? ⟨w.heap.size+1,2,none⟩=some (.int .i64 ct.2.1)∧w'.cell? ⟨w.heap.size+1,3,none⟩=some (.int .i64 ct.2.2.1)∧w'.cell? ⟨w.heap.size+1,4,none⟩=some (.int .i64 ct.2.2.2.1)∧w'.cell? ⟨w.heap.size+1,5,none⟩=some (.int .u64 (ct.2.2.2.2.1:Nat))∧w'.cell? ⟨w.heap.size+1,6,none⟩=some (.string ct.2.2.2.2.2))) 9 (by kernel_rfl) (by decide) ?_
   have hS:=hZ (show (fun (w':World)=>w'.cell? ⟨w.heap.size,0,none⟩=some (.int .u64 (o.1:Nat))∧w'.cell? ⟨w.heap.size,1,none⟩=some (.int .i64 o.2.1.1)∧w'.cell? ⟨w.heap.size,2,none⟩=some (.int .i64 o.2.1.2.1)∧w'.cell? ⟨w.heap.size,3,none⟩=some (.int .i64 o.2.1.2.2.1)∧w'.cell? ⟨w.heap.size,4,none⟩=some (.slice A o.2.1.2.2.2.length d)∧w'.cell? ⟨w.heap.size,5,none⟩=some (.int .i64 o.2.2)∧w'.cell? ⟨w.heap.size+1,0,none⟩=some (.int .i64 0)∧w'.cell? ⟨w.heap.size+1,1,none⟩=some (.int .u64 (ct.1:Nat))∧w'.cell? ⟨w.heap.size+1,2,none⟩=some (.int .i64 ct.2.1)∧w'.cell? ⟨w.heap.size+1,3,none⟩=some (.int .i64 ct.2.2.1)∧w'.cell? ⟨w.heap.size+1,4,none⟩=some (.int .i64 ct.2.2.2.1)∧w'.cell? ⟨w.heap.size+1,5,none⟩=some (.int .u64 (ct.2.2.2.2.1:Nat))∧w'.cell? ⟨w.heap.size+1,6,none⟩=some (.string ct.2.2.2.2.2)) w2.drew from ⟨r0,r1,r2,r3,r4,r5,v0,v1,v2,v3,v4,v5,v6⟩)
   replace hS:=hS.out
   refine headH_take (i:=1) (v:=?_) rfl (by kernel_rfl) (fun _ _ _ h=>h) (fun _ _ _ h=>seqB_ready h.1) (Or.inl ⟨by rfl,?hy1⟩) hS ?rest1
   case hy1=>intro w hSw;(try dsimp only at hSw);obtain⟨hc0,hc1,hc2,hc3,hc4,hc5,hc6,hc7,hc8,hc9,hc10,hc11,hc12⟩:=hSw;go_simp;try (with_reducible rfl)
   case rest1=>
   try simp only [pZa,pZb,pZc,pZd]
   refine headH_take (i:=2) (v:=?_) rfl (by kernel_rfl) (fun _ _ _ h=>h) (fun _ _ _ h=>seqB_ready h.1) (Or.inl ⟨by rfl,?hy2⟩) hS ?rest2
   case hy2=>intro w hSw;(try dsimp only at hSw);obtain⟨hc0,hc1,hc2,hc3,hc4,hc5,hc6,hc7,hc8,hc9,hc10,hc11,hc12⟩:=hSw;go_simp;try (with_reducible rfl)
   case rest2=>
   try simp only [pZa,pZb,pZc,pZd]
   refine headH_take (i:=4) (v:=?_) rfl (by kernel_rfl) (fun _ _ _ h=>h) (fun _ _ _ h=>seqB_ready h.1) (Or.inl ⟨by rfl,?hy3⟩) hS ?rest3
   case hy3=>intro w hSw;(try dsimp only at hSw);obtain⟨hc0,hc1,hc2,hc3,hc4,hc5,hc6,hc7,hc8,hc9,hc10,hc11,hc12⟩:=hSw;go_simp;try (with_reducible rfl)
   case rest3=>
   try simp only [pZa,pZb,pZc,pZd]
   refine headH_take (i:=5) (v:=?_) rfl (by kernel_rfl) (fun _ _ _ h=>h) (fun _ _ _ h=>seqB_ready h.1) (Or.inl ⟨by rfl,?hy4⟩) hS ?rest4
   case hy4=>intro w hSw;(try dsimp only at hSw);obtain⟨hc0,hc1,hc2,hc3,hc4,hc5,hc6,hc7,hc8,hc9,hc10,hc11,hc12⟩:=hSw;go_simp;try (with_reducible rfl)
   case rest4=>
   try simp only [pZa,pZb,pZc,pZd]
   refine headH_one (i:=0) (by kernel_rfl) rfl (fun K hK=>?_)
   go_simp
   refine (byKind_any _).mono ?_
   rintro e x1 ⟨rfl,hb⟩
   replace BC:=hZ (chain BC.out hb)
   replace BD:=hZ (chain BD.out hb)
   clear hb r0 r1 r2 r3 r4 r5 v0 v1 v2 v3 v4 v5 v6
   obtain⟨r0,r1,r2,r3,r4,r5⟩:=(P0.out.keep BD.out).sixO
   obtain⟨v0,v1,v2,v3,v4,v5,v6⟩:=(P1.out.keep BD.out).sevenO
   refine hK.out _ _ (show (fun (w':World)=>w'.cell? ⟨w.heap.size,0,none⟩=some (.int .u64 (o.1:Nat))∧w'.cell? ⟨w.heap.size,1,none⟩=some (.int .i64 o.2.1.1)∧w'.cell? ⟨w.heap.size,2,none⟩=some (.int .i64 o.2.1.2.1)∧w'.cell? ⟨w.heap.size,3,none⟩=some (.int .i64 o.2.1.2.2.1)∧w'.cell? ⟨w.heap.size,4,none⟩=some (.slice A o.2.1.2.2.2.length d)∧w'.cell? ⟨w.heap.size,5,none⟩=some (.int .i64 o.2.2)∧w'.cell? ⟨w.heap.size+1,0,none⟩=some (.int .i64 0)∧w'.cell? ⟨w.heap.size+1,1,none⟩=some (.int .u64 (ct.1:Nat))∧w'.cell? ⟨w.heap.size+1,2,none⟩=some (.int .i64 ct.2.1)∧w'.cell? ⟨w.heap.size+1,3,none⟩=some (.int .i64 ct.2.2.1)∧w'.cell? ⟨w.heap.size+1,4,none⟩=some (.int .i64 ct.2.2.2.1)∧w'.cell? ⟨w.heap.size+1,5,none⟩=some (.int .u64 (ct.2.2.2.2.1:Nat))∧w'.cell? ⟨w.heap.size+1,6,none⟩=some (.string ct.2.2.2.2.2)) x1 from ⟨r0,r1,r2,r3,r4,r5,v0,v1,v2,v3,v4,v5,v6⟩) (fun hS=>?_)
   clear hK K
   refine headH_take (i:=3) (v:=?_) rfl (by kernel_rfl) (fun _ _ _ h=>h) (fun _ _ _ h=>seqB_ready h.1) (Or.inl ⟨by rfl,?hy5⟩) hS ?rest5
   case hy5=>intro w hSw;(try dsimp only at hSw);obtain⟨hc0,hc1,hc2,hc3,hc4,hc5,hc6,hc7,hc8,hc9,hc10,hc11,hc12⟩:=hSw;go_simp;try (with_reducible rfl)
   case rest5=>
   try simp only [pZa,pZb,pZc,pZd]
   refine headH_one (i:=6) (by kernel_rfl) rfl (fun K hK=>?_)
   go_simp
   refine (HK.out _ BC.out).mono ?_
   rintro e x2 ⟨A2,d2,B2,c2,rfl,hs2,hx2,ht2,hc2,hm2,hb⟩
   replace BC:=hZ (chain BC.out hb)
   replace BD:=hZ (chain BD.out hb)
   have HS2:=hZ hs2
   have HX2:=hZ hx2
   have HT2:=hZ ht2
   have HC2:=hZ (And.intro hc2 hm2)
   clear hb hs2 hx2 ht2 hc2 hm2 r0 r1 r2 r3 r4 r5 v0 v1 v2 v3 v4 v5 v6
   obtain⟨r0,r1,r2,r3,r4,r5⟩:=(P0.out.keep BD.out).sixO
   obtain⟨v0,v1,v2,v3,v4,v5,v6⟩:=(P1.out.keep BD.out).sevenO
   have R2:=hZ (P2.out.keep BD.out)
   have R3:=hZ (P3.out.keep BD.out)
   obtain⟨s0,s1,s2,s3,s4,s5⟩:=R2.out.sixO
   obtain⟨t0,t1,t2⟩:=R3.out.threeO
   have f0:=R2.out.free 0
   have f1:=R2.out.free 1
   have f2:=R2.out.free 2
   have f3:=R2.out.free 3
   have f4:=R2.out.free 4
   have f5:=R2.out.free 5
   have g0:=R3.out.free 0
   have g1:=R3.out.free 1
   have g2:=R3.out.free 2
   refine hK.out _ _ (show (fun (w':World)=>w'.cell? ⟨w.heap.size,0,none⟩=some (.int .u64 (o.1:Nat))∧w'.cell? ⟨w.heap.size,1,none⟩=some (.int .i64 o.2.1.1)∧w'.cell? ⟨w.heap.size,2,none⟩=some (.int .i64 o.2.1.2.1)∧w'.cell? ⟨w.heap.size,3,none⟩=some (.int .i64 o.2.1.2.2.1)∧w'.cell? ⟨w.heap.size,4,none⟩=some (.slice A o.2.1.2.2.2.length d)∧w'.cell? ⟨w.heap.size,5,none⟩=some (.int .i64 o.2.2)∧w'.cell? ⟨w.heap.size+1,0,none⟩=some (.int .i64 0)∧w'.cell? ⟨w.heap.size+1,1,none⟩=some (.int .u64 (ct.1:Nat))∧w'.cell? ⟨w.heap.size+1,2,none⟩=some (.int .i64 ct.2.1)∧w'.cell? ⟨w.heap.size+1,3,none⟩=some (.int .i64 ct.2.2.1)∧w'.cell? ⟨w.heap.size+1,4,none⟩=some (.int .i64 ct.2.2.2.1)∧w'.cell? ⟨w.heap.size+1,5,none⟩=some (.int .u64 (ct.2.2.2.2.1:Nat))∧w'.cell? ⟨w.heap.size+1,6,none⟩=some (.string ct.2.2.2.2.2)) x2 from ⟨r0,r1,r2,r3,r4,r5,v0,v1,v2,v3,v4,v5,v6⟩) (fun hS=>?_)
   clear hK K
   refine headH_take (i:=7) (v:=?_) rfl (by kernel_rfl) (fun _ _ _ h=>h) (fun _ _ _ h=>seqB_ready h.1) (Or.inl ⟨by rfl,?hy6⟩) hS ?rest6
   case hy6=>intro w hSw;(try dsimp only at hSw);obtain⟨hc0,hc1,hc2,hc3,hc4,hc5,hc6,hc7,hc8,hc9,hc10,hc11,hc12⟩:=hSw;go_simp;try (with_reducible rfl)
   case rest6=>
   try simp only [pZa,pZb,pZc,pZd]
   refine headH_take (i:=8) (v:=?_) rfl (by kernel_rfl) (fun _ _ _ h=>h) (fun _ _ _ h=>seqB_ready h.1) (Or.inl ⟨by rfl,?hy7⟩) hS ?rest7
   case hy7=>intro w hSw;(try dsimp only at hSw);obtain⟨hc0,hc1,hc2,hc3,hc4,hc5,hc6,hc7,hc8,hc9,hc10,hc11,hc12⟩:=hSw;go_simp;try (with_reducible rfl)
   case rest7=>
   try simp only [pZa,pZb,pZc,pZd]
   refine⟨by kernel_rfl,?_⟩
   go_wp2_with fail
   refine close_two Tryz.results9 rfl rfl rfl (R2.out.put6o.far3o (by omega) _ _ _) ((R3.out.far6o (g':=w.heap.size+1+1) (by omega) _ _ _ _ _ _).put3o) Tryz.underlying27 Tryz.underlying36 rfl rfl (by kernel_rfl) (by kernel_rfl) ?_
   exact⟨A2,d2,B2,c2,rfl,HS2.out,Syms.far9 HX2.out (Syms.neO HX2.out R2.out oz_no) (Syms.neO HX2.out R3.out rz_no) _ _ _ _ _ _ _ _ _,HT2.out.far9 (HT2.out.neO R2.out oz_no) (HT2.out.neO R3.out rz_no) _ _ _ _ _ _ _ _ _,HC2.out.1,HC2.out.2,below_set3o (below_set6o BC.out (show w.heap.size≤w.heap.size+1+1 by omega) _ _ _ _ _ _) (show w.heap.size≤w.heap.size+1+1+1 by omega) _ _ _⟩
 | false=>
   clear hro hs hx hi hr
   have HRw:=hZ (HR.out _ HB.out)
   go_enter Tryz.func9,Tryz.ntmps9
   go_wp2_with fail
   refine HRw.out.mono ?_
   rintro e w2 ⟨rfl,hb⟩
   have P0:=hZ (Q0.out.keep hb)
   have P1:=hZ (Q1.out.keep hb)
   have P2:=hZ (Q2.out.keep hb)
   have P3:=hZ (Q3.out.keep hb)
   have HB2:=hZ (chain HB.out hb)
   clear hb HRw r0 r1 r2 r3 r4 r5 v0 v1 v2 v3 v4 v5 v6
   obtain⟨r0,r1,r2,r3,r4,r5⟩:=P0.out.sixO
   obtain⟨v0,v1,v2,v3,v4,v5,v6⟩:=P1.out.sevenO
   go_upto_region 5 with (fail)
   have BC:=hZ HB2.out.drew
   have BD:=hZ (Below.refl w2.heap.size w2).drew
   refine wp_held_tail (S:=(fun (w':World)=>w'.cell? ⟨w.heap.size,0,none⟩=some (.int .u64 (o.1:Nat))∧w'.cell? ⟨w.heap.size,1,none⟩=some (.int .i64 o.2.1.1)∧w'.cell? ⟨w.heap.size,2,none⟩=some (.int .i64 o.2.1.2.1)∧w'.cell? ⟨w.heap.size,3,none⟩=some (.int .i64 o.2.1.2.2.1)∧w'.cell? ⟨w.heap.size,4,none⟩=some (.slice A o.2.1.2.2.2.length d)∧w'.cell? ⟨w.heap.size,5,none⟩=some (.int .i64 o.2.2)∧w'.cell? ⟨w.heap.size+1,0,none⟩=some (.int .i64 0)∧w'.cell? ⟨w.heap.size+1,1,none⟩=some (.int .u64 (ct.1:Nat))∧w'.cell? ⟨w.heap.size+1,2,none⟩=some (.int .i64 ct.2.1)∧w'.cell? ⟨w.heap.size+1,3,none⟩=some (.int .i64 ct.2.2.1)∧w'.cell? ⟨w.heap.size+1,4,none⟩=some (.int .i64 ct.2.2.2.1)∧w'.cell? ⟨w.heap.size+1,5,none⟩=some (.int .u64 (ct.2.2.2.2.1:Nat))∧w'.cell? ⟨w.heap.size+1,6,none⟩=some (.string ct.2.2.2.2.2))) 9 (by kernel_rfl) (by decide) ?_
   have hS:=hZ (show (fun (w':World)=>w'.cell? ⟨w.heap.size,0,none⟩=some (.int .u64 (o.1:Nat))∧w'.cell? ⟨w.heap.size,1,none⟩=some (.int .i64 o.2.1.1)∧w'.cell? ⟨w.heap.size,2,none⟩=some (.int .i64 o.2.1.2.1)∧w'.cell? ⟨w.heap.size,3,none⟩=some (.int .i64 o.2.1.2.2.1)∧w'.cell? ⟨w.heap.size,4,none⟩=some (.slice A o.2.1.2.2.2.length d)∧w'.cell? ⟨w.heap.size,5,none⟩=some (.int .i64 o.2.2)∧w'.cell? ⟨w.heap.size+1,0,none⟩=some (.int .i64 0)∧w'.cell? ⟨w.heap.size+1,1,none⟩=some (.int .u64 (ct.1:Nat))∧w'.cell? ⟨w.heap.size+1,2,none⟩=some (.int .i64 ct.2.1)∧w'.cell? ⟨w.heap.size+1,3,none⟩=some (.int .i64 ct.2.2.1)∧w'.cell? ⟨w.heap.size+1,4,none⟩=some (.int .i64 ct.2.2.2.1)∧w'.cell? ⟨w.heap.size+1,5,none⟩=some (.int .u64 (ct.2.2.2.2.1:Nat))∧w'.cell? ⟨w.heap.size+1,6,none⟩=some (.string ct.2.2.2.2.2)) w2.drew from ⟨r0,r1,r2,r3,r4,r5,v0,v1,v2,v3,v4,v5,v6⟩)
   replace hS:=hS.out
   refine headH_take (i:=1) (v:=?_) rfl (by kernel_rfl) (fun _ _ _ h=>h) (fun _ _ _ h=>seqB_ready h.1) (Or.inl ⟨by rfl,?hy1⟩) hS ?rest1
   case hy1=>intro w hSw;(try dsimp only at hSw);obtain⟨hc0,hc1,hc2,hc3,hc4,hc5,hc6,hc7,hc8,hc9,hc10,hc11,hc12⟩:=hSw;go_simp;try (with_reducible rfl)
   case rest1=>
   try simp only [pZa,pZb,pZc,pZd]
   refine headH_take (i:=2) (v:=?_) rfl (by kernel_rfl) (fun _ _ _ h=>h) (fun _ _ _ h=>seqB_ready h.1) (Or.inl ⟨by rfl,?hy2⟩) hS ?rest2
   case hy2=>intro w hSw;(try dsimp only at hSw);obtain⟨hc0,hc1,hc2,hc3,hc4,hc5,hc6,hc7,hc8,hc9,hc10,hc11,hc12⟩:=hSw;go_simp;try (with_reducible rfl)
   case rest2=>
   try simp only [pZa,pZb,pZc,pZd]
   refine headH_take (i:=4) (v:=?_) rfl (by kernel_rfl) (fun _ _ _ h=>h) (fun _ _ _ h=>seqB_ready h.1) (Or.inl ⟨by rfl,?hy3⟩) hS ?rest3
   case hy3=>intro w hSw;(try dsimp only at hSw);obtain⟨hc0,hc1,hc2,hc3,hc4,hc5,hc6,hc7,hc8,hc9,hc10,hc11,hc12⟩:=hSw;go_simp;try (with_reducible rfl)
   case rest3=>
   try simp only [pZa,pZb,pZc,pZd]
   refine headH_take (i:=5) (v:=?_) rfl (by kernel_rfl) (fun _ _ _ h=>h) (fun _ _ _ h=>seqB_ready h.1) (Or.inl ⟨by rfl,?hy4⟩) hS ?rest4
   case hy4=>intro w hSw;(try dsimp only at hSw);obtain⟨hc0,hc1,hc2,hc3,hc4,hc5,hc6,hc7,hc8,hc9,hc10,hc11,hc12⟩:=hSw;go_simp;try (with_reducible rfl)
   case rest4=>
   try simp only [pZa,pZb,pZc,pZd]
   refine headH_one (i:=0) (by kernel_rfl) rfl (fun K hK=>?_)
   go_simp
   refine (byKind_any _).mono ?_
   rintro e x1 ⟨rfl,hb⟩
   replace BC:=hZ (chain BC.out hb)
   replace BD:=hZ (chain BD.out hb)
   clear hb r0 r1 r2 r3 r4 r5 v0 v1 v2 v3 v4 v5 v6
   obtain⟨r0,r1,r2,r3,r4,r5⟩:=(P0.out.keep BD.out).sixO
   obtain⟨v0,v1,v2,v3,v4,v5,v6⟩:=(P1.out.keep BD.out).sevenO
   refine hK.out _ _ (show (fun (w':World)=>w'.cell? ⟨w.heap.size,0,none⟩=some (.int .u64 (o.1:Nat))∧w'.cell? ⟨w.heap.size,1,none⟩=some (.int .i64 o.2.1.1)∧w'.cell? ⟨w.heap.size,2,none⟩=some (.int .i64 o.2.1.2.1)∧w'.cell? ⟨w.heap.size,3,none⟩=some (.int .i64 o.2.1.2.2.1)∧w'.cell? ⟨w.heap.size,4,none⟩=some (.slice A o.2.1.2.2.2.length d)∧w'.cell? ⟨w.heap.size,5,none⟩=some (.int .i64 o.2.2)∧w'.cell? ⟨w.heap.size+1,0,none⟩=some (.int .i64 0)∧w'.cell? ⟨w.heap.size+1,1,none⟩=some (.int .u64 (ct.1:Nat))∧w'.cell? ⟨w.heap.size+1,2,none⟩=some (.int .i64 ct.2.1)∧w'.cell? ⟨w.heap.size+1,3,none⟩=some (.int .i64 ct.2.2.1)∧w'.cell? ⟨w.heap.size+1,4,none⟩=some (.int .i64 ct.2.2.2.1)∧w'.cell? ⟨w.heap.size+1,5,none⟩=some (.int .u64 (ct.2.2.2.2.1:Nat))∧w'.cell? ⟨w.heap.size+1,6,none⟩=some (.string ct.2.2.2.2.2)) x1 from ⟨r0,r1,r2,r3,r4,r5,v0,v1,v2,v3,v4,v5,v6⟩) (fun hS=>?_)
   clear hK K
   refine headH_take (i:=3) (v:=?_) rfl (by kernel_rfl) (fun _ _ _ h=>h) (fun _ _ _ h=>seqB_ready h.1) (Or.inl ⟨by rfl,?hy5⟩) hS ?rest5
   case hy5=>intro w hSw;(try dsimp only at hSw);obtain⟨hc0,hc1,hc2,hc3,hc4,hc5,hc6,hc7,hc8,hc9,hc10,hc11,hc12⟩:=hSw;go_simp;try (with_reducible rfl)
   case rest5=>
   try simp only [pZa,pZb,pZc,pZd]
   refine headH_one (i:=6) (by kernel_rfl) rfl (fun K hK=>?_)
   go_simp
   refine (HK.out _ BC.out).mono ?_
   rintro e x2 ⟨A2,d2,B2,c2,rfl,hs2,hx2,ht2,hc2,hm2,hb⟩
   replace BC:=hZ (chain BC.out hb)
   replace BD:=hZ (chain BD.out hb)
   have HS2:=hZ hs2
   have HX2:=hZ hx2
   have HT2:=hZ ht2
   have HC2:=hZ (And.intro hc2 hm2)
   clear hb hs2 hx2 ht2 hc2 hm2 r0 r1 r2 r3 r4 r5 v0 v1 v2 v3 v4 v5 v6
   obtain⟨r0,r1,r2,r3,r4,r5⟩:=(P0.out.keep BD.out).sixO
   obtain⟨v0,v1,v2,v3,v4,v5,v6⟩:=(P1.out.keep BD.out).sevenO
   have R2:=hZ (P2.out.keep BD.out)
   have R3:=hZ (P3.out.keep BD.out)
   obtain⟨s0,s1,s2,s3,s4,s5⟩:=R2.out.sixO
   obtain⟨t0,t1,t2⟩:=R3.out.threeO
   have f0:=R2.out.free 0
   have f1:=R2.out.free 1
   have f2:=R2.out.free 2
   have f3:=R2.out.free 3
   have f4:=R2.out.free 4
   have f5:=R2.out.free 5
   have g0:=R3.out.free 0
   have g1:=R3.out.free 1
   have g2:=R3.out.free 2
   refine hK.out _ _ (show (fun (w':World)=>w'.cell? ⟨w.heap.size,0,none⟩=some (.int .u64 (o.1:Nat))∧w'.cell? ⟨w.heap.size,1,none⟩=some (.int .i64 o.2.1.1)∧w'.cell? ⟨w.heap.size,2,none⟩=some (.int .i64 o.2.1.2.1)∧w'.cell? ⟨w.heap.size,3,none⟩=some (.int .i64 o.2.1.2.2.1)∧w'.cell? ⟨w.heap.size,4,none⟩=some (.slice A o.2.1.2.2.2.length d)∧w'.cell? ⟨w.heap.size,5,none⟩=some (.int .i64 o.2.2)∧w'.cell? ⟨w.heap.size+1,0,none⟩=some (.int .i64 0)∧w'.cell? ⟨w.heap.size+1,1,none⟩=some (.int .u64 (ct.1:Nat))∧w'.cell? ⟨w.heap.size+1,2,none⟩=some (.int .i64 ct.2.1)∧w'.cell? ⟨w.heap.size+1,3,none⟩=some (.int .i64 ct.2.2.1)∧w'.cell? ⟨w.heap.size+1,4,none⟩=some (.int .i64 ct.2.2.2.1)∧w'.cell? ⟨w.heap.size+1,5,none⟩=some (.int .u64 (ct.2.2.2.2.1:Nat))∧w'.cell? ⟨w.heap.size+1,6,none⟩=some (.string ct.2.2.2.2.2)) x2 from ⟨r0,r1,r2,r3,r4,r5,v0,v1,v2,v3,v4,v5,v6⟩) (fun hS=>?_)
   clear hK K
   refine headH_take (i:=7) (v:=?_) rfl (by kernel_rfl) (fun _ _ _ h=>h) (fun _ _ _ h=>seqB_ready h.1) (Or.inl ⟨by rfl,?hy6⟩) hS ?rest6
   case hy6=>intro w hSw;(try dsimp only at hSw);obtain⟨hc0,hc1,hc2,hc3,hc4,hc5,hc6,hc7,hc8,hc9,hc10,hc11,hc12⟩:=hSw;go_simp;try (with_reducible rfl)
   case rest6=>
   try simp only [pZa,pZb,pZc,pZd]
   refine headH_take (i:=8) (v:=?_) rfl (by kernel_rfl) (fun _ _ _ h=>h) (fun _ _ _ h=>seqB_ready h.1) (Or.inl ⟨by rfl,?hy7⟩) hS ?rest7
   case hy7=>intro w hSw;(try dsimp only at hSw);obtain⟨hc0,hc1,hc2,hc3,hc4,hc5,hc6,hc7,hc8,hc9,hc10,hc11,hc12⟩:=hSw;go_simp;try (with_reducible rfl)
   case rest7=>
   try simp only [pZa,pZb,pZc,pZd]
   refine⟨by kernel_rfl,?_⟩
   go_wp2_with fail
   refine close_two Tryz.results9 rfl rfl rfl (R2.out.put6o.far3o (by omega) _ _ _) ((R3.out.far6o (g':=w.heap.size+1+1) (by omega) _ _ _ _ _ _).put3o) Tryz.underlying27 Tryz.underlying36 rfl rfl (by kernel_rfl) (by kernel_rfl) ?_
   exact⟨A2,d2,B2,c2,rfl,HS2.out,Syms.far9 HX2.out (Syms.neO HX2.out R2.out oz_no) (Syms.neO HX2.out R3.out rz_no) _ _ _ _ _ _ _ _ _,HT2.out.far9 (HT2.out.neO R2.out oz_no) (HT2.out.neO R3.out rz_no) _ _ _ _ _ _ _ _ _,HC2.out.1,HC2.out.2,below_set3o (below_set6o BC.out (show w.heap.size≤w.heap.size+1+1 by omega) _ _ _ _ _ _) (show w.heap.size≤w.heap.size+1+1+1 by omega) _ _ _⟩
set_option maxHeartbeats 8000000 in
theorem do_kind1 (o:ObR) (A:Option Addr) (d:Nat) (ct:Nat×Int×Int×Int×Nat×ByteArray) (w:World) (hs:SliceOk A o.2.1.2.2.2.length d) (hx:Syms w A o.2.1.2.2.2.length o.2.1.2.2.2) (hr:rightO o=true) (hi:Ids o.2.1.2.2.2) (hci:ct.2.2.2.2.1<18446744073709551616) (hc:¬ o.2.2=1) :
  Calls Tryz.prog 9 #[.agg (obA o A d),callV (1,ct)] w (DoOut (kindO o (1,ct)).1 (kindO o (1,ct)).2 w):=by
 have HR:=hZ (fun wy (hw:Below w.heap.size w wy)=>oright_any (.agg (obA o A d)) o wy ⟨A,d,rfl,hs,Recs.below hx hw⟩)
 have HK:=hZ (fun wy (hw:Below w.heap.size w wy)=>kind1 o A d (1,ct) wy hr hs (Recs.below hx hw) hi hci rfl)
 obtain⟨ro,hro⟩:∃ x,x=kindO o (1,ct):=⟨_,rfl⟩
 rw [← hro] at HK ⊢
 obtain⟨q0,q1,q2,q3,b5⟩:=A4_gen 27 (obA o A d) (callL (1,ct)).toArray oZ rZ w
 have Q0:=hZ q0
 have Q1:=hZ q1
 have Q2:=hZ q2
 have Q3:=hZ q3
 have HB:=hZ b5
 obtain⟨r0,r1,r2,r3,r4,r5⟩:=Q0.out.sixO
 obtain⟨v0,v1,v2,v3,v4,v5,v6⟩:=Q1.out.sevenO
 clear q0 q1 q2 q3 b5
 rw [hr] at HR
 have ix:∀ w:World,(Instr.index 71 (.agg #[.func (.func 51) #[] #[],.func (.func 52) #[] #[],.func (.func 53) #[] #[],.func (.func 54) #[] #[],.func (.func 55) #[] #[]]) (.int .i64 1)).run Tryz.prog w=.ok (.func (.func 52) #[] #[]) w:=fun _=>by kernel_rfl
 have eg:∀ args w,(callFunc 52 args).run Tryz.prog w=.ok (.enter 52 args) w:=enters_of Tryz.func52 (by kernel_rfl) rfl
 have tc:(o.2.2==1)=false:=by simpa using hc
 clear hc
 clear hro hs hx hi hr
 have HRw:=hZ (HR.out _ HB.out)
 go_enter Tryz.func9,Tryz.ntmps9
 go_wp2_with fail
 refine HRw.out.mono ?_
 rintro e w2 ⟨rfl,hb⟩
 have P0:=hZ (Q0.out.keep hb)
 have P1:=hZ (Q1.out.keep hb)
 have P2:=hZ (Q2.out.keep hb)
 have P3:=hZ (Q3.out.keep hb)
 have HB2:=hZ (chain HB.out hb)
 clear hb HRw r0 r1 r2 r3 r4 r5 v0 v1 v2 v3 v4 v5 v6
 obtain⟨r0,r1,r2,r3,r4,r5⟩:=P0.out.sixO
 obtain⟨v0,v1,v2,v3,v4,v5,v6⟩:=P1.out.sevenO
 go_upto_region 5 with (fail)
 have BC:=hZ HB2.out.drew
 have BD:=hZ (Below.refl w2.heap.size w2).drew
 refine wp_held_tail (S:=(fun (w':World)=>w'.cell? ⟨w.heap.size,0,none⟩=some (.int .u64 (o.1:Nat))∧w'.cell? ⟨w.heap.size,1,none⟩=some (.int .i64 o.2.1.1)∧w'.cell? ⟨w.heap.size,2,none⟩=some (.int .i64 o.2.1.2.1)∧w'.cell? ⟨w.heap.size,3,none⟩=some (.int .i64 o.2.1.2.2.1)∧w'.cell? ⟨w.heap.size,4,none⟩=some (.slice A o.2.1.2.2.2.length d)∧w'.cell? ⟨w.heap.size,5,none⟩=some (.int .i64 o.2.2)∧w'.cell? ⟨w.heap.size+1,0,none⟩=some (.int .i64 1)∧w'.cell? ⟨w.heap.size+1,1,none⟩=some (.int .u64 (ct.1:Nat))∧w'.cell? ⟨w.heap.size+1,2,none⟩=some (.int .i64 ct.2.1)∧w'.cell? ⟨w.heap.size+1,3,none⟩=some (.int .i64 ct.2.2.1)∧w'.cell? ⟨w.heap.size+1,4,none⟩=some (.int .i64 ct.2.2.2.1)∧w'.cell? ⟨w.heap.size+1,5,none⟩=some (.int .u64 (ct.2.2.2.2.1:Nat))∧w'.cell? ⟨w.heap.size+1,6,none⟩=some (.string ct.2.2.2.2.2))) 9 (by kernel_rfl) (by decide) ?_
 have hS:=hZ (show (fun (w':World)=>w'.cell? ⟨w.heap.size,0,none⟩=some (.int .u64 (o.1:Nat))∧w'.cell? ⟨w.heap.size,1,none⟩=some (.int .i64 o.2.1.1)∧w'.cell? ⟨w.heap.size,2,none⟩=some (.int .i64 o.2.1.2.1)∧w'.cell? ⟨w.heap.size,3,none⟩=some (.int .i64 o.2.1.2.2.1)∧w'.cell? ⟨w.heap.size,4,none⟩=some (.slice A o.2.1.2.2.2.length d)∧w'.cell? ⟨w.heap.size,5,none⟩=some (.int .i64 o.2.2)∧w'.cell? ⟨w.heap.size+1,0,none⟩=some (.int .i64 1)∧w'.cell? ⟨w.heap.size+1,1,none⟩=some (.int .u64 (ct.1:Nat))∧w'.cell? ⟨w.heap.size+1,2,none⟩=some (.int .i64 ct.2.1)∧w'.cell? ⟨w.heap.size+1,3,none⟩=some (.int .i64 ct.2.2.1)∧w'.cell? ⟨w.heap.size+1,4,none⟩=some (.int .i64 ct.2.2.2.1)∧w'.cell? ⟨w.heap.size+1,5,none⟩=some (.int .u64 (ct.2.2.2.2.1:Nat))∧w'.cell? ⟨w.heap.size+1,6,none⟩=some (.string ct.2.2.2.2.2)) w2.drew from ⟨r0,r1,r2,r3,r4,r5,v0,v1,v2,v3,v4,v5,v6⟩)
 replace hS:=hS.out
 refine headH_take (i:=1) (v:=?_) rfl (by kernel_rfl) (fun _ _ _ h=>h) (fun _ _ _ h=>seqB_ready h.1) (Or.inl ⟨by rfl,?hy8⟩) hS ?rest8
 case hy8=>intro w hSw;(try dsimp only at hSw);obtain⟨hc0,hc1,hc2,hc3,hc4,hc5,hc6,hc7,hc8,hc9,hc10,hc11,hc12⟩:=hSw;go_simp;try (with_reducible rfl)
 case rest8=>
 try simp only [pZa,pZb,pZc,pZd]
 refine headH_take (i:=2) (v:=?_) rfl (by kernel_rfl) (fun _ _ _ h=>h) (fun _ _ _ h=>seqB_ready h.1) (Or.inl ⟨by rfl,?hy9⟩) hS ?rest9
 case hy9=>intro w hSw;(try dsimp only at hSw);obtain⟨hc0,hc1,hc2,hc3,hc4,hc5,hc6,hc7,hc8,hc9,hc10,hc11,hc12⟩:=hSw;go_simp;try (with_reducible rfl)
 case rest9=>
 try simp only [pZa,pZb,pZc,pZd]
 refine headH_take (i:=4) (v:=?_) rfl (by kernel_rfl) (fun _ _ _ h=>h) (fun _ _ _ h=>seqB_ready h.1) (Or.inl ⟨by rfl,?hy10⟩) hS ?rest10
 case hy10=>intro w hSw;(try dsimp only at hSw);obtain⟨hc0,hc1,hc2,hc3,hc4,hc5,hc6,hc7,hc8,hc9,hc10,hc11,hc12⟩:=hSw;go_simp;try (with_reducible rfl)
 case rest10=>
 try simp only [pZa,pZb,pZc,pZd]
 refine headH_take (i:=5) (v:=?_) rfl (by kernel_rfl) (fun _ _ _ h=>h) (fun _ _ _ h=>seqB_ready h.1) (Or.inl ⟨by rfl,?hy11⟩) hS ?rest11
 case hy11=>intro w hSw;(try dsimp only at hSw);obtain⟨hc0,hc1,hc2,hc3,hc4,hc5,hc6,hc7,hc8,hc9,hc10,hc11,hc12⟩:=hSw;go_simp;try (with_reducible rfl)
 case rest11=>
 try simp only [pZa,pZb,pZc,pZd]
 refine headH_one (i:=0) (by kernel_rfl) rfl (fun K hK=>?_)
 go_simp
 refine (byKind_any _).mono ?_
 rintro e x1 ⟨rfl,hb⟩
 replace BC:=hZ (chain BC.out hb)
 replace BD:=hZ (chain BD.out hb)
 clear hb r0 r1 r2 r3 r4 r5 v0 v1 v2 v3 v4 v5 v6
 obtain⟨r0,r1,r2,r3,r4,r5⟩:=(P0.out.keep BD.out).sixO
 obtain⟨v0,v1,v2,v3,v4,v5,v6⟩:=(P1.out.keep BD.out).sevenO
 refine hK.out _ _ (show (fun (w':World)=>w'.cell? ⟨w.heap.size,0,none⟩=some (.int .u64 (o.1:Nat))∧w'.cell? ⟨w.heap.size,1,none⟩=some (.int .i64 o.2.1.1)∧w'.cell? ⟨w.heap.size,2,none⟩=some (.int .i64 o.2.1.2.1)∧w'.cell? ⟨w.heap.size,3,none⟩=some (.int .i64 o.2.1.2.2.1)∧w'.cell? ⟨w.heap.size,4,none⟩=some (.slice A o.2.1.2.2.2.length d)∧w'.cell? ⟨w.heap.size,5,none⟩=some (.int .i64 o.2.2)∧w'.cell? ⟨w.heap.size+1,0,none⟩=some (.int .i64 1)∧w'.cell? ⟨w.heap.size+1,1,none⟩=some (.int .u64 (ct.1:Nat))∧w'.cell? ⟨w.heap.size+1,2,none⟩=some (.int .i64 ct.2.1)∧w'.cell? ⟨w.heap.size+1,3,none⟩=some (.int .i64 ct.2.2.1)∧w'.cell? ⟨w.heap.size+1,4,none⟩=some (.int .i64 ct.2.2.2.1)∧w'.cell? ⟨w.heap.size+1,5,none⟩=some (.int .u64 (ct.2.2.2.2.1:Nat))∧w'.cell? ⟨w.heap.size+1,6,none⟩=some (.string ct.2.2.2.2.2)) x1 from ⟨r0,r1,r2,r3,r4,r5,v0,v1,v2,v3,v4,v5,v6⟩) (fun hS=>?_)
 clear hK K
 refine headH_take (i:=3) (v:=?_) rfl (by kernel_rfl) (fun _ _ _ h=>h) (fun _ _ _ h=>seqB_ready h.1) (Or.inl ⟨by rfl,?hy12⟩) hS ?rest12
 case hy12=>intro w hSw;(try dsimp only at hSw);obtain⟨hc0,hc1,hc2,hc3,hc4,hc5,hc6,hc7,hc8,hc9,hc10,hc11,hc12⟩:=hSw;go_simp;try (with_reducible rfl)
 case rest12=>
 try simp only [pZa,pZb,pZc,pZd]
 refine headH_one (i:=6) (by kernel_rfl) rfl (fun K hK=>?_)
 go_simp
 refine (HK.out _ BC.out).mono ?_
 rintro e x2 ⟨A2,d2,B2,c2,rfl,hs2,hx2,ht2,hc2,hm2,hb⟩
 replace BC:=hZ (chain BC.out hb)
 replace BD:=hZ (chain BD.out hb)
 have HS2:=hZ hs2
 have HX2:=hZ hx2
 have HT2:=hZ ht2
 have HC2:=hZ (And.intro hc2 hm2)
 clear hb hs2 hx2 ht2 hc2 hm2 r0 r1 r2 r3 r4 r5 v0 v1 v2 v3 v4 v5 v6
 obtain⟨r0,r1,r2,r3,r4,r5⟩:=(P0.out.keep BD.out).sixO
 obtain⟨v0,v1,v2,v3,v4,v5,v6⟩:=(P1.out.keep BD.out).sevenO
 have R2:=hZ (P2.out.keep BD.out)
 have R3:=hZ (P3.out.keep BD.out)
 obtain⟨s0,s1,s2,s3,s4,s5⟩:=R2.out.sixO
 obtain⟨t0,t1,t2⟩:=R3.out.threeO
 have f0:=R2.out.free 0
 have f1:=R2.out.free 1
 have f2:=R2.out.free 2
 have f3:=R2.out.free 3
 have f4:=R2.out.free 4
 have f5:=R2.out.free 5
 have g0:=R3.out.free 0
 have g1:=R3.out.free 1
 have g2:=R3.out.free 2
 refine hK.out _ _ (show (fun (w':World)=>w'.cell? ⟨w.heap.size,0,none⟩=some (.int .u64 (o.1:Nat))∧w'.cell? ⟨w.heap.size,1,none⟩=some (.int .i64 o.2.1.1)∧w'.cell? ⟨w.heap.size,2,none⟩=some (.int .i64 o.2.1.2.1)∧w'.cell? ⟨w.heap.size,3,none⟩=some (.int .i64 o.2.1.2.2.1)∧w'.cell? ⟨w.heap.size,4,none⟩=some (.slice A o.2.1.2.2.2.length d)∧w'.cell? ⟨w.heap.size,5,none⟩=some (.int .i64 o.2.2)∧w'.cell? ⟨w.heap.size+1,0,none⟩=some (.int .i64 1)∧w'.cell? ⟨w.heap.size+1,1,none⟩=some (.int .u64 (ct.1:Nat))∧w'.cell? ⟨w.heap.size+1,2,none⟩=some (.int .i64 ct.2.1)∧w'.cell? ⟨w.heap.size+1,3,none⟩=some (.int .i64 ct.2.2.1)∧w'.cell? ⟨w.heap.size+1,4,none⟩=some (.int .i64 ct.2.2.2.1)∧w'.cell? ⟨w.heap.size+1,5,none⟩=some (.int .u64 (ct.2.2.2.2.1:Nat))∧w'.cell? ⟨w.heap.size+1,6,none⟩=some (.string ct.2.2.2.2.2)) x2 from ⟨r0,r1,r2,r3,r4,r5,v0,v1,v2,v3,v4,v5,v6⟩) (fun hS=>?_)
 clear hK K
 refine headH_take (i:=7) (v:=?_) rfl (by kernel_rfl) (fun _ _ _ h=>h) (fun _ _ _ h=>seqB_ready h.1) (Or.inl ⟨by rfl,?hy13⟩) hS ?rest13
 case hy13=>intro w hSw;(try dsimp only at hSw);obtain⟨hc0,hc1,hc2,hc3,hc4,hc5,hc6,hc7,hc8,hc9,hc10,hc11,hc12⟩:=hSw;go_simp;try (with_reducible rfl)
 case rest13=>
 try simp only [pZa,pZb,pZc,pZd]
 refine headH_take (i:=8) (v:=?_) rfl (by kernel_rfl) (fun _ _ _ h=>h) (fun _ _ _ h=>seqB_ready h.1) (Or.inl ⟨by rfl,?hy14⟩) hS ?rest14
 case hy14=>intro w hSw;(try dsimp only at hSw);obtain⟨hc0,hc1,hc2,hc3,hc4,hc5,hc6,hc7,hc8,hc9,hc10,hc11,hc12⟩:=hSw;go_simp;try (with_reducible rfl)
 case rest14=>
 try simp only [pZa,pZb,pZc,pZd]
 refine⟨by kernel_rfl,?_⟩
 go_wp2_with fail
 refine close_two Tryz.results9 rfl rfl rfl (R2.out.put6o.far3o (by omega) _ _ _) ((R3.out.far6o (g':=w.heap.size+1+1) (by omega) _ _ _ _ _ _).put3o) Tryz.underlying27 Tryz.underlying36 rfl rfl (by kernel_rfl) (by kernel_rfl) ?_
 exact⟨A2,d2,B2,c2,rfl,HS2.out,Syms.far9 HX2.out (Syms.neO HX2.out R2.out oz_no) (Syms.neO HX2.out R3.out rz_no) _ _ _ _ _ _ _ _ _,HT2.out.far9 (HT2.out.neO R2.out oz_no) (HT2.out.neO R3.out rz_no) _ _ _ _ _ _ _ _ _,HC2.out.1,HC2.out.2,below_set3o (below_set6o BC.out (show w.heap.size≤w.heap.size+1+1 by omega) _ _ _ _ _ _) (show w.heap.size≤w.heap.size+1+1+1 by omega) _ _ _⟩
set_option maxHeartbeats 8000000 in
theorem do_kind2 (o:ObR) (A:Option Addr) (d:Nat) (ct:Nat×Int×Int×Int×Nat×ByteArray) (w:World) (hs:SliceOk A o.2.1.2.2.2.length d) (hx:Syms w A o.2.1.2.2.2.length o.2.1.2.2.2) (hr:rightO o=true) (hi:Ids o.2.1.2.2.2) (hci:ct.2.2.2.2.1<18446744073709551616) (hc:¬ o.2.2=1) :
  Calls Tryz.prog 9 #[.agg (obA o A d),callV (2,ct)] w (DoOut (kindO o (2,ct)).1 (kindO o (2,ct)).2 w):=by
 have HR:=hZ (fun wy (hw:Below w.heap.size w wy)=>oright_any (.agg (obA o A d)) o wy ⟨A,d,rfl,hs,Recs.below hx hw⟩)
 have HK:=hZ (fun wy (hw:Below w.heap.size w wy)=>kind2 o A d (2,ct) wy hr hs (Recs.below hx hw) hi hci rfl)
 obtain⟨ro,hro⟩:∃ x,x=kindO o (2,ct):=⟨_,rfl⟩
 rw [← hro] at HK ⊢
 obtain⟨q0,q1,q2,q3,b5⟩:=A4_gen 27 (obA o A d) (callL (2,ct)).toArray oZ rZ w
 have Q0:=hZ q0
 have Q1:=hZ q1
 have Q2:=hZ q2
 have Q3:=hZ q3
 have HB:=hZ b5
 obtain⟨r0,r1,r2,r3,r4,r5⟩:=Q0.out.sixO
 obtain⟨v0,v1,v2,v3,v4,v5,v6⟩:=Q1.out.sevenO
 clear q0 q1 q2 q3 b5
 rw [hr] at HR
 have ix:∀ w:World,(Instr.index 71 (.agg #[.func (.func 51) #[] #[],.func (.func 52) #[] #[],.func (.func 53) #[] #[],.func (.func 54) #[] #[],.func (.func 55) #[] #[]]) (.int .i64 2)).run Tryz.prog w=.ok (.func (.func 53) #[] #[]) w:=fun _=>by kernel_rfl
 have eg:∀ args w,(callFunc 53 args).run Tryz.prog w=.ok (.enter 53 args) w:=enters_of Tryz.func53 (by kernel_rfl) rfl
 have tc:(o.2.2==1)=false:=by simpa using hc
 clear hc
 clear hro hs hx hi hr
 have HRw:=hZ (HR.out _ HB.out)
 go_enter Tryz.func9,Tryz.ntmps9
 go_wp2_with fail
 refine HRw.out.mono ?_
 rintro e w2 ⟨rfl,hb⟩
 have P0:=hZ (Q0.out.keep hb)
 have P1:=hZ (Q1.out.keep hb)
 have P2:=hZ (Q2.out.keep hb)
 have P3:=hZ (Q3.out.keep hb)
 have HB2:=hZ (chain HB.out hb)
 clear hb HRw r0 r1 r2 r3 r4 r5 v0 v1 v2 v3 v4 v5 v6
 obtain⟨r0,r1,r2,r3,r4,r5⟩:=P0.out.sixO
 obtain⟨v0,v1,v2,v3,v4,v5,v6⟩:=P1.out.sevenO
 go_upto_region 5 with (fail)
 have BC:=hZ HB2.out.drew
 have BD:=hZ (Below.refl w2.heap.size w2).drew
 refine wp_held_tail (S:=(fun (w':World)=>w'.cell? ⟨w.heap.size,0,none⟩=some (.int .u64 (o.1:Nat))∧w'.cell? ⟨w.heap.size,1,none⟩=some (.int .i64 o.2.1.1)∧w'.cell? ⟨w.heap.size,2,none⟩=some (.int .i64 o.2.1.2.1)∧w'.cell? ⟨w.heap.size,3,none⟩=some (.int .i64 o.2.1.2.2.1)∧w'.cell? ⟨w.heap.size,4,none⟩=some (.slice A o.2.1.2.2.2.length d)∧w'.cell? ⟨w.heap.size,5,none⟩=some (.int .i64 o.2.2)∧w'.cell? ⟨w.heap.size+1,0,none⟩=some (.int .i64 2)∧w'.cell? ⟨w.heap.size+1,1,none⟩=some (.int .u64 (ct.1:Nat))∧w'.cell? ⟨w.heap.size+1,2,none⟩=some (.int .i64 ct.2.1)∧w'.cell? ⟨w.heap.size+1,3,none⟩=some (.int .i64 ct.2.2.1)∧w'.cell? ⟨w.heap.size+1,4,none⟩=some (.int .i64 ct.2.2.2.1)∧w'.cell? ⟨w.heap.size+1,5,none⟩=some (.int .u64 (ct.2.2.2.2.1:Nat))∧w'.cell? ⟨w.heap.size+1,6,none⟩=some (.string ct.2.2.2.2.2))) 9 (by kernel_rfl) (by decide) ?_
 have hS:=hZ (show (fun (w':World)=>w'.cell? ⟨w.heap.size,0,none⟩=some (.int .u64 (o.1:Nat))∧w'.cell? ⟨w.heap.size,1,none⟩=some (.int .i64 o.2.1.1)∧w'.cell? ⟨w.heap.size,2,none⟩=some (.int .i64 o.2.1.2.1)∧w'.cell? ⟨w.heap.size,3,none⟩=some (.int .i64 o.2.1.2.2.1)∧w'.cell? ⟨w.heap.size,4,none⟩=some (.slice A o.2.1.2.2.2.length d)∧w'.cell? ⟨w.heap.size,5,none⟩=some (.int .i64 o.2.2)∧w'.cell? ⟨w.heap.size+1,0,none⟩=some (.int .i64 2)∧w'.cell? ⟨w.heap.size+1,1,none⟩=some (.int .u64 (ct.1:Nat))∧w'.cell? ⟨w.heap.size+1,2,none⟩=some (.int .i64 ct.2.1)∧w'.cell? ⟨w.heap.size+1,3,none⟩=some (.int .i64 ct.2.2.1)∧w'.cell? ⟨w.heap.size+1,4,none⟩=some (.int .i64 ct.2.2.2.1)∧w'.cell? ⟨w.heap.size+1,5,none⟩=some (.int .u64 (ct.2.2.2.2.1:Nat))∧w'.cell? ⟨w.heap.size+1,6,none⟩=some (.string ct.2.2.2.2.2)) w2.drew from ⟨r0,r1,r2,r3,r4,r5,v0,v1,v2,v3,v4,v5,v6⟩)
 replace hS:=hS.out
 refine headH_take (i:=1) (v:=?_) rfl (by kernel_rfl) (fun _ _ _ h=>h) (fun _ _ _ h=>seqB_ready h.1) (Or.inl ⟨by rfl,?hy15⟩) hS ?rest15
 case hy15=>intro w hSw;(try dsimp only at hSw);obtain⟨hc0,hc1,hc2,hc3,hc4,hc5,hc6,hc7,hc8,hc9,hc10,hc11,hc12⟩:=hSw;go_simp;try (with_reducible rfl)
 case rest15=>
 try simp only [pZa,pZb,pZc,pZd]
 refine headH_take (i:=2) (v:=?_) rfl (by kernel_rfl) (fun _ _ _ h=>h) (fun _ _ _ h=>seqB_ready h.1) (Or.inl ⟨by rfl,?hy16⟩) hS ?rest16
 case hy16=>intro w hSw;(try dsimp only at hSw);obtain⟨hc0,hc1,hc2,hc3,hc4,hc5,hc6,hc7,hc8,hc9,hc10,hc11,hc12⟩:=hSw;go_simp;try (with_reducible rfl)
 case rest16=>
 try simp only [pZa,pZb,pZc,pZd]
 refine headH_take (i:=4) (v:=?_) rfl (by kernel_rfl) (fun _ _ _ h=>h) (fun _ _ _ h=>seqB_ready h.1) (Or.inl ⟨by rfl,?hy17⟩) hS ?rest17
 case hy17=>intro w hSw;(try dsimp only at hSw);obtain⟨hc0,hc1,hc2,hc3,hc4,hc5,hc6,hc7,hc8,hc9,hc10,hc11,hc12⟩:=hSw;go_simp;try (with_reducible rfl)
 case rest17=>
 try simp only [pZa,pZb,pZc,pZd]
 refine headH_take (i:=5) (v:=?_) rfl (by kernel_rfl) (fun _ _ _ h=>h) (fun _ _ _ h=>seqB_ready h.1) (Or.inl ⟨by rfl,?hy18⟩) hS ?rest18
 case hy18=>intro w hSw;(try dsimp only at hSw);obtain⟨hc0,hc1,hc2,hc3,hc4,hc5,hc6,hc7,hc8,hc9,hc10,hc11,hc12⟩:=hSw;go_simp;try (with_reducible rfl)
 case rest18=>
 try simp only [pZa,pZb,pZc,pZd]
 refine headH_one (i:=0) (by kernel_rfl) rfl (fun K hK=>?_)
 go_simp
 refine (byKind_any _).mono ?_
 rintro e x1 ⟨rfl,hb⟩
 replace BC:=hZ (chain BC.out hb)
 replace BD:=hZ (chain BD.out hb)
 clear hb r0 r1 r2 r3 r4 r5 v0 v1 v2 v3 v4 v5 v6
 obtain⟨r0,r1,r2,r3,r4,r5⟩:=(P0.out.keep BD.out).sixO
 obtain⟨v0,v1,v2,v3,v4,v5,v6⟩:=(P1.out.keep BD.out).sevenO
 refine hK.out _ _ (show (fun (w':World)=>w'.cell? ⟨w.heap.size,0,none⟩=some (.int .u64 (o.1:Nat))∧w'.cell? ⟨w.heap.size,1,none⟩=some (.int .i64 o.2.1.1)∧w'.cell? ⟨w.heap.size,2,none⟩=some (.int .i64 o.2.1.2.1)∧w'.cell? ⟨w.heap.size,3,none⟩=some (.int .i64 o.2.1.2.2.1)∧w'.cell? ⟨w.heap.size,4,none⟩=some (.slice A o.2.1.2.2.2.length d)∧w'.cell? ⟨w.heap.size,5,none⟩=some (.int .i64 o.2.2)∧w'.cell? ⟨w.heap.size+1,0,none⟩=some (.int .i64 2)∧w'.cell? ⟨w.heap.size+1,1,none⟩=some (.int .u64 (ct.1:Nat))∧w'.cell? ⟨w.heap.size+1,2,none⟩=some (.int .i64 ct.2.1)∧w'.cell? ⟨w.heap.size+1,3,none⟩=some (.int .i64 ct.2.2.1)∧w'.cell? ⟨w.heap.size+1,4,none⟩=some (.int .i64 ct.2.2.2.1)∧w'.cell? ⟨w.heap.size+1,5,none⟩=some (.int .u64 (ct.2.2.2.2.1:Nat))∧w'.cell? ⟨w.heap.size+1,6,none⟩=some (.string ct.2.2.2.2.2)) x1 from ⟨r0,r1,r2,r3,r4,r5,v0,v1,v2,v3,v4,v5,v6⟩) (fun hS=>?_)
 clear hK K
 refine headH_take (i:=3) (v:=?_) rfl (by kernel_rfl) (fun _ _ _ h=>h) (fun _ _ _ h=>seqB_ready h.1) (Or.inl ⟨by rfl,?hy19⟩) hS ?rest19
 case hy19=>intro w hSw;(try dsimp only at hSw);obtain⟨hc0,hc1,hc2,hc3,hc4,hc5,hc6,hc7,hc8,hc9,hc10,hc11,hc12⟩:=hSw;go_simp;try (with_reducible rfl)
 case rest19=>
 try simp only [pZa,pZb,pZc,pZd]
 refine headH_one (i:=6) (by kernel_rfl) rfl (fun K hK=>?_)
 go_simp
 refine (HK.out _ BC.out).mono ?_
 rintro e x2 ⟨A2,d2,B2,c2,rfl,hs2,hx2,ht2,hc2,hm2,hb⟩
 replace BC:=hZ (chain BC.out hb)
 replace BD:=hZ (chain BD.out hb)
 have HS2:=hZ hs2
 have HX2:=hZ hx2
 have HT2:=hZ ht2
 have HC2:=hZ (And.intro hc2 hm2)
 clear hb hs2 hx2 ht2 hc2 hm2 r0 r1 r2 r3 r4 r5 v0 v1 v2 v3 v4 v5 v6
 obtain⟨r0,r1,r2,r3,r4,r5⟩:=(P0.out.keep BD.out).sixO
 obtain⟨v0,v1,v2,v3,v4,v5,v6⟩:=(P1.out.keep BD.out).sevenO
 have R2:=hZ (P2.out.keep BD.out)
 have R3:=hZ (P3.out.keep BD.out)
 obtain⟨s0,s1,s2,s3,s4,s5⟩:=R2.out.sixO
 obtain⟨t0,t1,t2⟩:=R3.out.threeO
 have f0:=R2.out.free 0
 have f1:=R2.out.free 1
 have f2:=R2.out.free 2
 have f3:=R2.out.free 3
 have f4:=R2.out.free 4
 have f5:=R2.out.free 5
 have g0:=R3.out.free 0
 have g1:=R3.out.free 1
 have g2:=R3.out.free 2
 refine hK.out _ _ (show (fun (w':World)=>w'.cell? ⟨w.heap.size,0,none⟩=some (.int .u64 (o.1:Nat))∧w'.cell? ⟨w.heap.size,1,none⟩=some (.int .i64 o.2.1.1)∧w'.cell? ⟨w.heap.size,2,none⟩=some (.int .i64 o.2.1.2.1)∧w'.cell? ⟨w.heap.size,3,none⟩=some (.int .i64 o.2.1.2.2.1)∧w'.cell? ⟨w.heap.size,4,none⟩=some (.slice A o.2.1.2.2.2.length d)∧w'.cell? ⟨w.heap.size,5,none⟩=some (.int .i64 o.2.2)∧w'.cell? ⟨w.heap.size+1,0,none⟩=some (.int .i64 2)∧w'.cell? ⟨w.heap.size+1,1,none⟩=some (.int .u64 (ct.1:Nat))∧w'.cell? ⟨w.heap.size+1,2,none⟩=some (.int .i64 ct.2.1)∧w'.cell? ⟨w.heap.size+1,3,none⟩=some (.int .i64 ct.2.2.1)∧w'.cell? ⟨w.heap.size+1,4,none⟩=some (.int .i64 ct.2.2.2.1)∧w'.cell? ⟨w.heap.size+1,5,none⟩=some (.int .u64 (ct.2.2.2.2.1:Nat))∧w'.cell? ⟨w.heap.size+1,6,none⟩=some (.string ct.2.2.2.2.2)) x2 from ⟨r0,r1,r2,r3,r4,r5,v0,v1,v2,v3,v4,v5,v6⟩) (fun hS=>?_)
 clear hK K
 refine headH_take (i:=7) (v:=?_) rfl (by kernel_rfl) (fun _ _ _ h=>h) (fun _ _ _ h=>seqB_ready h.1) (Or.inl ⟨by rfl,?hy20⟩) hS ?rest20
 case hy20=>intro w hSw;(try dsimp only at hSw);obtain⟨hc0,hc1,hc2,hc3,hc4,hc5,hc6,hc7,hc8,hc9,hc10,hc11,hc12⟩:=hSw;go_simp;try (with_reducible rfl)
 case rest20=>
 try simp only [pZa,pZb,pZc,pZd]
 refine headH_take (i:=8) (v:=?_) rfl (by kernel_rfl) (fun _ _ _ h=>h) (fun _ _ _ h=>seqB_ready h.1) (Or.inl ⟨by rfl,?hy21⟩) hS ?rest21
 case hy21=>intro w hSw;(try dsimp only at hSw);obtain⟨hc0,hc1,hc2,hc3,hc4,hc5,hc6,hc7,hc8,hc9,hc10,hc11,hc12⟩:=hSw;go_simp;try (with_reducible rfl)
 case rest21=>
 try simp only [pZa,pZb,pZc,pZd]
 refine⟨by kernel_rfl,?_⟩
 go_wp2_with fail
 refine close_two Tryz.results9 rfl rfl rfl (R2.out.put6o.far3o (by omega) _ _ _) ((R3.out.far6o (g':=w.heap.size+1+1) (by omega) _ _ _ _ _ _).put3o) Tryz.underlying27 Tryz.underlying36 rfl rfl (by kernel_rfl) (by kernel_rfl) ?_
 exact⟨A2,d2,B2,c2,rfl,HS2.out,Syms.far9 HX2.out (Syms.neO HX2.out R2.out oz_no) (Syms.neO HX2.out R3.out rz_no) _ _ _ _ _ _ _ _ _,HT2.out.far9 (HT2.out.neO R2.out oz_no) (HT2.out.neO R3.out rz_no) _ _ _ _ _ _ _ _ _,HC2.out.1,HC2.out.2,below_set3o (below_set6o BC.out (show w.heap.size≤w.heap.size+1+1 by omega) _ _ _ _ _ _) (show w.heap.size≤w.heap.size+1+1+1 by omega) _ _ _⟩
set_option maxHeartbeats 8000000 in
theorem do_kind3 (o:ObR) (A:Option Addr) (d:Nat) (ct:Nat×Int×Int×Int×Nat×ByteArray) (w:World) (hs:SliceOk A o.2.1.2.2.2.length d) (hx:Syms w A o.2.1.2.2.2.length o.2.1.2.2.2) (hr:rightO o=true) (hi:Ids o.2.1.2.2.2) (hci:ct.2.2.2.2.1<18446744073709551616) (hc:¬ o.2.2=1) :
  Calls Tryz.prog 9 #[.agg (obA o A d),callV (3,ct)] w (DoOut (kindO o (3,ct)).1 (kindO o (3,ct)).2 w):=by
 have HR:=hZ (fun wy (hw:Below w.heap.size w wy)=>oright_any (.agg (obA o A d)) o wy ⟨A,d,rfl,hs,Recs.below hx hw⟩)
 have HK:=hZ (fun wy (hw:Below w.heap.size w wy)=>kind3 o A d (3,ct) wy hr hs (Recs.below hx hw) hi hci rfl)
 obtain⟨ro,hro⟩:∃ x,x=kindO o (3,ct):=⟨_,rfl⟩
 rw [← hro] at HK ⊢
 obtain⟨q0,q1,q2,q3,b5⟩:=A4_gen 27 (obA o A d) (callL (3,ct)).toArray oZ rZ w
 have Q0:=hZ q0
 have Q1:=hZ q1
 have Q2:=hZ q2
 have Q3:=hZ q3
 have HB:=hZ b5
 obtain⟨r0,r1,r2,r3,r4,r5⟩:=Q0.out.sixO
 obtain⟨v0,v1,v2,v3,v4,v5,v6⟩:=Q1.out.sevenO
 clear q0 q1 q2 q3 b5
 rw [hr] at HR
 have ix:∀ w:World,(Instr.index 71 (.agg #[.func (.func 51) #[] #[],.func (.func 52) #[] #[],.func (.func 53) #[] #[],.func (.func 54) #[] #[],.func (.func 55) #[] #[]]) (.int .i64 3)).run Tryz.prog w=.ok (.func (.func 54) #[] #[]) w:=fun _=>by kernel_rfl
 have eg:∀ args w,(callFunc 54 args).run Tryz.prog w=.ok (.enter 54 args) w:=enters_of Tryz.func54 (by kernel_rfl) rfl
 have tc:(o.2.2==1)=false:=by simpa using hc
 clear hc
 clear hro hs hx hi hr
 have HRw:=hZ (HR.out _ HB.out)
 go_enter Tryz.func9,Tryz.ntmps9
 go_wp2_with fail
 refine HRw.out.mono ?_
 rintro e w2 ⟨rfl,hb⟩
 have P0:=hZ (Q0.out.keep hb)
 have P1:=hZ (Q1.out.keep hb)
 have P2:=hZ (Q2.out.keep hb)
 have P3:=hZ (Q3.out.keep hb)
 have HB2:=hZ (chain HB.out hb)
 clear hb HRw r0 r1 r2 r3 r4 r5 v0 v1 v2 v3 v4 v5 v6
 obtain⟨r0,r1,r2,r3,r4,r5⟩:=P0.out.sixO
 obtain⟨v0,v1,v2,v3,v4,v5,v6⟩:=P1.out.sevenO
 go_upto_region 5 with (fail)
 have BC:=hZ HB2.out.drew
 have BD:=hZ (Below.refl w2.heap.size w2).drew
 refine wp_held_tail (S:=(fun (w':World)=>w'.cell? ⟨w.heap.size,0,none⟩=some (.int .u64 (o.1:Nat))∧w'.cell? ⟨w.heap.size,1,none⟩=some (.int .i64 o.2.1.1)∧w'.cell? ⟨w.heap.size,2,none⟩=some (.int .i64 o.2.1.2.1)∧w'.cell? ⟨w.heap.size,3,none⟩=some (.int .i64 o.2.1.2.2.1)∧w'.cell? ⟨w.heap.size,4,none⟩=some (.slice A o.2.1.2.2.2.length d)∧w'.cell? ⟨w.heap.size,5,none⟩=some (.int .i64 o.2.2)∧w'.cell? ⟨w.heap.size+1,0,none⟩=some (.int .i64 3)∧w'.cell? ⟨w.heap.size+1,1,none⟩=some (.int .u64 (ct.1:Nat))∧w'.cell? ⟨w.heap.size+1,2,none⟩=some (.int .i64 ct.2.1)∧w'.cell? ⟨w.heap.size+1,3,none⟩=some (.int .i64 ct.2.2.1)∧w'.cell? ⟨w.heap.size+1,4,none⟩=some (.int .i64 ct.2.2.2.1)∧w'.cell? ⟨w.heap.size+1,5,none⟩=some (.int .u64 (ct.2.2.2.2.1:Nat))∧w'.cell? ⟨w.heap.size+1,6,none⟩=some (.string ct.2.2.2.2.2))) 9 (by kernel_rfl) (by decide) ?_
 have hS:=hZ (show (fun (w':World)=>w'.cell? ⟨w.heap.size,0,none⟩=some (.int .u64 (o.1:Nat))∧w'.cell? ⟨w.heap.size,1,none⟩=some (.int .i64 o.2.1.1)∧w'.cell? ⟨w.heap.size,2,none⟩=some (.int .i64 o.2.1.2.1)∧w'.cell? ⟨w.heap.size,3,none⟩=some (.int .i64 o.2.1.2.2.1)∧w'.cell? ⟨w.heap.size,4,none⟩=some (.slice A o.2.1.2.2.2.length d)∧w'.cell? ⟨w.heap.size,5,none⟩=some (.int .i64 o.2.2)∧w'.cell? ⟨w.heap.size+1,0,none⟩=some (.int .i64 3)∧w'.cell? ⟨w.heap.size+1,1,none⟩=some (.int .u64 (ct.1:Nat))∧w'.cell? ⟨w.heap.size+1,2,none⟩=some (.int .i64 ct.2.1)∧w'.cell? ⟨w.heap.size+1,3,none⟩=some (.int .i64 ct.2.2.1)∧w'.cell? ⟨w.heap.size+1,4,none⟩=some (.int .i64 ct.2.2.2.1)∧w'.cell? ⟨w.heap.size+1,5,none⟩=some (.int .u64 (ct.2.2.2.2.1:Nat))∧w'.cell? ⟨w.heap.size+1,6,none⟩=some (.string ct.2.2.2.2.2)) w2.drew from ⟨r0,r1,r2,r3,r4,r5,v0,v1,v2,v3,v4,v5,v6⟩)
 replace hS:=hS.out
 refine headH_take (i:=1) (v:=?_) rfl (by kernel_rfl) (fun _ _ _ h=>h) (fun _ _ _ h=>seqB_ready h.1) (Or.inl ⟨by rfl,?hy22⟩) hS ?rest22
 case hy22=>intro w hSw;(try dsimp only at hSw);obtain⟨hc0,hc1,hc2,hc3,hc4,hc5,hc6,hc7,hc8,hc9,hc10,hc11,hc12⟩:=hSw;go_simp;try (with_reducible rfl)
 case rest22=>
 try simp only [pZa,pZb,pZc,pZd]
 refine headH_take (i:=2) (v:=?_) rfl (by kernel_rfl) (fun _ _ _ h=>h) (fun _ _ _ h=>seqB_ready h.1) (Or.inl ⟨by rfl,?hy23⟩) hS ?rest23
 case hy23=>intro w hSw;(try dsimp only at hSw);obtain⟨hc0,hc1,hc2,hc3,hc4,hc5,hc6,hc7,hc8,hc9,hc10,hc11,hc12⟩:=hSw;go_simp;try (with_reducible rfl)
 case rest23=>
 try simp only [pZa,pZb,pZc,pZd]
 refine headH_take (i:=4) (v:=?_) rfl (by kernel_rfl) (fun _ _ _ h=>h) (fun _ _ _ h=>seqB_ready h.1) (Or.inl ⟨by rfl,?hy24⟩) hS ?rest24
 case hy24=>intro w hSw;(try dsimp only at hSw);obtain⟨hc0,hc1,hc2,hc3,hc4,hc5,hc6,hc7,hc8,hc9,hc10,hc11,hc12⟩:=hSw;go_simp;try (with_reducible rfl)
 case rest24=>
 try simp only [pZa,pZb,pZc,pZd]
 refine headH_take (i:=5) (v:=?_) rfl (by kernel_rfl) (fun _ _ _ h=>h) (fun _ _ _ h=>seqB_ready h.1) (Or.inl ⟨by rfl,?hy25⟩) hS ?rest25
 case hy25=>intro w hSw;(try dsimp only at hSw);obtain⟨hc0,hc1,hc2,hc3,hc4,hc5,hc6,hc7,hc8,hc9,hc10,hc11,hc12⟩:=hSw;go_simp;try (with_reducible rfl)
 case rest25=>
 try simp only [pZa,pZb,pZc,pZd]
 refine headH_one (i:=0) (by kernel_rfl) rfl (fun K hK=>?_)
 go_simp
 refine (byKind_any _).mono ?_
 rintro e x1 ⟨rfl,hb⟩
 replace BC:=hZ (chain BC.out hb)
 replace BD:=hZ (chain BD.out hb)
 clear hb r0 r1 r2 r3 r4 r5 v0 v1 v2 v3 v4 v5 v6
 obtain⟨r0,r1,r2,r3,r4,r5⟩:=(P0.out.keep BD.out).sixO
 obtain⟨v0,v1,v2,v3,v4,v5,v6⟩:=(P1.out.keep BD.out).sevenO
 refine hK.out _ _ (show (fun (w':World)=>w'.cell? ⟨w.heap.size,0,none⟩=some (.int .u64 (o.1:Nat))∧w'.cell? ⟨w.heap.size,1,none⟩=some (.int .i64 o.2.1.1)∧w'.cell? ⟨w.heap.size,2,none⟩=some (.int .i64 o.2.1.2.1)∧w'.cell? ⟨w.heap.size,3,none⟩=some (.int .i64 o.2.1.2.2.1)∧w'.cell? ⟨w.heap.size,4,none⟩=some (.slice A o.2.1.2.2.2.length d)∧w'.cell? ⟨w.heap.size,5,none⟩=some (.int .i64 o.2.2)∧w'.cell? ⟨w.heap.size+1,0,none⟩=some (.int .i64 3)∧w'.cell? ⟨w.heap.size+1,1,none⟩=some (.int .u64 (ct.1:Nat))∧w'.cell? ⟨w.heap.size+1,2,none⟩=some (.int .i64 ct.2.1)∧w'.cell? ⟨w.heap.size+1,3,none⟩=some (.int .i64 ct.2.2.1)∧w'.cell? ⟨w.heap.size+1,4,none⟩=some (.int .i64 ct.2.2.2.1)∧w'.cell? ⟨w.heap.size+1,5,none⟩=some (.int .u64 (ct.2.2.2.2.1:Nat))∧w'.cell? ⟨w.heap.size+1,6,none⟩=some (.string ct.2.2.2.2.2)) x1 from ⟨r0,r1,r2,r3,r4,r5,v0,v1,v2,v3,v4,v5,v6⟩) (fun hS=>?_)
 clear hK K
 refine headH_take (i:=3) (v:=?_) rfl (by kernel_rfl) (fun _ _ _ h=>h) (fun _ _ _ h=>seqB_ready h.1) (Or.inl ⟨by rfl,?hy26⟩) hS ?rest26
 case hy26=>intro w hSw;(try dsimp only at hSw);obtain⟨hc0,hc1,hc2,hc3,hc4,hc5,hc6,hc7,hc8,hc9,hc10,hc11,hc12⟩:=hSw;go_simp;try (with_reducible rfl)
 case rest26=>
 try simp only [pZa,pZb,pZc,pZd]
 refine headH_one (i:=6) (by kernel_rfl) rfl (fun K hK=>?_)
 go_simp
 refine (HK.out _ BC.out).mono ?_
 rintro e x2 ⟨A2,d2,B2,c2,rfl,hs2,hx2,ht2,hc2,hm2,hb⟩
 replace BC:=hZ (chain BC.out hb)
 replace BD:=hZ (chain BD.out hb)
 have HS2:=hZ hs2
 have HX2:=hZ hx2
 have HT2:=hZ ht2
 have HC2:=hZ (And.intro hc2 hm2)
 clear hb hs2 hx2 ht2 hc2 hm2 r0 r1 r2 r3 r4 r5 v0 v1 v2 v3 v4 v5 v6
 obtain⟨r0,r1,r2,r3,r4,r5⟩:=(P0.out.keep BD.out).sixO
 obtain⟨v0,v1,v2,v3,v4,v5,v6⟩:=(P1.out.keep BD.out).sevenO
 have R2:=hZ (P2.out.keep BD.out)
 have R3:=hZ (P3.out.keep BD.out)
 obtain⟨s0,s1,s2,s3,s4,s5⟩:=R2.out.sixO
 obtain⟨t0,t1,t2⟩:=R3.out.threeO
 have f0:=R2.out.free 0
 have f1:=R2.out.free 1
 have f2:=R2.out.free 2
 have f3:=R2.out.free 3
 have f4:=R2.out.free 4
 have f5:=R2.out.free 5
 have g0:=R3.out.free 0
 have g1:=R3.out.free 1
 have g2:=R3.out.free 2
 refine hK.out _ _ (show (fun (w':World)=>w'.cell? ⟨w.heap.size,0,none⟩=some (.int .u64 (o.1:Nat))∧w'.cell? ⟨w.heap.size,1,none⟩=some (.int .i64 o.2.1.1)∧w'.cell? ⟨w.heap.size,2,none⟩=some (.int .i64 o.2.1.2.1)∧w'.cell? ⟨w.heap.size,3,none⟩=some (.int .i64 o.2.1.2.2.1)∧w'.cell? ⟨w.heap.size,4,none⟩=some (.slice A o.2.1.2.2.2.length d)∧w'.cell? ⟨w.heap.size,5,none⟩=some (.int .i64 o.2.2)∧w'.cell? ⟨w.heap.size+1,0,none⟩=some (.int .i64 3)∧w'.cell? ⟨w.heap.size+1,1,none⟩=some (.int .u64 (ct.1:Nat))∧w'.cell? ⟨w.heap.size+1,2,none⟩=some (.int .i64 ct.2.1)∧w'.cell? ⟨w.heap.size+1,3,none⟩=some (.int .i64 ct.2.2.1)∧w'.cell? ⟨w.heap.size+1,4,none⟩=some (.int .i64 ct.2.2.2.1)∧w'.cell? ⟨w.heap.size+1,5,none⟩=some (.int .u64 (ct.2.2.2.2.1:Nat))∧w'.cell? ⟨w.heap.size+1,6,none⟩=some (.string ct.2.2.2.2.2)) x2 from ⟨r0,r1,r2,r3,r4,r5,v0,v1,v2,v3,v4,v5,v6⟩) (fun hS=>?_)
 clear hK K
 refine headH_take (i:=7) (v:=?_) rfl (by kernel_rfl) (fun _ _ _ h=>h) (fun _ _ _ h=>seqB_ready h.1) (Or.inl ⟨by rfl,?hy27⟩) hS ?rest27
 case hy27=>intro w hSw;(try dsimp only at hSw);obtain⟨hc0,hc1,hc2,hc3,hc4,hc5,hc6,hc7,hc8,hc9,hc10,hc11,hc12⟩:=hSw;go_simp;try (with_reducible rfl)
 case rest27=>
 try simp only [pZa,pZb,pZc,pZd]
 refine headH_take (i:=8) (v:=?_) rfl (by kernel_rfl) (fun _ _ _ h=>h) (fun _ _ _ h=>seqB_ready h.1) (Or.inl ⟨by rfl,?hy28⟩) hS ?rest28
 case hy28=>intro w hSw;(try dsimp only at hSw);obtain⟨hc0,hc1,hc2,hc3,hc4,hc5,hc6,hc7,hc8,hc9,hc10,hc11,hc12⟩:=hSw;go_simp;try (with_reducible rfl)
 case rest28=>
 try simp only [pZa,pZb,pZc,pZd]
 refine⟨by kernel_rfl,?_⟩
 go_wp2_with fail
 refine close_two Tryz.results9 rfl rfl rfl (R2.out.put6o.far3o (by omega) _ _ _) ((R3.out.far6o (g':=w.heap.size+1+1) (by omega) _ _ _ _ _ _).put3o) Tryz.underlying27 Tryz.underlying36 rfl rfl (by kernel_rfl) (by kernel_rfl) ?_
 exact⟨A2,d2,B2,c2,rfl,HS2.out,Syms.far9 HX2.out (Syms.neO HX2.out R2.out oz_no) (Syms.neO HX2.out R3.out rz_no) _ _ _ _ _ _ _ _ _,HT2.out.far9 (HT2.out.neO R2.out oz_no) (HT2.out.neO R3.out rz_no) _ _ _ _ _ _ _ _ _,HC2.out.1,HC2.out.2,below_set3o (below_set6o BC.out (show w.heap.size≤w.heap.size+1+1 by omega) _ _ _ _ _ _) (show w.heap.size≤w.heap.size+1+1+1 by omega) _ _ _⟩
set_option maxHeartbeats 8000000 in
theorem do_kind4 (o:ObR) (A:Option Addr) (d:Nat) (ct:Nat×Int×Int×Int×Nat×ByteArray) (w:World) (hs:SliceOk A o.2.1.2.2.2.length d) (hx:Syms w A o.2.1.2.2.2.length o.2.1.2.2.2) (hr:rightO o=true) (hi:Ids o.2.1.2.2.2) (hci:ct.2.2.2.2.1<18446744073709551616) (hc:¬ o.2.2=1) :
  Calls Tryz.prog 9 #[.agg (obA o A d),callV (4,ct)] w (DoOut (kindO o (4,ct)).1 (kindO o (4,ct)).2 w):=by
 have HR:=hZ (fun wy (hw:Below w.heap.size w wy)=>oright_any (.agg (obA o A d)) o wy ⟨A,d,rfl,hs,Recs.below hx hw⟩)
 have HK:=hZ (fun wy (hw:Below w.heap.size w wy)=>kind4 o A d (4,ct) wy hr hs (Recs.below hx hw) hi hci rfl)
 obtain⟨ro,hro⟩:∃ x,x=kindO o (4,ct):=⟨_,rfl⟩
 rw [← hro] at HK ⊢
 obtain⟨q0,q1,q2,q3,b5⟩:=A4_gen 27 (obA o A d) (callL (4,ct)).toArray oZ rZ w
 have Q0:=hZ q0
 have Q1:=hZ q1
 have Q2:=hZ q2
 have Q3:=hZ q3
 have HB:=hZ b5
 obtain⟨r0,r1,r2,r3,r4,r5⟩:=Q0.out.sixO
 obtain⟨v0,v1,v2,v3,v4,v5,v6⟩:=Q1.out.sevenO
 clear q0 q1 q2 q3 b5
 rw [hr] at HR
 have ix:∀ w:World,(Instr.index 71 (.agg #[.func (.func 51) #[] #[],.func (.func 52) #[] #[],.func (.func 53) #[] #[],.func (.func 54) #[] #[],.func (.func 55) #[] #[]]) (.int .i64 4)).run Tryz.prog w=.ok (.func (.func 55) #[] #[]) w:=fun _=>by kernel_rfl
 have eg:∀ args w,(callFunc 55 args).run Tryz.prog w=.ok (.enter 55 args) w:=enters_of Tryz.func55 (by kernel_rfl) rfl
 have tc:(o.2.2==1)=false:=by simpa using hc
 clear hc
 clear hro hs hx hi hr
 have HRw:=hZ (HR.out _ HB.out)
 go_enter Tryz.func9,Tryz.ntmps9
 go_wp2_with fail
 refine HRw.out.mono ?_
 rintro e w2 ⟨rfl,hb⟩
 have P0:=hZ (Q0.out.keep hb)
 have P1:=hZ (Q1.out.keep hb)
 have P2:=hZ (Q2.out.keep hb)
 have P3:=hZ (Q3.out.keep hb)
 have HB2:=hZ (chain HB.out hb)
 clear hb HRw r0 r1 r2 r3 r4 r5 v0 v1 v2 v3 v4 v5 v6
 obtain⟨r0,r1,r2,r3,r4,r5⟩:=P0.out.sixO
 obtain⟨v0,v1,v2,v3,v4,v5,v6⟩:=P1.out.sevenO
 go_upto_region 5 with (fail)
 have BC:=hZ HB2.out.drew
 have BD:=hZ (Below.refl w2.heap.size w2).drew
 refine wp_held_tail (S:=(fun (w':World)=>w'.cell? ⟨w.heap.size,0,none⟩=some (.int .u64 (o.1:Nat))∧w'.cell? ⟨w.heap.size,1,none⟩=some (.int .i64 o.2.1.1)∧w'.cell? ⟨w.heap.size,2,none⟩=some (.int .i64 o.2.1.2.1)∧w'.cell? ⟨w.heap.size,3,none⟩=some (.int .i64 o.2.1.2.2.1)∧w'.cell? ⟨w.heap.size,4,none⟩=some (.slice A o.2.1.2.2.2.length d)∧w'.cell? ⟨w.heap.size,5,none⟩=some (.int .i64 o.2.2)∧w'.cell? ⟨w.heap.size+1,0,none⟩=some (.int .i64 4)∧w'.cell? ⟨w.heap.size+1,1,none⟩=some (.int .u64 (ct.1:Nat))∧w'.cell? ⟨w.heap.size+1,2,none⟩=some (.int .i64 ct.2.1)∧w'.cell? ⟨w.heap.size+1,3,none⟩=some (.int .i64 ct.2.2.1)∧w'.cell? ⟨w.heap.size+1,4,none⟩=some (.int .i64 ct.2.2.2.1)∧w'.cell? ⟨w.heap.size+1,5,none⟩=some (.int .u64 (ct.2.2.2.2.1:Nat))∧w'.cell? ⟨w.heap.size+1,6,none⟩=some (.string ct.2.2.2.2.2))) 9 (by kernel_rfl) (by decide) ?_
 have hS:=hZ (show (fun (w':World)=>w'.cell? ⟨w.heap.size,0,none⟩=some (.int .u64 (o.1:Nat))∧w'.cell? ⟨w.heap.size,1,none⟩=some (.int .i64 o.2.1.1)∧w'.cell? ⟨w.heap.size,2,none⟩=some (.int .i64 o.2.1.2.1)∧w'.cell? ⟨w.heap.size,3,none⟩=some (.int .i64 o.2.1.2.2.1)∧w'.cell? ⟨w.heap.size,4,none⟩=some (.slice A o.2.1.2.2.2.length d)∧w'.cell? ⟨w.heap.size,5,none⟩=some (.int .i64 o.2.2)∧w'.cell? ⟨w.heap.size+1,0,none⟩=some (.int .i64 4)∧w'.cell? ⟨w.heap.size+1,1,none⟩=some (.int .u64 (ct.1:Nat))∧w'.cell? ⟨w.heap.size+1,2,none⟩=some (.int .i64 ct.2.1)∧w'.cell? ⟨w.heap.size+1,3,none⟩=some (.int .i64 ct.2.2.1)∧w'.cell? ⟨w.heap.size+1,4,none⟩=some (.int .i64 ct.2.2.2.1)∧w'.cell? ⟨w.heap.size+1,5,none⟩=some (.int .u64 (ct.2.2.2.2.1:Nat))∧w'.cell? ⟨w.heap.size+1,6,none⟩=some (.string ct.2.2.2.2.2)) w2.drew from ⟨r0,r1,r2,r3,r4,r5,v0,v1,v2,v3,v4,v5,v6⟩)
 replace hS:=hS.out
 refine headH_take (i:=1) (v:=?_) rfl (by kernel_rfl) (fun _ _ _ h=>h) (fun _ _ _ h=>seqB_ready h.1) (Or.inl ⟨by rfl,?hy29⟩) hS ?rest29
 case hy29=>intro w hSw;(try dsimp only at hSw);obtain⟨hc0,hc1,hc2,hc3,hc4,hc5,hc6,hc7,hc8,hc9,hc10,hc11,hc12⟩:=hSw;go_simp;try (with_reducible rfl)
 case rest29=>
 try simp only [pZa,pZb,pZc,pZd]
 refine headH_take (i:=2) (v:=?_) rfl (by kernel_rfl) (fun _ _ _ h=>h) (fun _ _ _ h=>seqB_ready h.1) (Or.inl ⟨by rfl,?hy30⟩) hS ?rest30
 case hy30=>intro w hSw;(try dsimp only at hSw);obtain⟨hc0,hc1,hc2,hc3,hc4,hc5,hc6,hc7,hc8,hc9,hc10,hc11,hc12⟩:=hSw;go_simp;try (with_reducible rfl)
 case rest30=>
 try simp only [pZa,pZb,pZc,pZd]
 refine headH_take (i:=4) (v:=?_) rfl (by kernel_rfl) (fun _ _ _ h=>h) (fun _ _ _ h=>seqB_ready h.1) (Or.inl ⟨by rfl,?hy31⟩) hS ?rest31
 case hy31=>intro w hSw;(try dsimp only at hSw);obtain⟨hc0,hc1,hc2,hc3,hc4,hc5,hc6,hc7,hc8,hc9,hc10,hc11,hc12⟩:=hSw;go_simp;try (with_reducible rfl)
 case rest31=>
 try simp only [pZa,pZb,pZc,pZd]
 refine headH_take (i:=5) (v:=?_) rfl (by kernel_rfl) (fun _ _ _ h=>h) (fun _ _ _ h=>seqB_ready h.1) (Or.inl ⟨by rfl,?hy32⟩) hS ?rest32
 case hy32=>intro w hSw;(try dsimp only at hSw);obtain⟨hc0,hc1,hc2,hc3,hc4,hc5,hc6,hc7,hc8,hc9,hc10,hc11,hc12⟩:=hSw;go_simp;try (with_reducible rfl)
 case rest32=>
 try simp only [pZa,pZb,pZc,pZd]
 refine headH_one (i:=0) (by kernel_rfl) rfl (fun K hK=>?_)
 go_simp
 refine (byKind_any _).mono ?_
 rintro e x1 ⟨rfl,hb⟩
 replace BC:=hZ (chain BC.out hb)
 replace BD:=hZ (chain BD.out hb)
 clear hb r0 r1 r2 r3 r4 r5 v0 v1 v2 v3 v4 v5 v6
 obtain⟨r0,r1,r2,r3,r4,r5⟩:=(P0.out.keep BD.out).sixO
 obtain⟨v0,v1,v2,v3,v4,v5,v6⟩:=(P1.out.keep BD.out).sevenO
 refine hK.out _ _ (show (fun (w':World)=>w'.cell? ⟨w.heap.size,0,none⟩=some (.int .u64 (o.1:Nat))∧w'.cell? ⟨w.heap.size,1,none⟩=some (.int .i64 o.2.1.1)∧w'.cell? ⟨w.heap.size,2,none⟩=some (.int .i64 o.2.1.2.1)∧w'.cell? ⟨w.heap.size,3,none⟩=some (.int .i64 o.2.1.2.2.1)∧w'.cell? ⟨w.heap.size,4,none⟩=some (.slice A o.2.1.2.2.2.length d)∧w'.cell? ⟨w.heap.size,5,none⟩=some (.int .i64 o.2.2)∧w'.cell? ⟨w.heap.size+1,0,none⟩=some (.int .i64 4)∧w'.cell? ⟨w.heap.size+1,1,none⟩=some (.int .u64 (ct.1:Nat))∧w'.cell? ⟨w.heap.size+1,2,none⟩=some (.int .i64 ct.2.1)∧w'.cell? ⟨w.heap.size+1,3,none⟩=some (.int .i64 ct.2.2.1)∧w'.cell? ⟨w.heap.size+1,4,none⟩=some (.int .i64 ct.2.2.2.1)∧w'.cell? ⟨w.heap.size+1,5,none⟩=some (.int .u64 (ct.2.2.2.2.1:Nat))∧w'.cell? ⟨w.heap.size+1,6,none⟩=some (.string ct.2.2.2.2.2)) x1 from ⟨r0,r1,r2,r3,r4,r5,v0,v1,v2,v3,v4,v5,v6⟩) (fun hS=>?_)
 clear hK K
 refine headH_take (i:=3) (v:=?_) rfl (by kernel_rfl) (fun _ _ _ h=>h) (fun _ _ _ h=>seqB_ready h.1) (Or.inl ⟨by rfl,?hy33⟩) hS ?rest33
 case hy33=>intro w hSw;(try dsimp only at hSw);obtain⟨hc0,hc1,hc2,hc3,hc4,hc5,hc6,hc7,hc8,hc9,hc10,hc11,hc12⟩:=hSw;go_simp;try (with_reducible rfl)
 case rest33=>
 try simp only [pZa,pZb,pZc,pZd]
 refine headH_one (i:=6) (by kernel_rfl) rfl (fun K hK=>?_)
 go_simp
 refine (HK.out _ BC.out).mono ?_
 rintro e x2 ⟨A2,d2,B2,c2,rfl,hs2,hx2,ht2,hc2,hm2,hb⟩
 replace BC:=hZ (chain BC.out hb)
 replace BD:=hZ (chain BD.out hb)
 have HS2:=hZ hs2
 have HX2:=hZ hx2
 have HT2:=hZ ht2
 have HC2:=hZ (And.intro hc2 hm2)
 clear hb hs2 hx2 ht2 hc2 hm2 r0 r1 r2 r3 r4 r5 v0 v1 v2 v3 v4 v5 v6
 obtain⟨r0,r1,r2,r3,r4,r5⟩:=(P0.out.keep BD.out).sixO
 obtain⟨v0,v1,v2,v3,v4,v5,v6⟩:=(P1.out.keep BD.out).sevenO
 have R2:=hZ (P2.out.keep BD.out)
 have R3:=hZ (P3.out.keep BD.out)
 obtain⟨s0,s1,s2,s3,s4,s5⟩:=R2.out.sixO
 obtain⟨t0,t1,t2⟩:=R3.out.threeO
 have f0:=R2.out.free 0
 have f1:=R2.out.free 1
 have f2:=R2.out.free 2
 have f3:=R2.out.free 3
 have f4:=R2.out.free 4
 have f5:=R2.out.free 5
 have g0:=R3.out.free 0
 have g1:=R3.out.free 1
 have g2:=R3.out.free 2
 refine hK.out _ _ (show (fun (w':World)=>w'.cell? ⟨w.heap.size,0,none⟩=some (.int .u64 (o.1:Nat))∧w'.cell? ⟨w.heap.size,1,none⟩=some (.int .i64 o.2.1.1)∧w'.cell? ⟨w.heap.size,2,none⟩=some (.int .i64 o.2.1.2.1)∧w'.cell? ⟨w.heap.size,3,none⟩=some (.int .i64 o.2.1.2.2.1)∧w'.cell? ⟨w.heap.size,4,none⟩=some (.slice A o.2.1.2.2.2.length d)∧w'.cell? ⟨w.heap.size,5,none⟩=some (.int .i64 o.2.2)∧w'.cell? ⟨w.heap.size+1,0,none⟩=some (.int .i64 4)∧w'.cell? ⟨w.heap.size+1,1,none⟩=some (.int .u64 (ct.1:Nat))∧w'.cell? ⟨w.heap.size+1,2,none⟩=some (.int .i64 ct.2.1)∧w'.cell? ⟨w.heap.size+1,3,none⟩=some (.int .i64 ct.2.2.1)∧w'.cell? ⟨w.heap.size+1,4,none⟩=some (.int .i64 ct.2.2.2.1)∧w'.cell? ⟨w.heap.size+1,5,none⟩=some (.int .u64 (ct.2.2.2.2.1:Nat))∧w'.cell? ⟨w.heap.size+1,6,none⟩=some (.string ct.2.2.2.2.2)) x2 from ⟨r0,r1,r2,r3,r4,r5,v0,v1,v2,v3,v4,v5,v6⟩) (fun hS=>?_)
 clear hK K
 refine headH_take (i:=7) (v:=?_) rfl (by kernel_rfl) (fun _ _ _ h=>h) (fun _ _ _ h=>seqB_ready h.1) (Or.inl ⟨by rfl,?hy34⟩) hS ?rest34
 case hy34=>intro w hSw;(try dsimp only at hSw);obtain⟨hc0,hc1,hc2,hc3,hc4,hc5,hc6,hc7,hc8,hc9,hc10,hc11,hc12⟩:=hSw;go_simp;try (with_reducible rfl)
 case rest34=>
 try simp only [pZa,pZb,pZc,pZd]
 refine headH_take (i:=8) (v:=?_) rfl (by kernel_rfl) (fun _ _ _ h=>h) (fun _ _ _ h=>seqB_ready h.1) (Or.inl ⟨by rfl,?hy35⟩) hS ?rest35
 case hy35=>intro w hSw;(try dsimp only at hSw);obtain⟨hc0,hc1,hc2,hc3,hc4,hc5,hc6,hc7,hc8,hc9,hc10,hc11,hc12⟩:=hSw;go_simp;try (with_reducible rfl)
 case rest35=>
 try simp only [pZa,pZb,pZc,pZd]
 refine⟨by kernel_rfl,?_⟩
 go_wp2_with fail
 refine close_two Tryz.results9 rfl rfl rfl (R2.out.put6o.far3o (by omega) _ _ _) ((R3.out.far6o (g':=w.heap.size+1+1) (by omega) _ _ _ _ _ _).put3o) Tryz.underlying27 Tryz.underlying36 rfl rfl (by kernel_rfl) (by kernel_rfl) ?_
 exact⟨A2,d2,B2,c2,rfl,HS2.out,Syms.far9 HX2.out (Syms.neO HX2.out R2.out oz_no) (Syms.neO HX2.out R3.out rz_no) _ _ _ _ _ _ _ _ _,HT2.out.far9 (HT2.out.neO R2.out oz_no) (HT2.out.neO R3.out rz_no) _ _ _ _ _ _ _ _ _,HC2.out.1,HC2.out.2,below_set3o (below_set6o BC.out (show w.heap.size≤w.heap.size+1+1 by omega) _ _ _ _ _ _) (show w.heap.size≤w.heap.size+1+1+1 by omega) _ _ _⟩
theorem odo_any (o:ObR) (A:Option Addr) (d:Nat) (c:CallR) (w:World) (hs:SliceOk A o.2.1.2.2.2.length d) (hx:Syms w A o.2.1.2.2.2.length o.2.1.2.2.2) (hi:Ids o.2.1.2.2.2) (hci:c.2.2.2.2.2.1<18446744073709551616) :
  Calls Tryz.prog 9 #[.agg (obA o A d),callV c] w (DoOut (doO o c).1 (doO o c).2 w):=by
 by_cases hn:rightO o=true∧0≤c.1∧c.1≤4
 ·have hd:doO o c=(if c.1=0 then (o,(11,0,[])) else if o.2.2=1 then (o,(6,0,[])) else actO o c):=if_pos hn
  obtain⟨hr,h0,h4⟩:=hn
  rw [hd]
  obtain⟨wh,ct⟩:=c
  dsimp only at h0 h4 hci ⊢
  by_cases hz:wh=0
  ·subst hz
   rw [if_pos rfl]
   exact do_kind0 o A d ct w hs hx hr hi hci
  ·rw [if_neg hz]
   by_cases hc:o.2.2=1
   ·rw [if_pos hc]
    exact (do_closed o A d (wh,ct) w hs hx hr (by show 0<wh;omega) h4 hc).mono fun _ _ h=>h.do hs hx
   ·rw [if_neg hc]
    have hk:actO o (wh,ct)=kindO o (wh,ct):=(if_neg hz).symm
    rw [hk]
    have h5:wh=1∨wh=2∨wh=3∨wh=4:=by omega
    rcases h5 with rfl | rfl | rfl | rfl
    ·exact do_kind1 o A d ct w hs hx hr hi hci hc
    ·exact do_kind2 o A d ct w hs hx hr hi hci hc
    ·exact do_kind3 o A d ct w hs hx hr hi hci hc
    ·exact do_kind4 o A d ct w hs hx hr hi hci hc
 ·have hd:doO o c=(o,(1,0,[])):=if_neg hn
  rw [hd]
  exact (do_no o A d c w hs hx hn).mono fun _ _ h=>h.do hs hx
end
end Go.Proofs.YtcikoaeiopbbbaaGreat
