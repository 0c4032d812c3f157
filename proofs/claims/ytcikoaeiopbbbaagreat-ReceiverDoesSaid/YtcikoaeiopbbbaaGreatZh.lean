/- Parts: ObK, RvS, RvL, RvM. -/
import Derived.Test.YtcikoaeiopbbbaaGreatZg
import Derived.Deep.RegionLaw
import Derived.Laws.CopyRow
import Derived.Lib.AppendZerosOnto
import Derived.Lib.Overlaps
namespace Go.Proofs.YtcikoaeiopbbbaaGreat
set_option linter.unusedVariables false
set_option linter.unusedSimpArgs false
set_option linter.unusedSectionVars false
set_option maxHeartbeats 16000000
section
open Go.RowKit Go.Lib
set_option maxRecDepth 100000
abbrev kindsA:Array Value:=#[.func (.func 51) #[] #[],.func (.func 52) #[] #[],.func (.func 53) #[] #[],.func (.func 54) #[] #[],.func (.func 55) #[] #[]]
theorem store_fnO {W:World} {g i:Nat} {t:TypeId} {cs:Array Value} (h:Box W g t cs) (hi:i<cs.size) (f:Fn):Sem.run Tryz.prog (store ⟨g,i,none⟩ (.func f #[] #[])) W=.ok () (W.setCell ⟨g,i,none⟩ (.func f #[] #[])):=by
 rw [run_store _ _ _ _ _ rfl,h.cell i,Array.getElem?_eq_getElem hi]
 simp [h.free i]
theorem byKind_any (w:World):Calls Tryz.prog 29 #[] w fun e w'=>e=.returned (.agg kindsA)∧Below w.heap.size w w':=by
 have X1:=hZ (Box.new w 71 #[.nilFunc,.nilFunc,.nilFunc,.nilFunc,.nilFunc])
 have HB:=hZ ((Below.refl w.heap.size w).alloc (Nat.le_refl _) (.cells #[.nilFunc,.nilFunc,.nilFunc,.nilFunc,.nilFunc] 71))
 go_enter Tryz.func29,Tryz.ntmps29
 go_wp2_with fail
 rw [store_fnO (i:=0) (X1.out) (by decide) (.func 51)]
 simp only [Result.andThen_ok]
 rw [store_fnO (i:=1) ((X1.out).put 0 (.func (.func 51) #[] #[])) (by decide) (.func 52)]
 simp only [Result.andThen_ok]
 rw [store_fnO (i:=2) (((X1.out).put 0 (.func (.func 51) #[] #[])).put 1 (.func (.func 52) #[] #[])) (by decide) (.func 53)]
 simp only [Result.andThen_ok]
 rw [store_fnO (i:=3) ((((X1.out).put 0 (.func (.func 51) #[] #[])).put 1 (.func (.func 52) #[] #[])).put 2 (.func (.func 53) #[] #[])) (by decide) (.func 54)]
 simp only [Result.andThen_ok]
 rw [store_fnO (i:=4) (((((X1.out).put 0 (.func (.func 51) #[] #[])).put 1 (.func (.func 52) #[] #[])).put 2 (.func (.func 53) #[] #[])).put 3 (.func (.func 54) #[] #[])) (by decide) (.func 55)]
 simp only [Result.andThen_ok]
 go_wp2_with fail
 exact close_one Tryz.results29 rfl rfl (Box.new w 71 kindsA) Tryz.underlying71 rfl (by kernel_rfl) ⟨rfl,(Below.refl w.heap.size w).alloc (Nat.le_refl _) _⟩
noncomputable def kindO (o:ObR) (c:CallR):ObR×ReplyR:=if c.1=0 then (o,(11,0,[])) else actO o c
theorem Ref2.do {o:ObR} {A:Option Addr} {d:Nat} {why:Int} {w w':World} {e:Ending} (h:Ref2 o A d why w e w') (hs:SliceOk A o.2.1.2.2.2.length d) (hx:Syms w A o.2.1.2.2.2.length o.2.1.2.2.2):DoOut o (why,0,[]) w e w':=
 ⟨A,d,none,0,h.1,hs,Recs.below hx h.2,Texts.nil _ _,Nat.le_refl _,Nat.zero_le _,h.2⟩
theorem SameOut.do {o:ObR} {A:Option Addr} {d:Nat} {n:Int} {w w':World} {e:Ending} (h:SameOut o A d n w e w') (hs:SliceOk A o.2.1.2.2.2.length d) (hx:Syms w A o.2.1.2.2.2.length o.2.1.2.2.2):DoOut o (0,n,[]) w e w':=
 ⟨A,d,none,0,h.1,hs,Recs.below hx h.2,Texts.nil _ _,Nat.le_refl _,Nat.zero_le _,h.2⟩
theorem ResOut.do {o:ObR} {A:Option Addr} {d:Nat} {p:Int×List ByteArray} {w w':World} {e:Ending} (h:ResOut o A d p w e w') (hs:SliceOk A o.2.1.2.2.2.length d) (hx:Syms w A o.2.1.2.2.2.length o.2.1.2.2.2):DoOut o (p.1,(p.2.length:Int),p.2) w e w':=by
 obtain⟨B,c,h1,h2,h3,h4,h5⟩:=h
 exact⟨A,d,B,c,h1,hs,Recs.below hx h5,h2,h3,h4,h5⟩
section
variable (o:ObR) (A:Option Addr) (d:Nat) (c:CallR) (w:World) (hr:rightO o=true) (hs:SliceOk A o.2.1.2.2.2.length d) (hx:Syms w A o.2.1.2.2.2.length o.2.1.2.2.2) (hi:Ids o.2.1.2.2.2) (hci:c.2.2.2.2.2.1<18446744073709551616)
include hr hs hx hi hci
theorem kind0 (h:c.1=0):Calls Tryz.prog 51 #[.agg (obA o A d),callV c] w (DoOut (kindO o c).1 (kindO o c).2 w):=by
 have e:kindO o c=(o,(11,0,[])):=if_pos h
 rw [e]
 exact (hopen_any o A d c w).mono fun _ _ h=>h.do hs hx
theorem kind1 (h:c.1=1):Calls Tryz.prog 52 #[.agg (obA o A d),callV c] w (DoOut (kindO o c).1 (kindO o c).2 w):=by
 have e:kindO o c=actO o c:=if_neg (by omega)
 rw [e]
 unfold actO
 rw [if_pos h]
 obtain⟨id,⟨k,s,cp,xs⟩,cl⟩:=o
 by_cases hE:whyI s cp xs (c.2.2.2.2.2.1,c.2.2.2.2.2.2)=0
 ·rw [if_pos hE]
  exact hadd_yes id k s cp xs cl A d c w hr hs hx hi hci hE
 ·rw [if_neg hE]
  exact (hadd_no id k s cp xs cl A d c w (right_store hr) hs hx hE).mono fun _ _ h=>h.do hs hx
theorem kind2 (h:c.1=2):Calls Tryz.prog 53 #[.agg (obA o A d),callV c] w (DoOut (kindO o c).1 (kindO o c).2 w):=by
 have e:kindO o c=(o,(0,(rankF o.2.1.1 o.2.1.2.2.2:Int),[])):=by unfold kindO actO;rw [if_neg (by omega),if_neg (by omega),if_pos h]
 rw [e]
 exact (hprog_any o A d c w hr hs hx hi).mono fun _ _ h=>h.do hs hx
theorem kind3 (h:c.1=3):Calls Tryz.prog 54 #[.agg (obA o A d),callV c] w (DoOut (kindO o c).1 (kindO o c).2 w):=by
 have e:kindO o c=(o,((solveF o.2.1.1 o.2.1.2.1 o.2.1.2.2.2).1,((solveF o.2.1.1 o.2.1.2.1 o.2.1.2.2.2).2.length:Int),(solveF o.2.1.1 o.2.1.2.1 o.2.1.2.2.2).2)):=by unfold kindO actO;rw [if_neg (by omega),if_neg (by omega),if_neg (by omega),if_pos h]
 rw [e]
 exact (hres_any o A d c w hr hs hx hi).mono fun _ _ h=>h.do hs hx
theorem kind4 (h:c.1=4):Calls Tryz.prog 55 #[.agg (obA o A d),callV c] w (DoOut (kindO o c).1 (kindO o c).2 w):=by
 have e:kindO o c=((o.1,o.2.1,1),(0,(o.2.1.2.2.2.length:Int),[])):=by unfold kindO actO;rw [if_neg (by omega),if_neg (by omega),if_neg (by omega),if_neg (by omega)]
 rw [e]
 exact (hclose_any o A d c w).mono fun _ _ h=>SameOut.do (o:=(o.1,o.2.1,1)) h hs hx
end
theorem do_no (o:ObR) (A:Option Addr) (d:Nat) (c:CallR) (w:World) (hs:SliceOk A o.2.1.2.2.2.length d) (hx:Syms w A o.2.1.2.2.2.length o.2.1.2.2.2) (hn:¬ (rightO o=true∧0≤c.1∧c.1≤4)) :
  Calls Tryz.prog 9 #[.agg (obA o A d),callV c] w (Ref2 o A d 1 w):=by
 have HR:=hZ (fun wy (hw:Below w.heap.size w wy)=>oright_any (.agg (obA o A d)) o wy ⟨A,d,rfl,hs,Recs.below hx hw⟩)
 obtain⟨wh,ct⟩:=c
 dsimp only at hn
 obtain⟨q0,q1,q2,q3,b5⟩:=A4_gen 27 (obA o A d) (callL (wh,ct)).toArray oZ rZ w
 have Q0:=hZ q0
 have Q1:=hZ q1
 have Q2:=hZ q2
 have Q3:=hZ q3
 have HB:=hZ b5
 obtain⟨r0,r1,r2,r3,r4,r5⟩:=Q0.out.sixO
 obtain⟨v0,v1,v2,v3,v4,v5,v6⟩:=Q1.out.sevenO
 clear q0 q1 q2 q3 b5
 cases hr:rightO o with
 | false=>
   rw [hr] at HR
   clear hr hn
   have HRw:=hZ (HR.out _ HB.out)
   go_enter Tryz.func9,Tryz.ntmps9
   go_wp2_with fail
   refine HRw.out.mono ?_
   rintro e w2 ⟨rfl,hb⟩
   have P0:=hZ (Q0.out.keep hb)
   have P1:=hZ (Q1.out.keep hb)
   have P2:=hZ (Q2.out.keep hb)
   have P3:=hZ (Q3.out.keep hb)
   have HB2:=hZ (chain HB.out hb)
   clear hb HRw r0 r1 r2 r3 r4 r5 v0 v1 v2 v3 v4 v5 v6
   obtain⟨r0,r1,r2,r3,r4,r5⟩:=P0.out.sixO
   obtain⟨v0,v1,v2,v3,v4,v5,v6⟩:=P1.out.sevenO
   obtain⟨s0,s1,s2,s3,s4,s5⟩:=P2.out.sixO
   obtain⟨t0,t1,t2⟩:=P3.out.threeO
   have f0:=P2.out.free 0
   have f1:=P2.out.free 1
   have f2:=P2.out.free 2
   have f3:=P2.out.free 3
   have f4:=P2.out.free 4
   have f5:=P2.out.free 5
   have g0:=P3.out.free 0
   have g1:=P3.out.free 1
   have g2:=P3.out.free 2
   go_wp2_with fail
   refine close_two Tryz.results9 rfl rfl rfl (P2.out.put6o.far3o (by omega) _ _ _) ((P3.out.far6o (g':=w.heap.size+1+1) (by omega) _ _ _ _ _ _).put3o) Tryz.underlying27 Tryz.underlying36 rfl rfl (by kernel_rfl) (by kernel_rfl) ?_
   exact⟨rfl,below_set3o (below_set6o HB2.out (show w.heap.size≤w.heap.size+1+1 by omega) _ _ _ _ _ _) (show w.heap.size≤w.heap.size+1+1+1 by omega) _ _ _⟩
 | true=>
   have hn2:¬ (0≤wh∧wh≤4):=fun h=>hn ⟨hr,h⟩
   rw [hr] at HR
   clear hr hn
   by_cases h0:wh<0
   ·clear hn2
    have HRw:=hZ (HR.out _ HB.out)
    go_enter Tryz.func9,Tryz.ntmps9
    go_wp2_with fail
    refine HRw.out.mono ?_
    rintro e w2 ⟨rfl,hb⟩
    have P0:=hZ (Q0.out.keep hb)
    have P1:=hZ (Q1.out.keep hb)
    have P2:=hZ (Q2.out.keep hb)
    have P3:=hZ (Q3.out.keep hb)
    have HB2:=hZ (chain HB.out hb)
    clear hb HRw r0 r1 r2 r3 r4 r5 v0 v1 v2 v3 v4 v5 v6
    obtain⟨r0,r1,r2,r3,r4,r5⟩:=P0.out.sixO
    obtain⟨v0,v1,v2,v3,v4,v5,v6⟩:=P1.out.sevenO
    obtain⟨s0,s1,s2,s3,s4,s5⟩:=P2.out.sixO
    obtain⟨t0,t1,t2⟩:=P3.out.threeO
    have f0:=P2.out.free 0
    have f1:=P2.out.free 1
    have f2:=P2.out.free 2
    have f3:=P2.out.free 3
    have f4:=P2.out.free 4
    have f5:=P2.out.free 5
    have g0:=P3.out.free 0
    have g1:=P3.out.free 1
    have g2:=P3.out.free 2
    go_wp2_with fail
    refine close_two Tryz.results9 rfl rfl rfl (P2.out.put6o.far3o (by omega) _ _ _) ((P3.out.far6o (g':=w.heap.size+1+1) (by omega) _ _ _ _ _ _).put3o) Tryz.underlying27 Tryz.underlying36 rfl rfl (by kernel_rfl) (by kernel_rfl) ?_
    exact⟨rfl,below_set3o (below_set6o HB2.out (show w.heap.size≤w.heap.size+1+1 by omega) _ _ _ _ _ _) (show w.heap.size≤w.heap.size+1+1+1 by omega) _ _ _⟩
   ·have h5:wh≥5:=by omega
    clear hn2
    have HRw:=hZ (HR.out _ HB.out)
    go_enter Tryz.func9,Tryz.ntmps9
    go_wp2_with fail
    refine HRw.out.mono ?_
    rintro e w2 ⟨rfl,hb⟩
    have P0:=hZ (Q0.out.keep hb)
    have P1:=hZ (Q1.out.keep hb)
    have P2:=hZ (Q2.out.keep hb)
    have P3:=hZ (Q3.out.keep hb)
    have HB2:=hZ (chain HB.out hb)
    clear hb HRw r0 r1 r2 r3 r4 r5 v0 v1 v2 v3 v4 v5 v6
    obtain⟨r0,r1,r2,r3,r4,r5⟩:=P0.out.sixO
    obtain⟨v0,v1,v2,v3,v4,v5,v6⟩:=P1.out.sevenO
    obtain⟨s0,s1,s2,s3,s4,s5⟩:=P2.out.sixO
    obtain⟨t0,t1,t2⟩:=P3.out.threeO
    have f0:=P2.out.free 0
    have f1:=P2.out.free 1
    have f2:=P2.out.free 2
    have f3:=P2.out.free 3
    have f4:=P2.out.free 4
    have f5:=P2.out.free 5
    have g0:=P3.out.free 0
    have g1:=P3.out.free 1
    have g2:=P3.out.free 2
    go_wp2_with fail
    refine close_two Tryz.results9 rfl rfl rfl (P2.out.put6o.far3o (by omega) _ _ _) ((P3.out.far6o (g':=w.heap.size+1+1) (by omega) _ _ _ _ _ _).put3o) Tryz.underlying27 Tryz.underlying36 rfl rfl (by kernel_rfl) (by kernel_rfl) ?_
    exact⟨rfl,below_set3o (below_set6o HB2.out (show w.heap.size≤w.heap.size+1+1 by omega) _ _ _ _ _ _) (show w.heap.size≤w.heap.size+1+1+1 by omega) _ _ _⟩
theorem do_closed (o:ObR) (A:Option Addr) (d:Nat) (c:CallR) (w:World) (hs:SliceOk A o.2.1.2.2.2.length d) (hx:Syms w A o.2.1.2.2.2.length o.2.1.2.2.2) (hr:rightO o=true) (h0:0<c.1) (h4:c.1≤4) (hc:o.2.2=1) :
  Calls Tryz.prog 9 #[.agg (obA o A d),callV c] w (Ref2 o A d 6 w):=by
 have HR:=hZ (fun wy (hw:Below w.heap.size w wy)=>oright_any (.agg (obA o A d)) o wy ⟨A,d,rfl,hs,Recs.below hx hw⟩)
 obtain⟨wh,ct⟩:=c
 dsimp only at h0 h4
 obtain⟨q0,q1,q2,q3,b5⟩:=A4_gen 27 (obA o A d) (callL (wh,ct)).toArray oZ rZ w
 have Q0:=hZ q0
 have Q1:=hZ q1
 have Q2:=hZ q2
 have Q3:=hZ q3
 have HB:=hZ b5
 obtain⟨r0,r1,r2,r3,r4,r5⟩:=Q0.out.sixO
 obtain⟨v0,v1,v2,v3,v4,v5,v6⟩:=Q1.out.sevenO
 clear q0 q1 q2 q3 b5
 rw [hr] at HR
 have t1:¬ wh<0:=by omega
 have t2:¬ wh≥5:=by omega
 have t3:(wh != 0)=true:=by simpa using (show ¬ wh=0 by omega)
 have tc:(o.2.2==1)=true:=by simpa using hc
 clear h0 h4 hc hr
 have HRw:=hZ (HR.out _ HB.out)
 go_enter Tryz.func9,Tryz.ntmps9
 go_wp2_with fail
 refine HRw.out.mono ?_
 rintro e w2 ⟨rfl,hb⟩
 have P0:=hZ (Q0.out.keep hb)
 have P1:=hZ (Q1.out.keep hb)
 have P2:=hZ (Q2.out.keep hb)
 have P3:=hZ (Q3.out.keep hb)
 have HB2:=hZ (chain HB.out hb)
 clear hb HRw r0 r1 r2 r3 r4 r5 v0 v1 v2 v3 v4 v5 v6
 obtain⟨r0,r1,r2,r3,r4,r5⟩:=P0.out.sixO
 obtain⟨v0,v1,v2,v3,v4,v5,v6⟩:=P1.out.sevenO
 go_wp2_with fail
 refine (refused_any o A d 6 _).mono ?_
 rintro e w3 ⟨rfl,hb⟩
 have R0:=hZ (P0.out.keep hb)
 have R1:=hZ (P1.out.keep hb)
 have R2:=hZ (P2.out.keep hb)
 have R3:=hZ (P3.out.keep hb)
 have HB3:=hZ (chain HB2.out hb)
 clear hb r0 r1 r2 r3 r4 r5 v0 v1 v2 v3 v4 v5 v6
 obtain⟨s0,s1,s2,s3,s4,s5⟩:=R2.out.sixO
 obtain⟨t0,t1,t2⟩:=R3.out.threeO
 have f0:=R2.out.free 0
 have f1:=R2.out.free 1
 have f2:=R2.out.free 2
 have f3:=R2.out.free 3
 have f4:=R2.out.free 4
 have f5:=R2.out.free 5
 have g0:=R3.out.free 0
 have g1:=R3.out.free 1
 have g2:=R3.out.free 2
 go_wp2_with fail
 refine close_two Tryz.results9 rfl rfl rfl (R2.out.put6o.far3o (by omega) _ _ _) ((R3.out.far6o (g':=w.heap.size+1+1) (by omega) _ _ _ _ _ _).put3o) Tryz.underlying27 Tryz.underlying36 rfl rfl (by kernel_rfl) (by kernel_rfl) ?_
 exact⟨rfl,below_set3o (below_set6o HB3.out (show w.heap.size≤w.heap.size+1+1 by omega) _ _ _ _ _ _) (show w.heap.size≤w.heap.size+1+1+1 by omega) _ _ _⟩
theorem do_kind0 (o:ObR) (A:Option Addr) (d:Nat) (ct:Nat×Int×Int×Int×Nat×ByteArray) (w:World) (hs:SliceOk A o.2.1.2.2.2.length d) (hx:Syms w A o.2.1.2.2.2.length o.2.1.2.2.2) (hr:rightO o=true) (hi:Ids o.2.1.2.2.2) (hci:ct.2.2.2.2.1<18446744073709551616) :
  Calls Tryz.prog 9 #[.agg (obA o A d),callV (0,ct)] w (DoOut (kindO o (0,ct)).1 (kindO o (0,ct)).2 w):=by
 have HR:=hZ (fun wy (hw:Below w.heap.size w wy)=>oright_any (.agg (obA o A d)) o wy ⟨A,d,rfl,hs,Recs.below hx hw⟩)
 have HK:=hZ (fun wy (hw:Below w.heap.size w wy)=>kind0 o A d (0,ct) wy hr hs (Recs.below hx hw) hi hci rfl)
 obtain⟨ro,hro⟩:∃ x,x=kindO o (0,ct):=⟨_,rfl⟩
 rw [← hro] at HK ⊢
 obtain⟨q0,q1,q2,q3,b5⟩:=A4_gen 27 (obA o A d) (callL (0,ct)).toArray oZ rZ w
 have Q0:=hZ q0
 have Q1:=hZ q1
 have Q2:=hZ q2
 have Q3:=hZ q3
 have HB:=hZ b5
 obtain⟨r0,r1,r2,r3,r4,r5⟩:=Q0.out.sixO
 obtain⟨v0,v1,v2,v3,v4,v5,v6⟩:=Q1.out.sevenO
 clear q0 q1 q2 q3 b5
 rw [hr] at HR
 have ix:∀ w:World,(Instr.index 71 (.agg #[.func (.func 51) #[] #[],.func (.func 52) #[] #[],.func (.func 53) #[] #[],.func (.func 54) #[] #[],.func (.func 55) #[] #[]]) (.int .i64 0)).run Tryz.prog w=.ok (.func (.func 51) #[] #[]) w:=fun _=>by kernel_rfl
 have eg:∀ args w,(callFunc 51 args).run Tryz.prog w=.ok (.enter 51 args) w:=enters_of Tryz.func51 (by kernel_rfl) rfl
 cases htc:(o.2.2==1) with
 | true=>
   clear hro hs hx hi hr
   have HRw:=hZ (HR.out _ HB.out)
   go_enter Tryz.func9,Tryz.ntmps9
   go_wp2_with fail
   refine HRw.out.mono ?_
   rintro e w2 ⟨rfl,hb⟩
   have P0:=hZ (Q0.out.keep hb)
   have P1:=hZ (Q1.out.keep hb)
   have P2:=hZ (Q2.out.keep hb)
   have P3:=hZ (Q3.out.keep hb)
   have HB2:=hZ (chain HB.out hb)
   clear hb HRw r0 r1 r2 r3 r4 r5 v0 v1 v2 v3 v4 v5 v6
   obtain⟨r0,r1,r2,r3,r4,r5⟩:=P0.out.sixO
   obtain⟨v0,v1,v2,v3,v4,v5,v6⟩:=P1.out.sevenO
   go_upto_region 5 with (fail)
   have BC:=hZ HB2.out.drew
   have BD:=hZ (Below.refl w2.heap.size w2).drew
   refine wp_held_tail (S:=(fun (w':World)=>w'.cell? ⟨w.heap.size,0,none⟩=some (.int .u64 (o.1:Nat))∧w'.cell? ⟨w.heap.size,1,none⟩=some (.int .i64 o.2.1.1)∧w'.cell? ⟨w.heap.size,2,none⟩=some (.int .i64 o.2.1.2.1)∧w'.cell? ⟨w.heap.size,3,none⟩=some (.int .i64 o.2.1.2.2.1)∧w'.cell? ⟨w.heap.size,4,none⟩=some (.slice A o.2.1.2.2.2.length d)∧w'.cell? ⟨w.heap.size,5,none⟩=some (.int .i64 o.2.2)∧w'.cell? ⟨w.heap.size+1,0,none⟩=some (.int .i64 0)∧w'.cell? ⟨w.heap.size+1,1,none⟩=some (.int .u64 (ct.1:Nat))∧w'.cell? ⟨w.heap.size+1,2,none⟩=some (.int .i64 ct.2.1)∧w'.cell? ⟨w.heap.size+1,3,none⟩=some (.int .i64 ct.2.2.1)∧w'.cell? ⟨w.heap.size+1,4,none⟩=some (.int .i64 ct.2.2.2.1)∧w'.cell? ⟨w.heap.size+1,5,none⟩=some (.int .u64 (ct.2.2.2.2.1:Nat))∧w'.cell? ⟨w.heap.size+1,6,none⟩=some (.string ct.2.2.2.2.2))) 9 (by kernel_rfl) (by decide) ?_
   have hS:=hZ (show (fun (w':World)=>w'.cell? ⟨w.heap.size,0,none⟩=some (.int .u64 (o.1:Nat))∧w'.cell? ⟨w.heap.size,1,none⟩=some (.int .i64 o.2.1.1)∧w'.cell? ⟨w.heap.size,2,none⟩=some (.int .i64 o.2.1.2.1)∧w'.cell? ⟨w.heap.size,3,none⟩=some (.int .i64 o.2.1.2.2.1)∧w'.cell? ⟨w.heap.size,4,none⟩=some (.slice A o.2.1.2.2.2.length d)∧w'.cell? ⟨w.heap.size,5,none⟩=some (.int .i64 o.2.2)∧w'.cell? ⟨w.heap.size+1,0,none⟩=some (.int .i64 0)∧w'.cell? ⟨w.heap.size+1,1,none⟩=some (.int .u64 (ct.1:Nat))∧w'.cell? ⟨w.heap.size+1,2,none⟩=some (.int .i64 ct.2.1)∧w'.cell? ⟨w.heap.size+1,3,none⟩=some (.int .i64 ct.2.2.1)∧w'.cell? ⟨w.heap.size+1,4,none⟩=some (.int .i64 ct.2.2.2.1)∧w'.cell? ⟨w.heap.size+1,5,none⟩=some (.int .u64 (ct.2.2.2.2.1:Nat))∧w'.cell? ⟨w.heap.size+1,6,none⟩=some (.string ct.2.2.2.2.2)) w2.drew from ⟨r0,r1,r2,r3,r4,r5,v0,v1,v2,v3,v4,v5,v6⟩)
   replace hS:=hS.out
   refine headH_take (i:=1) (v:=?_) rfl (by kernel_rfl) (fun _ _ _ h=>h) (fun _ _ _ h=>seqB_ready h.1) (Or.inl ⟨by rfl,?y1⟩) hS ?r1
   case y1=>intro w hSw;(try dsimp only at hSw);obtain⟨hc0,hc1,hc2,hc3,hc4,hc5,hc6,hc7,hc8,hc9,hc10,hc11,hc12⟩:=hSw;go_simp;try (with_reducible rfl)
   case r1=>
   try simp only [pZa,pZb,pZc,pZd]
   refine headH_take (i:=2) (v:=?_) rfl (by kernel_rfl) (fun _ _ _ h=>h) (fun _ _ _ h=>seqB_ready h.1) (Or.inl ⟨by rfl,?y2⟩) hS ?r2
   case y2=>intro w hSw;(try dsimp only at hSw);obtain⟨hc0,hc1,hc2,hc3,hc4,hc5,hc6,hc7,hc8,hc9,hc10,hc11,hc12⟩:=hSw;go_simp;try (with_reducible rfl)
   case r2=>
   try simp only [pZa,pZb,pZc,pZd]
   refine headH_take (i:=4) (v:=?_) rfl (by kernel_rfl) (fun _ _ _ h=>h) (fun _ _ _ h=>seqB_ready h.1) (Or.inl ⟨by rfl,?y3⟩) hS ?r3
   case y3=>intro w hSw;(try dsimp only at hSw);obtain⟨hc0,hc1,hc2,hc3,hc4,hc5,hc6,hc7,hc8,hc9,hc10,hc11,hc12⟩:=hSw;go_simp;try (with_reducible rfl)
   case r3=>
   try simp only [pZa,pZb,pZc,pZd]
   refine headH_take (i:=5) (v:=?_) rfl (by kernel_rfl) (fun _ _ _ h=>h) (fun _ _ _ h=>seqB_ready h.1) (Or.inl ⟨by rfl,?y4⟩) hS ?r4
   case y4=>intro w hSw;(try dsimp only at hSw);obtain⟨hc0,hc1,hc2,hc3,hc4,hc5,hc6,hc7,hc8,hc9,hc10,hc11,hc12⟩:=hSw;go_simp;try (with_reducible rfl)
   case r4=>
   try simp only [pZa,pZb,pZc,pZd]
   refine headH_one (i:=0) (by kernel_rfl) rfl (fun K hK=>?_)
   go_simp
   refine (byKind_any _).mono ?_
   rintro e x1 ⟨rfl,hb⟩
   replace BC:=hZ (chain BC.out hb)
   replace BD:=hZ (chain BD.out hb)
   clear hb r0 r1 r2 r3 r4 r5 v0 v1 v2 v3 v4 v5 v6
   obtain⟨r0,r1,r2,r3,r4,r5⟩:=(P0.out.keep BD.out).sixO
   obtain⟨v0,v1,v2,v3,v4,v5,v6⟩:=(P1.out.keep BD.out).sevenO
   refine hK.out _ _ (show (fun (w':World)=>w'.cell? ⟨w.heap.size,0,none⟩=some (.int .u64 (o.1:Nat))∧w'.cell? ⟨w.heap.size,1,none⟩=some (.int .i64 o.2.1.1)∧w'.cell? ⟨w.heap.size,2,none⟩=some (.int .i64 o.2.1.2.1)∧w'.cell? ⟨w.heap.size,3,none⟩=some (.int .i64 o.2.1.2.2.1)∧w'.cell? ⟨w.heap.size,4,none⟩=some (.slice A o.2.1.2.2.2.length d)∧w'.cell? ⟨w.heap.size,5,none⟩=some (.int .i64 o.2.2)∧w'.cell? ⟨w.heap.size+1,0,none⟩=some (.int .i64 0)∧w'.cell? ⟨w.heap.size+1,1,none⟩=some (.int .u64 (ct.1:Nat))∧w'.cell? ⟨w.heap.size+1,2,none⟩=some (.int .i64 ct.2.1)∧w'.cell? ⟨w.heap.size+1,3,none⟩=some (.int .i64 ct.2.2.1)∧w'.cell? ⟨w.heap.size+1,4,none⟩=some (.int .i64 ct.2.2.2.1)∧w'.cell? ⟨w.heap.size+1,5,none⟩=some (.int .u64 (ct.2.2.2.2.1:Nat))∧w'.cell? ⟨w.heap.size+1,6,none⟩=some (.string ct.2.2.2.2.2)) x1 from ⟨r0,r1,r2,r3,r4,r5,v0,v1,v2,v3,v4,v5,v6⟩) (fun hS=>?_)
   clear hK K
   refine headH_take (i:=3) (v:=?_) rfl (by kernel_rfl) (fun _ _ _ h=>h) (fun _ _ _ h=>seqB_ready h.1) (Or.inl ⟨by rfl,?y5⟩) hS ?r5
   case y5=>intro w hSw;(try dsimp only at hSw);obtain⟨hc0,hc1,hc2,hc3,hc4,hc5,hc6,hc7,hc8,hc9,hc10,hc11,hc12⟩:=hSw;go_simp;try (with_reducible rfl)
   case r5=>
   try simp only [pZa,pZb,pZc,pZd]
   refine headH_one (i:=6) (by kernel_rfl) rfl (fun K hK=>?_)
   go_simp
   refine (HK.out _ BC.out).mono ?_
   rintro e x2 ⟨A2,d2,B2,c2,rfl,hs2,hx2,ht2,hc2,hm2,hb⟩
   replace BC:=hZ (chain BC.out hb)
   replace BD:=hZ (chain BD.out hb)
   have HS2:=hZ hs2
   have HX2:=hZ hx2
   have HT2:=hZ ht2
   have HC2:=hZ (And.intro hc2 hm2)
   clear hb hs2 hx2 ht2 hc2 hm2 r0 r1 r2 r3 r4 r5 v0 v1 v2 v3 v4 v5 v6
   obtain⟨r0,r1,r2,r3,r4,r5⟩:=(P0.out.keep BD.out).sixO
   obtain⟨v0,v1,v2,v3,v4,v5,v6⟩:=(P1.out.keep BD.out).sevenO
   have R2:=hZ (P2.out.keep BD.out)
   have R3:=hZ (P3.out.keep BD.out)
   obtain⟨s0,s1,s2,s3,s4,s5⟩:=R2.out.sixO
   obtain⟨t0,t1,t2⟩:=R3.out.threeO
   have f0:=R2.out.free 0
   have f1:=R2.out.free 1
   have f2:=R2.out.free 2
   have f3:=R2.out.free 3
   have f4:=R2.out.free 4
   have f5:=R2.out.free 5
   have g0:=R3.out.free 0
   have g1:=R3.out.free 1
   have g2:=R3.out.free 2
   refine hK.out _ _ (show (fun (w':World)=>w'.cell? ⟨w.heap.size,0,none⟩=some (.int .u64 (o.1:Nat))∧w'.cell? ⟨w.heap.size,1,none⟩=some (.int .i64 o.2.1.1)∧w'.cell? ⟨w.heap.size,2,none⟩=some (.int .i64 o.2.1.2.1)∧w'.cell? ⟨w.heap.size,3,none⟩=some (.int .i64 o.2.1.2.2.1)∧w'.cell? ⟨w.heap.size,4,none⟩=some (.slice A o.2.1.2.2.2.length d)∧w'.cell? ⟨w.heap.size,5,none⟩=some (.int .i64 o.2.2)∧w'.cell? ⟨w.heap.size+1,0,none⟩=some (.int .i64 0)∧w'.cell? ⟨w.heap.size+1,1,none⟩=some (.int .u64 (ct.1:Nat))∧w'.cell? ⟨w.heap.size+1,2,none⟩=some (.int .i64 ct.2.1)∧w'.cell? ⟨w.heap.size+1,3,none⟩=some (.int .i64 ct.2.2.1)∧w'.cell? ⟨w.heap.size+1,4,none⟩=some (.int .i64 ct.2.2.2.1)∧w'.cell? ⟨w.heap.size+1,5,none⟩=some (.int .u64 (ct.2.2.2.2.1:Nat))∧w'.cell? ⟨w.heap.size+1,6,none⟩=some (.string ct.2.2.2.2.2)) x2 from ⟨r0,r1,r2,r3,r4,r5,v0,v1,v2,v3,v4,v5,v6⟩) (fun hS=>?_)
   clear hK K
   refine headH_take (i:=7) (v:=?_) rfl (by kernel_rfl) (fun _ _ _ h=>h) (fun _ _ _ h=>seqB_ready h.1) (Or.inl ⟨by rfl,?y6⟩) hS ?r6
   case y6=>intro w hSw;(try dsimp only at hSw);obtain⟨hc0,hc1,hc2,hc3,hc4,hc5,hc6,hc7,hc8,hc9,hc10,hc11,hc12⟩:=hSw;go_simp;try (with_reducible rfl)
   case r6=>
   try simp only [pZa,pZb,pZc,pZd]
   refine headH_take (i:=8) (v:=?_) rfl (by kernel_rfl) (fun _ _ _ h=>h) (fun _ _ _ h=>seqB_ready h.1) (Or.inl ⟨by rfl,?y7⟩) hS ?r7
   case y7=>intro w hSw;(try dsimp only at hSw);obtain⟨hc0,hc1,hc2,hc3,hc4,hc5,hc6,hc7,hc8,hc9,hc10,hc11,hc12⟩:=hSw;go_simp;try (with_reducible rfl)
   case r7=>
   try simp only [pZa,pZb,pZc,pZd]
   refine⟨by kernel_rfl,?_⟩
   go_wp2_with fail
   refine close_two Tryz.results9 rfl rfl rfl (R2.out.put6o.far3o (by omega) _ _ _) ((R3.out.far6o (g':=w.heap.size+1+1) (by omega) _ _ _ _ _ _).put3o) Tryz.underlying27 Tryz.underlying36 rfl rfl (by kernel_rfl) (by kernel_rfl) ?_
   exact⟨A2,d2,B2,c2,rfl,HS2.out,Syms.far9 HX2.out (Syms.neO HX2.out R2.out oz_no) (Syms.neO HX2.out R3.out rz_no) _ _ _ _ _ _ _ _ _,HT2.out.far9 (HT2.out.neO R2.out oz_no) (HT2.out.neO R3.out rz_no) _ _ _ _ _ _ _ _ _,HC2.out.1,HC2.out.2,below_set3o (below_set6o BC.out (show w.heap.size≤w.heap.size+1+1 by omega) _ _ _ _ _ _) (show w.heap.size≤w.heap.size+1+1+1 by omega) _ _ _⟩
 | false=>
   clear hro hs hx hi hr
   have HRw:=hZ (HR.out _ HB.out)
   go_enter Tryz.func9,Tryz.ntmps9
   go_wp2_with fail
   refine HRw.out.mono ?_
   rintro e w2 ⟨rfl,hb⟩
   have P0:=hZ (Q0.out.keep hb)
   have P1:=hZ (Q1.out.keep hb)
   have P2:=hZ (Q2.out.keep hb)
   have P3:=hZ (Q3.out.keep hb)
   have HB2:=hZ (chain HB.out hb)
   clear hb HRw r0 r1 r2 r3 r4 r5 v0 v1 v2 v3 v4 v5 v6
   obtain⟨r0,r1,r2,r3,r4,r5⟩:=P0.out.sixO
   obtain⟨v0,v1,v2,v3,v4,v5,v6⟩:=P1.out.sevenO
   go_upto_region 5 with (fail)
   have BC:=hZ HB2.out.drew
   have BD:=hZ (Below.refl w2.heap.size w2).drew
   refine wp_held_tail (S:=(fun (w':World)=>w'.cell? ⟨w.heap.size,0,none⟩=some (.int .u64 (o.1:Nat))∧w'.cell? ⟨w.heap.size,1,none⟩=some (.int .i64 o.2.1.1)∧w'.cell? ⟨w.heap.size,2,none⟩=some (.int .i64 o.2.1.2.1)∧w'.cell? ⟨w.heap.size,3,none⟩=some (.int .i64 o.2.1.2.2.1)∧w'.cell? ⟨w.heap.size,4,none⟩=some (.slice A o.2.1.2.2.2.length d)∧w'.cell? ⟨w.heap.size,5,none⟩=some (.int .i64 o.2.2)∧w'.cell? ⟨w.heap.size+1,0,none⟩=some (.int .i64 0)∧w'.cell? ⟨w.heap.size+1,1,none⟩=some (.int .u64 (ct.1:Nat))∧w'.cell? ⟨w.heap.size+1,2,none⟩=some (.int .i64 ct.2.1)∧w'.cell? ⟨w.heap.size+1,3,none⟩=some (.int .i64 ct.2.2.1)∧w'.cell? ⟨w.heap.size+1,4,none⟩=some (.int .i64 ct.2.2.2.1)∧w'.cell? ⟨w.heap.size+1,5,none⟩=some (.int .u64 (ct.2.2.2.2.1:Nat))∧w'.cell? ⟨w.heap.size+1,6,none⟩=some (.string ct.2.2.2.2.2))) 9 (by kernel_rfl) (by decide) ?_
   have hS:=hZ (show (fun (w':World)=>w'.cell? ⟨w.heap.size,0,none⟩=some (.int .u64 (o.1:Nat))∧w'.cell? ⟨w.heap.size,1,none⟩=some (.int .i64 o.2.1.1)∧w'.cell? ⟨w.heap.size,2,none⟩=some (.int .i64 o.2.1.2.1)∧w'.cell? ⟨w.heap.size,3,none⟩=some (.int .i64 o.2.1.2.2.1)∧w'.cell? ⟨w.heap.size,4,none⟩=some (.slice A o.2.1.2.2.2.length d)∧w'.cell? ⟨w.heap.size,5,none⟩=some (.int .i64 o.2.2)∧w'.cell? ⟨w.heap.size+1,0,none⟩=some (.int .i64 0)∧w'.cell? ⟨w.heap.size+1,1,none⟩=some (.int .u64 (ct.1:Nat))∧w'.cell? ⟨w.heap.size+1,2,none⟩=some (.int .i64 ct.2.1)∧w'.cell? ⟨w.heap.size+1,3,none⟩=some (.int .i64 ct.2.2.1)∧w'.cell? ⟨w.heap.size+1,4,none⟩=some (.int .i64 ct.2.2.2.1)∧w'.cell? ⟨w.heap.size+1,5,none⟩=some (.int .u64 (ct.2.2.2.2.1:Nat))∧w'.cell? ⟨w.heap.size+1,6,none⟩=some (.string ct.2.2.2.2.2)) w2.drew from ⟨r0,r1,r2,r3,r4,r5,v0,v1,v2,v3,v4,v5,v6⟩)
   replace hS:=hS.out
   refine headH_take (i:=1) (v:=?_) rfl (by kernel_rfl) (fun _ _ _ h=>h) (fun _ _ _ h=>seqB_ready h.1) (Or.inl ⟨by rfl,?y1⟩) hS ?r1
   case y1=>intro w hSw;(try dsimp only at hSw);obtain⟨hc0,hc1,hc2,hc3,hc4,hc5,hc6,hc7,hc8,hc9,hc10,hc11,hc12⟩:=hSw;go_simp;try (with_reducible rfl)
   case r1=>
   try simp only [pZa,pZb,pZc,pZd]
   refine headH_take (i:=2) (v:=?_) rfl (by kernel_rfl) (fun _ _ _ h=>h) (fun _ _ _ h=>seqB_ready h.1) (Or.inl ⟨by rfl,?y2⟩) hS ?r2
   case y2=>intro w hSw;(try dsimp only at hSw);obtain⟨hc0,hc1,hc2,hc3,hc4,hc5,hc6,hc7,hc8,hc9,hc10,hc11,hc12⟩:=hSw;go_simp;try (with_reducible rfl)
   case r2=>
   try simp only [pZa,pZb,pZc,pZd]
   refine headH_take (i:=4) (v:=?_) rfl (by kernel_rfl) (fun _ _ _ h=>h) (fun _ _ _ h=>seqB_ready h.1) (Or.inl ⟨by rfl,?y3⟩) hS ?r3
   case y3=>intro w hSw;(try dsimp only at hSw);obtain⟨hc0,hc1,hc2,hc3,hc4,hc5,hc6,hc7,hc8,hc9,hc10,hc11,hc12⟩:=hSw;go_simp;try (with_reducible rfl)
   case r3=>
   try simp only [pZa,pZb,pZc,pZd]
   refine headH_take (i:=5) (v:=?_) rfl (by kernel_rfl) (fun _ _ _ h=>h) (fun _ _ _ h=>seqB_ready h.1) (Or.inl ⟨by rfl,?y4⟩) hS ?r4
   case y4=>intro w hSw;(try dsimp only at hSw);obtain⟨hc0,hc1,hc2,hc3,hc4,hc5,hc6,hc7,hc8,hc9,hc10,hc11,hc12⟩:=hSw;go_simp;try (with_reducible rfl)
   case r4=>
   try simp only [pZa,pZb,pZc,pZd]
   refine headH_one (i:=0) (by kernel_rfl) rfl (fun K hK=>?_)
   go_simp
   refine (byKind_any _).mono ?_
   rintro e x1 ⟨rfl,hb⟩
   replace BC:=hZ (chain BC.out hb)
   replace BD:=hZ (chain BD.out hb)
   clear hb r0 r1 r2 r3 r4 r5 v0 v1 v2 v3 v4 v5 v6
   obtain⟨r0,r1,r2,r3,r4,r5⟩:=(P0.out.keep BD.out).sixO
   obtain⟨v0,v1,v2,v3,v4,v5,v6⟩:=(P1.out.keep BD.out).sevenO
   refine hK.out _ _ (show (fun (w':World)=>w'.cell? ⟨w.heap.size,0,none⟩=some (.int .u64 (o.1:Nat))∧w'.cell? ⟨w.heap.size,1,none⟩=some (.int .i64 o.2.1.1)∧w'.cell? ⟨w.heap.size,2,none⟩=some (.int .i64 o.2.1.2.1)∧w'.cell? ⟨w.heap.size,3,none⟩=some (.int .i64 o.2.1.2.2.1)∧w'.cell? ⟨w.heap.size,4,none⟩=some (.slice A o.2.1.2.2.2.length d)∧w'.cell? ⟨w.heap.size,5,none⟩=some (.int .i64 o.2.2)∧w'.cell? ⟨w.heap.size+1,0,none⟩=some (.int .i64 0)∧w'.cell? ⟨w.heap.size+1,1,none⟩=some (.int .u64 (ct.1:Nat))∧w'.cell? ⟨w.heap.size+1,2,none⟩=some (.int .i64 ct.2.1)∧w'.cell? ⟨w.heap.size+1,3,none⟩=some (.int .i64 ct.2.2.1)∧w'.cell? ⟨w.heap.size+1,4,none⟩=some (.int .i64 ct.2.2.2.1)∧w'.cell? ⟨w.heap.size+1,5,none⟩=some (.int .u64 (ct.2.2.2.2.1:Nat))∧w'.cell? ⟨w.heap.size+1,6,none⟩=some (.string ct.2.2.2.2.2)) x1 from ⟨r0,r1,r2,r3,r4,r5,v0,v1,v2,v3,v4,v5,v6⟩) (fun hS=>?_)
   clear hK K
   refine headH_take (i:=3) (v:=?_) rfl (by kernel_rfl) (fun _ _ _ h=>h) (fun _ _ _ h=>seqB_ready h.1) (Or.inl ⟨by rfl,?y5⟩) hS ?r5
   case y5=>intro w hSw;(try dsimp only at hSw);obtain⟨hc0,hc1,hc2,hc3,hc4,hc5,hc6,hc7,hc8,hc9,hc10,hc11,hc12⟩:=hSw;go_simp;try (with_reducible rfl)
   case r5=>
   try simp only [pZa,pZb,pZc,pZd]
   refine headH_one (i:=6) (by kernel_rfl) rfl (fun K hK=>?_)
   go_simp
   refine (HK.out _ BC.out).mono ?_
   rintro e x2 ⟨A2,d2,B2,c2,rfl,hs2,hx2,ht2,hc2,hm2,hb⟩
   replace BC:=hZ (chain BC.out hb)
   replace BD:=hZ (chain BD.out hb)
   have HS2:=hZ hs2
   have HX2:=hZ hx2
   have HT2:=hZ ht2
   have HC2:=hZ (And.intro hc2 hm2)
   clear hb hs2 hx2 ht2 hc2 hm2 r0 r1 r2 r3 r4 r5 v0 v1 v2 v3 v4 v5 v6
   obtain⟨r0,r1,r2,r3,r4,r5⟩:=(P0.out.keep BD.out).sixO
   obtain⟨v0,v1,v2,v3,v4,v5,v6⟩:=(P1.out.keep BD.out).sevenO
   have R2:=hZ (P2.out.keep BD.out)
   have R3:=hZ (P3.out.keep BD.out)
   obtain⟨s0,s1,s2,s3,s4,s5⟩:=R2.out.sixO
   obtain⟨t0,t1,t2⟩:=R3.out.threeO
   have f0:=R2.out.free 0
   have f1:=R2.out.free 1
   have f2:=R2.out.free 2
   have f3:=R2.out.free 3
   have f4:=R2.out.free 4
   have f5:=R2.out.free 5
   have g0:=R3.out.free 0
   have g1:=R3.out.free 1
   have g2:=R3.out.free 2
   refine hK.out _ _ (show (fun (w':World)=>w'.cell? ⟨w.heap.size,0,none⟩=some (.int .u64 (o.1:Nat))∧w'.cell? ⟨w.heap.size,1,none⟩=some (.int .i64 o.2.1.1)∧w'.cell? ⟨w.heap.size,2,none⟩=some (.int .i64 o.2.1.2.1)∧w'.cell? ⟨w.heap.size,3,none⟩=some (.int .i64 o.2.1.2.2.1)∧w'.cell? ⟨w.heap.size,4,none⟩=some (.slice A o.2.1.2.2.2.length d)∧w'.cell? ⟨w.heap.size,5,none⟩=some (.int .i64 o.2.2)∧w'.cell? ⟨w.heap.size+1,0,none⟩=some (.int .i64 0)∧w'.cell? ⟨w.heap.size+1,1,none⟩=some (.int .u64 (ct.1:Nat))∧w'.cell? ⟨w.heap.size+1,2,none⟩=some (.int .i64 ct.2.1)∧w'.cell? ⟨w.heap.size+1,3,none⟩=some (.int .i64 ct.2.2.1)∧w'.cell? ⟨w.heap.size+1,4,none⟩=some (.int .i64 ct.2.2.2.1)∧w'.cell? ⟨w.heap.size+1,5,none⟩=some (.int .u64 (ct.2.2.2.2.1:Nat))∧w'.cell? ⟨w.heap.size+1,6,none⟩=some (.string ct.2.2.2.2.2)) x2 from ⟨r0,r1,r2,r3,r4,r5,v0,v1,v2,v3,v4,v5,v6⟩) (fun hS=>?_)
   clear hK K
   refine headH_take (i:=7) (v:=?_) rfl (by kernel_rfl) (fun _ _ _ h=>h) (fun _ _ _ h=>seqB_ready h.1) (Or.inl ⟨by rfl,?y6⟩) hS ?r6
   case y6=>intro w hSw;(try dsimp only at hSw);obtain⟨hc0,hc1,hc2,hc3,hc4,hc5,hc6,hc7,hc8,hc9,hc10,hc11,hc12⟩:=hSw;go_simp;try (with_reducible rfl)
   case r6=>
   try simp only [pZa,pZb,pZc,pZd]
   refine headH_take (i:=8) (v:=?_) rfl (by kernel_rfl) (fun _ _ _ h=>h) (fun _ _ _ h=>seqB_ready h.1) (Or.inl ⟨by rfl,?y7⟩) hS ?r7
   case y7=>intro w hSw;(try dsimp only at hSw);obtain⟨hc0,hc1,hc2,hc3,hc4,hc5,hc6,hc7,hc8,hc9,hc10,hc11,hc12⟩:=hSw;go_simp;try (with_reducible rfl)
   case r7=>
   try simp only [pZa,pZb,pZc,pZd]
   refine⟨by kernel_rfl,?_⟩
   go_wp2_with fail
   refine close_two Tryz.results9 rfl rfl rfl (R2.out.put6o.far3o (by omega) _ _ _) ((R3.out.far6o (g':=w.heap.size+1+1) (by omega) _ _ _ _ _ _).put3o) Tryz.underlying27 Tryz.underlying36 rfl rfl (by kernel_rfl) (by kernel_rfl) ?_
   exact⟨A2,d2,B2,c2,rfl,HS2.out,Syms.far9 HX2.out (Syms.neO HX2.out R2.out oz_no) (Syms.neO HX2.out R3.out rz_no) _ _ _ _ _ _ _ _ _,HT2.out.far9 (HT2.out.neO R2.out oz_no) (HT2.out.neO R3.out rz_no) _ _ _ _ _ _ _ _ _,HC2.out.1,HC2.out.2,below_set3o (below_set6o BC.out (show w.heap.size≤w.heap.size+1+1 by omega) _ _ _ _ _ _) (show w.heap.size≤w.heap.size+1+1+1 by omega) _ _ _⟩
theorem do_kind1 (o:ObR) (A:Option Addr) (d:Nat) (ct:Nat×Int×Int×Int×Nat×ByteArray) (w:World) (hs:SliceOk A o.2.1.2.2.2.length d) (hx:Syms w A o.2.1.2.2.2.length o.2.1.2.2.2) (hr:rightO o=true) (hi:Ids o.2.1.2.2.2) (hci:ct.2.2.2.2.1<18446744073709551616) (hc:¬ o.2.2=1) :
  Calls Tryz.prog 9 #[.agg (obA o A d),callV (1,ct)] w (DoOut (kindO o (1,ct)).1 (kindO o (1,ct)).2 w):=by
 have HR:=hZ (fun wy (hw:Below w.heap.size w wy)=>oright_any (.agg (obA o A d)) o wy ⟨A,d,rfl,hs,Recs.below hx hw⟩)
 have HK:=hZ (fun wy (hw:Below w.heap.size w wy)=>kind1 o A d (1,ct) wy hr hs (Recs.below hx hw) hi hci rfl)
 obtain⟨ro,hro⟩:∃ x,x=kindO o (1,ct):=⟨_,rfl⟩
 rw [← hro] at HK ⊢
 obtain⟨q0,q1,q2,q3,b5⟩:=A4_gen 27 (obA o A d) (callL (1,ct)).toArray oZ rZ w
 have Q0:=hZ q0
 have Q1:=hZ q1
 have Q2:=hZ q2
 have Q3:=hZ q3
 have HB:=hZ b5
 obtain⟨r0,r1,r2,r3,r4,r5⟩:=Q0.out.sixO
 obtain⟨v0,v1,v2,v3,v4,v5,v6⟩:=Q1.out.sevenO
 clear q0 q1 q2 q3 b5
 rw [hr] at HR
 have ix:∀ w:World,(Instr.index 71 (.agg #[.func (.func 51) #[] #[],.func (.func 52) #[] #[],.func (.func 53) #[] #[],.func (.func 54) #[] #[],.func (.func 55) #[] #[]]) (.int .i64 1)).run Tryz.prog w=.ok (.func (.func 52) #[] #[]) w:=fun _=>by kernel_rfl
 have eg:∀ args w,(callFunc 52 args).run Tryz.prog w=.ok (.enter 52 args) w:=enters_of Tryz.func52 (by kernel_rfl) rfl
 have tc:(o.2.2==1)=false:=by simpa using hc
 clear hc
 clear hro hs hx hi hr
 have HRw:=hZ (HR.out _ HB.out)
 go_enter Tryz.func9,Tryz.ntmps9
 go_wp2_with fail
 refine HRw.out.mono ?_
 rintro e w2 ⟨rfl,hb⟩
 have P0:=hZ (Q0.out.keep hb)
 have P1:=hZ (Q1.out.keep hb)
 have P2:=hZ (Q2.out.keep hb)
 have P3:=hZ (Q3.out.keep hb)
 have HB2:=hZ (chain HB.out hb)
 clear hb HRw r0 r1 r2 r3 r4 r5 v0 v1 v2 v3 v4 v5 v6
 obtain⟨r0,r1,r2,r3,r4,r5⟩:=P0.out.sixO
 obtain⟨v0,v1,v2,v3,v4,v5,v6⟩:=P1.out.sevenO
 go_upto_region 5 with (fail)
 have BC:=hZ HB2.out.drew
 have BD:=hZ (Below.refl w2.heap.size w2).drew
 refine wp_held_tail (S:=(fun (w':World)=>w'.cell? ⟨w.heap.size,0,none⟩=some (.int .u64 (o.1:Nat))∧w'.cell? ⟨w.heap.size,1,none⟩=some (.int .i64 o.2.1.1)∧w'.cell? ⟨w.heap.size,2,none⟩=some (.int .i64 o.2.1.2.1)∧w'.cell? ⟨w.heap.size,3,none⟩=some (.int .i64 o.2.1.2.2.1)∧w'.cell? ⟨w.heap.size,4,none⟩=some (.slice A o.2.1.2.2.2.length d)∧w'.cell? ⟨w.heap.size,5,none⟩=some (.int .i64 o.2.2)∧w'.cell? ⟨w.heap.size+1,0,none⟩=some (.int .i64 1)∧w'.cell? ⟨w.heap.size+1,1,none⟩=some (.int .u64 (ct.1:Nat))∧w'.cell? ⟨w.heap.size+1,2,none⟩=some (.int .i64 ct.2.1)∧w'.cell? ⟨w.heap.size+1,3,none⟩=some (.int .i64 ct.2.2.1)∧w'.cell? ⟨w.heap.size+1,4,none⟩=some (.int .i64 ct.2.2.2.1)∧w'.cell? ⟨w.heap.size+1,5,none⟩=some (.int .u64 (ct.2.2.2.2.1:Nat))∧w'.cell? ⟨w.heap.size+1,6,none⟩=some (.string ct.2.2.2.2.2))) 9 (by kernel_rfl) (by decide) ?_
 have hS:=hZ (show (fun (w':World)=>w'.cell? ⟨w.heap.size,0,none⟩=some (.int .u64 (o.1:Nat))∧w'.cell? ⟨w.heap.size,1,none⟩=some (.int .i64 o.2.1.1)∧w'.cell? ⟨w.heap.size,2,none⟩=some (.int .i64 o.2.1.2.1)∧w'.cell? ⟨w.heap.size,3,none⟩=some (.int .i64 o.2.1.2.2.1)∧w'.cell? ⟨w.heap.size,4,none⟩=some (.slice A o.2.1.2.2.2.length d)∧w'.cell? ⟨w.heap.size,5,none⟩=some (.int .i64 o.2.2)∧w'.cell? ⟨w.heap.size+1,0,none⟩=some (.int .i64 1)∧w'.cell? ⟨w.heap.size+1,1,none⟩=some (.int .u64 (ct.1:Nat))∧w'.cell? ⟨w.heap.size+1,2,none⟩=some (.int .i64 ct.2.1)∧w'.cell? ⟨w.heap.size+1,3,none⟩=some (.int .i64 ct.2.2.1)∧w'.cell? ⟨w.heap.size+1,4,none⟩=some (.int .i64 ct.2.2.2.1)∧w'.cell? ⟨w.heap.size+1,5,none⟩=some (.int .u64 (ct.2.2.2.2.1:Nat))∧w'.cell? ⟨w.heap.size+1,6,none⟩=some (.string ct.2.2.2.2.2)) w2.drew from ⟨r0,r1,r2,r3,r4,r5,v0,v1,v2,v3,v4,v5,v6⟩)
 replace hS:=hS.out
 refine headH_take (i:=1) (v:=?_) rfl (by kernel_rfl) (fun _ _ _ h=>h) (fun _ _ _ h=>seqB_ready h.1) (Or.inl ⟨by rfl,?y8⟩) hS ?r8
 case y8=>intro w hSw;(try dsimp only at hSw);obtain⟨hc0,hc1,hc2,hc3,hc4,hc5,hc6,hc7,hc8,hc9,hc10,hc11,hc12⟩:=hSw;go_simp;try (with_reducible rfl)
 case r8=>
 try simp only [pZa,pZb,pZc,pZd]
 refine headH_take (i:=2) (v:=?_) rfl (by kernel_rfl) (fun _ _ _ h=>h) (fun _ _ _ h=>seqB_ready h.1) (Or.inl ⟨by rfl,?y9⟩) hS ?r9
 case y9=>intro w hSw;(try dsimp only at hSw);obtain⟨hc0,hc1,hc2,hc3,hc4,hc5,hc6,hc7,hc8,hc9,hc10,hc11,hc12⟩:=hSw;go_simp;try (with_reducible rfl)
 case r9=>
 try simp only [pZa,pZb,pZc,pZd]
 refine headH_take (i:=4) (v:=?_) rfl (by kernel_rfl) (fun _ _ _ h=>h) (fun _ _ _ h=>seqB_ready h.1) (Or.inl ⟨by rfl,?y10⟩) hS ?r10
 case y10=>intro w hSw;(try dsimp only at hSw);obtain⟨hc0,hc1,hc2,hc3,hc4,hc5,hc6,hc7,hc8,hc9,hc10,hc11,hc12⟩:=hSw;go_simp;try (with_reducible rfl)
 case r10=>
 try simp only [pZa,pZb,pZc,pZd]
 refine headH_take (i:=5) (v:=?_) rfl (by kernel_rfl) (fun _ _ _ h=>h) (fun _ _ _ h=>seqB_ready h.1) (Or.inl ⟨by rfl,?y11⟩) hS ?r11
 case y11=>intro w hSw;(try dsimp only at hSw);obtain⟨hc0,hc1,hc2,hc3,hc4,hc5,hc6,hc7,hc8,hc9,hc10,hc11,hc12⟩:=hSw;go_simp;try (with_reducible rfl)
 case r11=>
 try simp only [pZa,pZb,pZc,pZd]
 refine headH_one (i:=0) (by kernel_rfl) rfl (fun K hK=>?_)
 go_simp
 refine (byKind_any _).mono ?_
 rintro e x1 ⟨rfl,hb⟩
 replace BC:=hZ (chain BC.out hb)
 replace BD:=hZ (chain BD.out hb)
 clear hb r0 r1 r2 r3 r4 r5 v0 v1 v2 v3 v4 v5 v6
 obtain⟨r0,r1,r2,r3,r4,r5⟩:=(P0.out.keep BD.out).sixO
 obtain⟨v0,v1,v2,v3,v4,v5,v6⟩:=(P1.out.keep BD.out).sevenO
 refine hK.out _ _ (show (fun (w':World)=>w'.cell? ⟨w.heap.size,0,none⟩=some (.int .u64 (o.1:Nat))∧w'.cell? ⟨w.heap.size,1,none⟩=some (.int .i64 o.2.1.1)∧w'.cell? ⟨w.heap.size,2,none⟩=some (.int .i64 o.2.1.2.1)∧w'.cell? ⟨w.heap.size,3,none⟩=some (.int .i64 o.2.1.2.2.1)∧w'.cell? ⟨w.heap.size,4,none⟩=some (.slice A o.2.1.2.2.2.length d)∧w'.cell? ⟨w.heap.size,5,none⟩=some (.int .i64 o.2.2)∧w'.cell? ⟨w.heap.size+1,0,none⟩=some (.int .i64 1)∧w'.cell? ⟨w.heap.size+1,1,none⟩=some (.int .u64 (ct.1:Nat))∧w'.cell? ⟨w.heap.size+1,2,none⟩=some (.int .i64 ct.2.1)∧w'.cell? ⟨w.heap.size+1,3,none⟩=some (.int .i64 ct.2.2.1)∧w'.cell? ⟨w.heap.size+1,4,none⟩=some (.int .i64 ct.2.2.2.1)∧w'.cell? ⟨w.heap.size+1,5,none⟩=some (.int .u64 (ct.2.2.2.2.1:Nat))∧w'.cell? ⟨w.heap.size+1,6,none⟩=some (.string ct.2.2.2.2.2)) x1 from ⟨r0,r1,r2,r3,r4,r5,v0,v1,v2,v3,v4,v5,v6⟩) (fun hS=>?_)
 clear hK K
 refine headH_take (i:=3) (v:=?_) rfl (by kernel_rfl) (fun _ _ _ h=>h) (fun _ _ _ h=>seqB_ready h.1) (Or.inl ⟨by rfl,?y12⟩) hS ?r12
 case y12=>intro w hSw;(try dsimp only at hSw);obtain⟨hc0,hc1,hc2,hc3,hc4,hc5,hc6,hc7,hc8,hc9,hc10,hc11,hc12⟩:=hSw;go_simp;try (with_reducible rfl)
 case r12=>
 try simp only [pZa,pZb,pZc,pZd]
 refine headH_one (i:=6) (by kernel_rfl) rfl (fun K hK=>?_)
 go_simp
 refine (HK.out _ BC.out).mono ?_
 rintro e x2 ⟨A2,d2,B2,c2,rfl,hs2,hx2,ht2,hc2,hm2,hb⟩
 replace BC:=hZ (chain BC.out hb)
 replace BD:=hZ (chain BD.out hb)
 have HS2:=hZ hs2
 have HX2:=hZ hx2
 have HT2:=hZ ht2
 have HC2:=hZ (And.intro hc2 hm2)
 clear hb hs2 hx2 ht2 hc2 hm2 r0 r1 r2 r3 r4 r5 v0 v1 v2 v3 v4 v5 v6
 obtain⟨r0,r1,r2,r3,r4,r5⟩:=(P0.out.keep BD.out).sixO
 obtain⟨v0,v1,v2,v3,v4,v5,v6⟩:=(P1.out.keep BD.out).sevenO
 have R2:=hZ (P2.out.keep BD.out)
 have R3:=hZ (P3.out.keep BD.out)
 obtain⟨s0,s1,s2,s3,s4,s5⟩:=R2.out.sixO
 obtain⟨t0,t1,t2⟩:=R3.out.threeO
 have f0:=R2.out.free 0
 have f1:=R2.out.free 1
 have f2:=R2.out.free 2
 have f3:=R2.out.free 3
 have f4:=R2.out.free 4
 have f5:=R2.out.free 5
 have g0:=R3.out.free 0
 have g1:=R3.out.free 1
 have g2:=R3.out.free 2
 refine hK.out _ _ (show (fun (w':World)=>w'.cell? ⟨w.heap.size,0,none⟩=some (.int .u64 (o.1:Nat))∧w'.cell? ⟨w.heap.size,1,none⟩=some (.int .i64 o.2.1.1)∧w'.cell? ⟨w.heap.size,2,none⟩=some (.int .i64 o.2.1.2.1)∧w'.cell? ⟨w.heap.size,3,none⟩=some (.int .i64 o.2.1.2.2.1)∧w'.cell? ⟨w.heap.size,4,none⟩=some (.slice A o.2.1.2.2.2.length d)∧w'.cell? ⟨w.heap.size,5,none⟩=some (.int .i64 o.2.2)∧w'.cell? ⟨w.heap.size+1,0,none⟩=some (.int .i64 1)∧w'.cell? ⟨w.heap.size+1,1,none⟩=some (.int .u64 (ct.1:Nat))∧w'.cell? ⟨w.heap.size+1,2,none⟩=some (.int .i64 ct.2.1)∧w'.cell? ⟨w.heap.size+1,3,none⟩=some (.int .i64 ct.2.2.1)∧w'.cell? ⟨w.heap.size+1,4,none⟩=some (.int .i64 ct.2.2.2.1)∧w'.cell? ⟨w.heap.size+1,5,none⟩=some (.int .u64 (ct.2.2.2.2.1:Nat))∧w'.cell? ⟨w.heap.size+1,6,none⟩=some (.string ct.2.2.2.2.2)) x2 from ⟨r0,r1,r2,r3,r4,r5,v0,v1,v2,v3,v4,v5,v6⟩) (fun hS=>?_)
 clear hK K
 refine headH_take (i:=7) (v:=?_) rfl (by kernel_rfl) (fun _ _ _ h=>h) (fun _ _ _ h=>seqB_ready h.1) (Or.inl ⟨by rfl,?y13⟩) hS ?r13
 case y13=>intro w hSw;(try dsimp only at hSw);obtain⟨hc0,hc1,hc2,hc3,hc4,hc5,hc6,hc7,hc8,hc9,hc10,hc11,hc12⟩:=hSw;go_simp;try (with_reducible rfl)
 case r13=>
 try simp only [pZa,pZb,pZc,pZd]
 refine headH_take (i:=8) (v:=?_) rfl (by kernel_rfl) (fun _ _ _ h=>h) (fun _ _ _ h=>seqB_ready h.1) (Or.inl ⟨by rfl,?y14⟩) hS ?r14
 case y14=>intro w hSw;(try dsimp only at hSw);obtain⟨hc0,hc1,hc2,hc3,hc4,hc5,hc6,hc7,hc8,hc9,hc10,hc11,hc12⟩:=hSw;go_simp;try (with_reducible rfl)
 case r14=>
 try simp only [pZa,pZb,pZc,pZd]
 refine⟨by kernel_rfl,?_⟩
 go_wp2_with fail
 refine close_two Tryz.results9 rfl rfl rfl (R2.out.put6o.far3o (by omega) _ _ _) ((R3.out.far6o (g':=w.heap.size+1+1) (by omega) _ _ _ _ _ _).put3o) Tryz.underlying27 Tryz.underlying36 rfl rfl (by kernel_rfl) (by kernel_rfl) ?_
 exact⟨A2,d2,B2,c2,rfl,HS2.out,Syms.far9 HX2.out (Syms.neO HX2.out R2.out oz_no) (Syms.neO HX2.out R3.out rz_no) _ _ _ _ _ _ _ _ _,HT2.out.far9 (HT2.out.neO R2.out oz_no) (HT2.out.neO R3.out rz_no) _ _ _ _ _ _ _ _ _,HC2.out.1,HC2.out.2,below_set3o (below_set6o BC.out (show w.heap.size≤w.heap.size+1+1 by omega) _ _ _ _ _ _) (show w.heap.size≤w.heap.size+1+1+1 by omega) _ _ _⟩
theorem do_kind2 (o:ObR) (A:Option Addr) (d:Nat) (ct:Nat×Int×Int×Int×Nat×ByteArray) (w:World) (hs:SliceOk A o.2.1.2.2.2.length d) (hx:Syms w A o.2.1.2.2.2.length o.2.1.2.2.2) (hr:rightO o=true) (hi:Ids o.2.1.2.2.2) (hci:ct.2.2.2.2.1<18446744073709551616) (hc:¬ o.2.2=1) :
  Calls Tryz.prog 9 #[.agg (obA o A d),callV (2,ct)] w (DoOut (kindO o (2,ct)).1 (kindO o (2,ct)).2 w):=by
 have HR:=hZ (fun wy (hw:Below w.heap.size w wy)=>oright_any (.agg (obA o A d)) o wy ⟨A,d,rfl,hs,Recs.below hx hw⟩)
 have HK:=hZ (fun wy (hw:Below w.heap.size w wy)=>kind2 o A d (2,ct) wy hr hs (Recs.below hx hw) hi hci rfl)
 obtain⟨ro,hro⟩:∃ x,x=kindO o (2,ct):=⟨_,rfl⟩
 rw [← hro] at HK ⊢
 obtain⟨q0,q1,q2,q3,b5⟩:=A4_gen 27 (obA o A d) (callL (2,ct)).toArray oZ rZ w
 have Q0:=hZ q0
 have Q1:=hZ q1
 have Q2:=hZ q2
 have Q3:=hZ q3
 have HB:=hZ b5
 obtain⟨r0,r1,r2,r3,r4,r5⟩:=Q0.out.sixO
 obtain⟨v0,v1,v2,v3,v4,v5,v6⟩:=Q1.out.sevenO
 clear q0 q1 q2 q3 b5
 rw [hr] at HR
 have ix:∀ w:World,(Instr.index 71 (.agg #[.func (.func 51) #[] #[],.func (.func 52) #[] #[],.func (.func 53) #[] #[],.func (.func 54) #[] #[],.func (.func 55) #[] #[]]) (.int .i64 2)).run Tryz.prog w=.ok (.func (.func 53) #[] #[]) w:=fun _=>by kernel_rfl
 have eg:∀ args w,(callFunc 53 args).run Tryz.prog w=.ok (.enter 53 args) w:=enters_of Tryz.func53 (by kernel_rfl) rfl
 have tc:(o.2.2==1)=false:=by simpa using hc
 clear hc
 clear hro hs hx hi hr
 have HRw:=hZ (HR.out _ HB.out)
 go_enter Tryz.func9,Tryz.ntmps9
 go_wp2_with fail
 refine HRw.out.mono ?_
 rintro e w2 ⟨rfl,hb⟩
 have P0:=hZ (Q0.out.keep hb)
 have P1:=hZ (Q1.out.keep hb)
 have P2:=hZ (Q2.out.keep hb)
 have P3:=hZ (Q3.out.keep hb)
 have HB2:=hZ (chain HB.out hb)
 clear hb HRw r0 r1 r2 r3 r4 r5 v0 v1 v2 v3 v4 v5 v6
 obtain⟨r0,r1,r2,r3,r4,r5⟩:=P0.out.sixO
 obtain⟨v0,v1,v2,v3,v4,v5,v6⟩:=P1.out.sevenO
 go_upto_region 5 with (fail)
 have BC:=hZ HB2.out.drew
 have BD:=hZ (Below.refl w2.heap.size w2).drew
 refine wp_held_tail (S:=(fun (w':World)=>w'.cell? ⟨w.heap.size,0,none⟩=some (.int .u64 (o.1:Nat))∧w'.cell? ⟨w.heap.size,1,none⟩=some (.int .i64 o.2.1.1)∧w'.cell? ⟨w.heap.size,2,none⟩=some (.int .i64 o.2.1.2.1)∧w'.cell? ⟨w.heap.size,3,none⟩=some (.int .i64 o.2.1.2.2.1)∧w'.cell? ⟨w.heap.size,4,none⟩=some (.slice A o.2.1.2.2.2.length d)∧w'.cell? ⟨w.heap.size,5,none⟩=some (.int .i64 o.2.2)∧w'.cell? ⟨w.heap.size+1,0,none⟩=some (.int .i64 2)∧w'.cell? ⟨w.heap.size+1,1,none⟩=some (.int .u64 (ct.1:Nat))∧w'.cell? ⟨w.heap.size+1,2,none⟩=some (.int .i64 ct.2.1)∧w'.cell? ⟨w.heap.size+1,3,none⟩=some (.int .i64 ct.2.2.1)∧w'.cell? ⟨w.heap.size+1,4,none⟩=some (.int .i64 ct.2.2.2.1)∧w'.cell? ⟨w.heap.size+1,5,none⟩=some (.int .u64 (ct.2.2.2.2.1:Nat))∧w'.cell? ⟨w.heap.size+1,6,none⟩=some (.string ct.2.2.2.2.2))) 9 (by kernel_rfl) (by decide) ?_
 have hS:=hZ (show (fun (w':World)=>w'.cell? ⟨w.heap.size,0,none⟩=some (.int .u64 (o.1:Nat))∧w'.cell? ⟨w.heap.size,1,none⟩=some (.int .i64 o.2.1.1)∧w'.cell? ⟨w.heap.size,2,none⟩=some (.int .i64 o.2.1.2.1)∧w'.cell? ⟨w.heap.size,3,none⟩=some (.int .i64 o.2.1.2.2.1)∧w'.cell? ⟨w.heap.size,4,none⟩=some (.slice A o.2.1.2.2.2.length d)∧w'.cell? ⟨w.heap.size,5,none⟩=some (.int .i64 o.2.2)∧w'.cell? ⟨w.heap.size+1,0,none⟩=some (.int .i64 2)∧w'.cell? ⟨w.heap.size+1,1,none⟩=some (.int .u64 (ct.1:Nat))∧w'.cell? ⟨w.heap.size+1,2,none⟩=some (.int .i64 ct.2.1)∧w'.cell? ⟨w.heap.size+1,3,none⟩=some (.int .i64 ct.2.2.1)∧w'.cell? ⟨w.heap.size+1,4,none⟩=some (.int .i64 ct.2.2.2.1)∧w'.cell? ⟨w.heap.size+1,5,none⟩=some (.int .u64 (ct.2.2.2.2.1:Nat))∧w'.cell? ⟨w.heap.size+1,6,none⟩=some (.string ct.2.2.2.2.2)) w2.drew from ⟨r0,r1,r2,r3,r4,r5,v0,v1,v2,v3,v4,v5,v6⟩)
 replace hS:=hS.out
 refine headH_take (i:=1) (v:=?_) rfl (by kernel_rfl) (fun _ _ _ h=>h) (fun _ _ _ h=>seqB_ready h.1) (Or.inl ⟨by rfl,?y15⟩) hS ?r15
 case y15=>intro w hSw;(try dsimp only at hSw);obtain⟨hc0,hc1,hc2,hc3,hc4,hc5,hc6,hc7,hc8,hc9,hc10,hc11,hc12⟩:=hSw;go_simp;try (with_reducible rfl)
 case r15=>
 try simp only [pZa,pZb,pZc,pZd]
 refine headH_take (i:=2) (v:=?_) rfl (by kernel_rfl) (fun _ _ _ h=>h) (fun _ _ _ h=>seqB_ready h.1) (Or.inl ⟨by rfl,?y16⟩) hS ?r16
 case y16=>intro w hSw;(try dsimp only at hSw);obtain⟨hc0,hc1,hc2,hc3,hc4,hc5,hc6,hc7,hc8,hc9,hc10,hc11,hc12⟩:=hSw;go_simp;try (with_reducible rfl)
 case r16=>
 try simp only [pZa,pZb,pZc,pZd]
 refine headH_take (i:=4) (v:=?_) rfl (by kernel_rfl) (fun _ _ _ h=>h) (fun _ _ _ h=>seqB_ready h.1) (Or.inl ⟨by rfl,?y17⟩) hS ?r17
 case y17=>intro w hSw;(try dsimp only at hSw);obtain⟨hc0,hc1,hc2,hc3,hc4,hc5,hc6,hc7,hc8,hc9,hc10,hc11,hc12⟩:=hSw;go_simp;try (with_reducible rfl)
 case r17=>
 try simp only [pZa,pZb,pZc,pZd]
 refine headH_take (i:=5) (v:=?_) rfl (by kernel_rfl) (fun _ _ _ h=>h) (fun _ _ _ h=>seqB_ready h.1) (Or.inl ⟨by rfl,?y18⟩) hS ?r18
 case y18=>intro w hSw;(try dsimp only at hSw);obtain⟨hc0,hc1,hc2,hc3,hc4,hc5,hc6,hc7,hc8,hc9,hc10,hc11,hc12⟩:=hSw;go_simp;try (with_reducible rfl)
 case r18=>
 try simp only [pZa,pZb,pZc,pZd]
 refine headH_one (i:=0) (by kernel_rfl) rfl (fun K hK=>?_)
 go_simp
 refine (byKind_any _).mono ?_
 rintro e x1 ⟨rfl,hb⟩
 replace BC:=hZ (chain BC.out hb)
 replace BD:=hZ (chain BD.out hb)
 clear hb r0 r1 r2 r3 r4 r5 v0 v1 v2 v3 v4 v5 v6
 obtain⟨r0,r1,r2,r3,r4,r5⟩:=(P0.out.keep BD.out).sixO
 obtain⟨v0,v1,v2,v3,v4,v5,v6⟩:=(P1.out.keep BD.out).sevenO
 refine hK.out _ _ (show (fun (w':World)=>w'.cell? ⟨w.heap.size,0,none⟩=some (.int .u64 (o.1:Nat))∧w'.cell? ⟨w.heap.size,1,none⟩=some (.int .i64 o.2.1.1)∧w'.cell? ⟨w.heap.size,2,none⟩=some (.int .i64 o.2.1.2.1)∧w'.cell? ⟨w.heap.size,3,none⟩=some (.int .i64 o.2.1.2.2.1)∧w'.cell? ⟨w.heap.size,4,none⟩=some (.slice A o.2.1.2.2.2.length d)∧w'.cell? ⟨w.heap.size,5,none⟩=some (.int .i64 o.2.2)∧w'.cell? ⟨w.heap.size+1,0,none⟩=some (.int .i64 2)∧w'.cell? ⟨w.heap.size+1,1,none⟩=some (.int .u64 (ct.1:Nat))∧w'.cell? ⟨w.heap.size+1,2,none⟩=some (.int .i64 ct.2.1)∧w'.cell? ⟨w.heap.size+1,3,none⟩=some (.int .i64 ct.2.2.1)∧w'.cell? ⟨w.heap.size+1,4,none⟩=some (.int .i64 ct.2.2.2.1)∧w'.cell? ⟨w.heap.size+1,5,none⟩=some (.int .u64 (ct.2.2.2.2.1:Nat))∧w'.cell? ⟨w.heap.size+1,6,none⟩=some (.string ct.2.2.2.2.2)) x1 from ⟨r0,r1,r2,r3,r4,r5,v0,v1,v2,v3,v4,v5,v6⟩) (fun hS=>?_)
 clear hK K
 refine headH_take (i:=3) (v:=?_) rfl (by kernel_rfl) (fun _ _ _ h=>h) (fun _ _ _ h=>seqB_ready h.1) (Or.inl ⟨by rfl,?y19⟩) hS ?r19
 case y19=>intro w hSw;(try dsimp only at hSw);obtain⟨hc0,hc1,hc2,hc3,hc4,hc5,hc6,hc7,hc8,hc9,hc10,hc11,hc12⟩:=hSw;go_simp;try (with_reducible rfl)
 case r19=>
 try simp only [pZa,pZb,pZc,pZd]
 refine headH_one (i:=6) (by kernel_rfl) rfl (fun K hK=>?_)
 go_simp
 refine (HK.out _ BC.out).mono ?_
 rintro e x2 ⟨A2,d2,B2,c2,rfl,hs2,hx2,ht2,hc2,hm2,hb⟩
 replace BC:=hZ (chain BC.out hb)
 replace BD:=hZ (chain BD.out hb)
 have HS2:=hZ hs2
 have HX2:=hZ hx2
 have HT2:=hZ ht2
 have HC2:=hZ (And.intro hc2 hm2)
 clear hb hs2 hx2 ht2 hc2 hm2 r0 r1 r2 r3 r4 r5 v0 v1 v2 v3 v4 v5 v6
 obtain⟨r0,r1,r2,r3,r4,r5⟩:=(P0.out.keep BD.out).sixO
 obtain⟨v0,v1,v2,v3,v4,v5,v6⟩:=(P1.out.keep BD.out).sevenO
 have R2:=hZ (P2.out.keep BD.out)
 have R3:=hZ (P3.out.keep BD.out)
 obtain⟨s0,s1,s2,s3,s4,s5⟩:=R2.out.sixO
 obtain⟨t0,t1,t2⟩:=R3.out.threeO
 have f0:=R2.out.free 0
 have f1:=R2.out.free 1
 have f2:=R2.out.free 2
 have f3:=R2.out.free 3
 have f4:=R2.out.free 4
 have f5:=R2.out.free 5
 have g0:=R3.out.free 0
 have g1:=R3.out.free 1
 have g2:=R3.out.free 2
 refine hK.out _ _ (show (fun (w':World)=>w'.cell? ⟨w.heap.size,0,none⟩=some (.int .u64 (o.1:Nat))∧w'.cell? ⟨w.heap.size,1,none⟩=some (.int .i64 o.2.1.1)∧w'.cell? ⟨w.heap.size,2,none⟩=some (.int .i64 o.2.1.2.1)∧w'.cell? ⟨w.heap.size,3,none⟩=some (.int .i64 o.2.1.2.2.1)∧w'.cell? ⟨w.heap.size,4,none⟩=some (.slice A o.2.1.2.2.2.length d)∧w'.cell? ⟨w.heap.size,5,none⟩=some (.int .i64 o.2.2)∧w'.cell? ⟨w.heap.size+1,0,none⟩=some (.int .i64 2)∧w'.cell? ⟨w.heap.size+1,1,none⟩=some (.int .u64 (ct.1:Nat))∧w'.cell? ⟨w.heap.size+1,2,none⟩=some (.int .i64 ct.2.1)∧w'.cell? ⟨w.heap.size+1,3,none⟩=some (.int .i64 ct.2.2.1)∧w'.cell? ⟨w.heap.size+1,4,none⟩=some (.int .i64 ct.2.2.2.1)∧w'.cell? ⟨w.heap.size+1,5,none⟩=some (.int .u64 (ct.2.2.2.2.1:Nat))∧w'.cell? ⟨w.heap.size+1,6,none⟩=some (.string ct.2.2.2.2.2)) x2 from ⟨r0,r1,r2,r3,r4,r5,v0,v1,v2,v3,v4,v5,v6⟩) (fun hS=>?_)
 clear hK K
 refine headH_take (i:=7) (v:=?_) rfl (by kernel_rfl) (fun _ _ _ h=>h) (fun _ _ _ h=>seqB_ready h.1) (Or.inl ⟨by rfl,?y20⟩) hS ?r20
 case y20=>intro w hSw;(try dsimp only at hSw);obtain⟨hc0,hc1,hc2,hc3,hc4,hc5,hc6,hc7,hc8,hc9,hc10,hc11,hc12⟩:=hSw;go_simp;try (with_reducible rfl)
 case r20=>
 try simp only [pZa,pZb,pZc,pZd]
 refine headH_take (i:=8) (v:=?_) rfl (by kernel_rfl) (fun _ _ _ h=>h) (fun _ _ _ h=>seqB_ready h.1) (Or.inl ⟨by rfl,?y21⟩) hS ?r21
 case y21=>intro w hSw;(try dsimp only at hSw);obtain⟨hc0,hc1,hc2,hc3,hc4,hc5,hc6,hc7,hc8,hc9,hc10,hc11,hc12⟩:=hSw;go_simp;try (with_reducible rfl)
 case r21=>
 try simp only [pZa,pZb,pZc,pZd]
 refine⟨by kernel_rfl,?_⟩
 go_wp2_with fail
 refine close_two Tryz.results9 rfl rfl rfl (R2.out.put6o.far3o (by omega) _ _ _) ((R3.out.far6o (g':=w.heap.size+1+1) (by omega) _ _ _ _ _ _).put3o) Tryz.underlying27 Tryz.underlying36 rfl rfl (by kernel_rfl) (by kernel_rfl) ?_
 exact⟨A2,d2,B2,c2,rfl,HS2.out,Syms.far9 HX2.out (Syms.neO HX2.out R2.out oz_no) (Syms.neO HX2.out R3.out rz_no) _ _ _ _ _ _ _ _ _,HT2.out.far9 (HT2.out.neO R2.out oz_no) (HT2.out.neO R3.out rz_no) _ _ _ _ _ _ _ _ _,HC2.out.1,HC2.out.2,below_set3o (below_set6o BC.out (show w.heap.size≤w.heap.size+1+1 by omega) _ _ _ _ _ _) (show w.heap.size≤w.heap.size+1+1+1 by omega) _ _ _⟩
theorem do_kind3 (o:ObR) (A:Option Addr) (d:Nat) (ct:Nat×Int×Int×Int×Nat×ByteArray) (w:World) (hs:SliceOk A o.2.1.2.2.2.length d) (hx:Syms w A o.2.1.2.2.2.length o.2.1.2.2.2) (hr:rightO o=true) (hi:Ids o.2.1.2.2.2) (hci:ct.2.2.2.2.1<18446744073709551616) (hc:¬ o.2.2=1) :
  Calls Tryz.prog 9 #[.agg (obA o A d),callV (3,ct)] w (DoOut (kindO o (3,ct)).1 (kindO o (3,ct)).2 w):=by
 have HR:=hZ (fun wy (hw:Below w.heap.size w wy)=>oright_any (.agg (obA o A d)) o wy ⟨A,d,rfl,hs,Recs.below hx hw⟩)
 have HK:=hZ (fun wy (hw:Below w.heap.size w wy)=>kind3 o A d (3,ct) wy hr hs (Recs.below hx hw) hi hci rfl)
 obtain⟨ro,hro⟩:∃ x,x=kindO o (3,ct):=⟨_,rfl⟩
 rw [← hro] at HK ⊢
 obtain⟨q0,q1,q2,q3,b5⟩:=A4_gen 27 (obA o A d) (callL (3,ct)).toArray oZ rZ w
 have Q0:=hZ q0
 have Q1:=hZ q1
 have Q2:=hZ q2
 have Q3:=hZ q3
 have HB:=hZ b5
 obtain⟨r0,r1,r2,r3,r4,r5⟩:=Q0.out.sixO
 obtain⟨v0,v1,v2,v3,v4,v5,v6⟩:=Q1.out.sevenO
 clear q0 q1 q2 q3 b5
 rw [hr] at HR
 have ix:∀ w:World,(Instr.index 71 (.agg #[.func (.func 51) #[] #[],.func (.func 52) #[] #[],.func (.func 53) #[] #[],.func (.func 54) #[] #[],.func (.func 55) #[] #[]]) (.int .i64 3)).run Tryz.prog w=.ok (.func (.func 54) #[] #[]) w:=fun _=>by kernel_rfl
 have eg:∀ args w,(callFunc 54 args).run Tryz.prog w=.ok (.enter 54 args) w:=enters_of Tryz.func54 (by kernel_rfl) rfl
 have tc:(o.2.2==1)=false:=by simpa using hc
 clear hc
 clear hro hs hx hi hr
 have HRw:=hZ (HR.out _ HB.out)
 go_enter Tryz.func9,Tryz.ntmps9
 go_wp2_with fail
 refine HRw.out.mono ?_
 rintro e w2 ⟨rfl,hb⟩
 have P0:=hZ (Q0.out.keep hb)
 have P1:=hZ (Q1.out.keep hb)
 have P2:=hZ (Q2.out.keep hb)
 have P3:=hZ (Q3.out.keep hb)
 have HB2:=hZ (chain HB.out hb)
 clear hb HRw r0 r1 r2 r3 r4 r5 v0 v1 v2 v3 v4 v5 v6
 obtain⟨r0,r1,r2,r3,r4,r5⟩:=P0.out.sixO
 obtain⟨v0,v1,v2,v3,v4,v5,v6⟩:=P1.out.sevenO
 go_upto_region 5 with (fail)
 have BC:=hZ HB2.out.drew
 have BD:=hZ (Below.refl w2.heap.size w2).drew
 refine wp_held_tail (S:=(fun (w':World)=>w'.cell? ⟨w.heap.size,0,none⟩=some (.int .u64 (o.1:Nat))∧w'.cell? ⟨w.heap.size,1,none⟩=some (.int .i64 o.2.1.1)∧w'.cell? ⟨w.heap.size,2,none⟩=some (.int .i64 o.2.1.2.1)∧w'.cell? ⟨w.heap.size,3,none⟩=some (.int .i64 o.2.1.2.2.1)∧w'.cell? ⟨w.heap.size,4,none⟩=some (.slice A o.2.1.2.2.2.length d)∧w'.cell? ⟨w.heap.size,5,none⟩=some (.int .i64 o.2.2)∧w'.cell? ⟨w.heap.size+1,0,none⟩=some (.int .i64 3)∧w'.cell? ⟨w.heap.size+1,1,none⟩=some (.int .u64 (ct.1:Nat))∧w'.cell? ⟨w.heap.size+1,2,none⟩=some (.int .i64 ct.2.1)∧w'.cell? ⟨w.heap.size+1,3,none⟩=some (.int .i64 ct.2.2.1)∧w'.cell? ⟨w.heap.size+1,4,none⟩=some (.int .i64 ct.2.2.2.1)∧w'.cell? ⟨w.heap.size+1,5,none⟩=some (.int .u64 (ct.2.2.2.2.1:Nat))∧w'.cell? ⟨w.heap.size+1,6,none⟩=some (.string ct.2.2.2.2.2))) 9 (by kernel_rfl) (by decide) ?_
 have hS:=hZ (show (fun (w':World)=>w'.cell? ⟨w.heap.size,0,none⟩=some (.int .u64 (o.1:Nat))∧w'.cell? ⟨w.heap.size,1,none⟩=some (.int .i64 o.2.1.1)∧w'.cell? ⟨w.heap.size,2,none⟩=some (.int .i64 o.2.1.2.1)∧w'.cell? ⟨w.heap.size,3,none⟩=some (.int .i64 o.2.1.2.2.1)∧w'.cell? ⟨w.heap.size,4,none⟩=some (.slice A o.2.1.2.2.2.length d)∧w'.cell? ⟨w.heap.size,5,none⟩=some (.int .i64 o.2.2)∧w'.cell? ⟨w.heap.size+1,0,none⟩=some (.int .i64 3)∧w'.cell? ⟨w.heap.size+1,1,none⟩=some (.int .u64 (ct.1:Nat))∧w'.cell? ⟨w.heap.size+1,2,none⟩=some (.int .i64 ct.2.1)∧w'.cell? ⟨w.heap.size+1,3,none⟩=some (.int .i64 ct.2.2.1)∧w'.cell? ⟨w.heap.size+1,4,none⟩=some (.int .i64 ct.2.2.2.1)∧w'.cell? ⟨w.heap.size+1,5,none⟩=some (.int .u64 (ct.2.2.2.2.1:Nat))∧w'.cell? ⟨w.heap.size+1,6,none⟩=some (.string ct.2.2.2.2.2)) w2.drew from ⟨r0,r1,r2,r3,r4,r5,v0,v1,v2,v3,v4,v5,v6⟩)
 replace hS:=hS.out
 refine headH_take (i:=1) (v:=?_) rfl (by kernel_rfl) (fun _ _ _ h=>h) (fun _ _ _ h=>seqB_ready h.1) (Or.inl ⟨by rfl,?y22⟩) hS ?r22
 case y22=>intro w hSw;(try dsimp only at hSw);obtain⟨hc0,hc1,hc2,hc3,hc4,hc5,hc6,hc7,hc8,hc9,hc10,hc11,hc12⟩:=hSw;go_simp;try (with_reducible rfl)
 case r22=>
 try simp only [pZa,pZb,pZc,pZd]
 refine headH_take (i:=2) (v:=?_) rfl (by kernel_rfl) (fun _ _ _ h=>h) (fun _ _ _ h=>seqB_ready h.1) (Or.inl ⟨by rfl,?y23⟩) hS ?r23
 case y23=>intro w hSw;(try dsimp only at hSw);obtain⟨hc0,hc1,hc2,hc3,hc4,hc5,hc6,hc7,hc8,hc9,hc10,hc11,hc12⟩:=hSw;go_simp;try (with_reducible rfl)
 case r23=>
 try simp only [pZa,pZb,pZc,pZd]
 refine headH_take (i:=4) (v:=?_) rfl (by kernel_rfl) (fun _ _ _ h=>h) (fun _ _ _ h=>seqB_ready h.1) (Or.inl ⟨by rfl,?y24⟩) hS ?r24
 case y24=>intro w hSw;(try dsimp only at hSw);obtain⟨hc0,hc1,hc2,hc3,hc4,hc5,hc6,hc7,hc8,hc9,hc10,hc11,hc12⟩:=hSw;go_simp;try (with_reducible rfl)
 case r24=>
 try simp only [pZa,pZb,pZc,pZd]
 refine headH_take (i:=5) (v:=?_) rfl (by kernel_rfl) (fun _ _ _ h=>h) (fun _ _ _ h=>seqB_ready h.1) (Or.inl ⟨by rfl,?y25⟩) hS ?r25
 case y25=>intro w hSw;(try dsimp only at hSw);obtain⟨hc0,hc1,hc2,hc3,hc4,hc5,hc6,hc7,hc8,hc9,hc10,hc11,hc12⟩:=hSw;go_simp;try (with_reducible rfl)
 case r25=>
 try simp only [pZa,pZb,pZc,pZd]
 refine headH_one (i:=0) (by kernel_rfl) rfl (fun K hK=>?_)
 go_simp
 refine (byKind_any _).mono ?_
 rintro e x1 ⟨rfl,hb⟩
 replace BC:=hZ (chain BC.out hb)
 replace BD:=hZ (chain BD.out hb)
 clear hb r0 r1 r2 r3 r4 r5 v0 v1 v2 v3 v4 v5 v6
 obtain⟨r0,r1,r2,r3,r4,r5⟩:=(P0.out.keep BD.out).sixO
 obtain⟨v0,v1,v2,v3,v4,v5,v6⟩:=(P1.out.keep BD.out).sevenO
 refine hK.out _ _ (show (fun (w':World)=>w'.cell? ⟨w.heap.size,0,none⟩=some (.int .u64 (o.1:Nat))∧w'.cell? ⟨w.heap.size,1,none⟩=some (.int .i64 o.2.1.1)∧w'.cell? ⟨w.heap.size,2,none⟩=some (.int .i64 o.2.1.2.1)∧w'.cell? ⟨w.heap.size,3,none⟩=some (.int .i64 o.2.1.2.2.1)∧w'.cell? ⟨w.heap.size,4,none⟩=some (.slice A o.2.1.2.2.2.length d)∧w'.cell? ⟨w.heap.size,5,none⟩=some (.int .i64 o.2.2)∧w'.cell? ⟨w.heap.size+1,0,none⟩=some (.int .i64 3)∧w'.cell? ⟨w.heap.size+1,1,none⟩=some (.int .u64 (ct.1:Nat))∧w'.cell? ⟨w.heap.size+1,2,none⟩=some (.int .i64 ct.2.1)∧w'.cell? ⟨w.heap.size+1,3,none⟩=some (.int .i64 ct.2.2.1)∧w'.cell? ⟨w.heap.size+1,4,none⟩=some (.int .i64 ct.2.2.2.1)∧w'.cell? ⟨w.heap.size+1,5,none⟩=some (.int .u64 (ct.2.2.2.2.1:Nat))∧w'.cell? ⟨w.heap.size+1,6,none⟩=some (.string ct.2.2.2.2.2)) x1 from ⟨r0,r1,r2,r3,r4,r5,v0,v1,v2,v3,v4,v5,v6⟩) (fun hS=>?_)
 clear hK K
 refine headH_take (i:=3) (v:=?_) rfl (by kernel_rfl) (fun _ _ _ h=>h) (fun _ _ _ h=>seqB_ready h.1) (Or.inl ⟨by rfl,?y26⟩) hS ?r26
 case y26=>intro w hSw;(try dsimp only at hSw);obtain⟨hc0,hc1,hc2,hc3,hc4,hc5,hc6,hc7,hc8,hc9,hc10,hc11,hc12⟩:=hSw;go_simp;try (with_reducible rfl)
 case r26=>
 try simp only [pZa,pZb,pZc,pZd]
 refine headH_one (i:=6) (by kernel_rfl) rfl (fun K hK=>?_)
 go_simp
 refine (HK.out _ BC.out).mono ?_
 rintro e x2 ⟨A2,d2,B2,c2,rfl,hs2,hx2,ht2,hc2,hm2,hb⟩
 replace BC:=hZ (chain BC.out hb)
 replace BD:=hZ (chain BD.out hb)
 have HS2:=hZ hs2
 have HX2:=hZ hx2
 have HT2:=hZ ht2
 have HC2:=hZ (And.intro hc2 hm2)
 clear hb hs2 hx2 ht2 hc2 hm2 r0 r1 r2 r3 r4 r5 v0 v1 v2 v3 v4 v5 v6
 obtain⟨r0,r1,r2,r3,r4,r5⟩:=(P0.out.keep BD.out).sixO
 obtain⟨v0,v1,v2,v3,v4,v5,v6⟩:=(P1.out.keep BD.out).sevenO
 have R2:=hZ (P2.out.keep BD.out)
 have R3:=hZ (P3.out.keep BD.out)
 obtain⟨s0,s1,s2,s3,s4,s5⟩:=R2.out.sixO
 obtain⟨t0,t1,t2⟩:=R3.out.threeO
 have f0:=R2.out.free 0
 have f1:=R2.out.free 1
 have f2:=R2.out.free 2
 have f3:=R2.out.free 3
 have f4:=R2.out.free 4
 have f5:=R2.out.free 5
 have g0:=R3.out.free 0
 have g1:=R3.out.free 1
 have g2:=R3.out.free 2
 refine hK.out _ _ (show (fun (w':World)=>w'.cell? ⟨w.heap.size,0,none⟩=some (.int .u64 (o.1:Nat))∧w'.cell? ⟨w.heap.size,1,none⟩=some (.int .i64 o.2.1.1)∧w'.cell? ⟨w.heap.size,2,none⟩=some (.int .i64 o.2.1.2.1)∧w'.cell? ⟨w.heap.size,3,none⟩=some (.int .i64 o.2.1.2.2.1)∧w'.cell? ⟨w.heap.size,4,none⟩=some (.slice A o.2.1.2.2.2.length d)∧w'.cell? ⟨w.heap.size,5,none⟩=some (.int .i64 o.2.2)∧w'.cell? ⟨w.heap.size+1,0,none⟩=some (.int .i64 3)∧w'.cell? ⟨w.heap.size+1,1,none⟩=some (.int .u64 (ct.1:Nat))∧w'.cell? ⟨w.heap.size+1,2,none⟩=some (.int .i64 ct.2.1)∧w'.cell? ⟨w.heap.size+1,3,none⟩=some (.int .i64 ct.2.2.1)∧w'.cell? ⟨w.heap.size+1,4,none⟩=some (.int .i64 ct.2.2.2.1)∧w'.cell? ⟨w.heap.size+1,5,none⟩=some (.int .u64 (ct.2.2.2.2.1:Nat))∧w'.cell? ⟨w.heap.size+1,6,none⟩=some (.string ct.2.2.2.2.2)) x2 from ⟨r0,r1,r2,r3,r4,r5,v0,v1,v2,v3,v4,v5,v6⟩) (fun hS=>?_)
 clear hK K
 refine headH_take (i:=7) (v:=?_) rfl (by kernel_rfl) (fun _ _ _ h=>h) (fun _ _ _ h=>seqB_ready h.1) (Or.inl ⟨by rfl,?y27⟩) hS ?r27
 case y27=>intro w hSw;(try dsimp only at hSw);obtain⟨hc0,hc1,hc2,hc3,hc4,hc5,hc6,hc7,hc8,hc9,hc10,hc11,hc12⟩:=hSw;go_simp;try (with_reducible rfl)
 case r27=>
 try simp only [pZa,pZb,pZc,pZd]
 refine headH_take (i:=8) (v:=?_) rfl (by kernel_rfl) (fun _ _ _ h=>h) (fun _ _ _ h=>seqB_ready h.1) (Or.inl ⟨by rfl,?y28⟩) hS ?r28
 case y28=>intro w hSw;(try dsimp only at hSw);obtain⟨hc0,hc1,hc2,hc3,hc4,hc5,hc6,hc7,hc8,hc9,hc10,hc11,hc12⟩:=hSw;go_simp;try (with_reducible rfl)
 case r28=>
 try simp only [pZa,pZb,pZc,pZd]
 refine⟨by kernel_rfl,?_⟩
 go_wp2_with fail
 refine close_two Tryz.results9 rfl rfl rfl (R2.out.put6o.far3o (by omega) _ _ _) ((R3.out.far6o (g':=w.heap.size+1+1) (by omega) _ _ _ _ _ _).put3o) Tryz.underlying27 Tryz.underlying36 rfl rfl (by kernel_rfl) (by kernel_rfl) ?_
 exact⟨A2,d2,B2,c2,rfl,HS2.out,Syms.far9 HX2.out (Syms.neO HX2.out R2.out oz_no) (Syms.neO HX2.out R3.out rz_no) _ _ _ _ _ _ _ _ _,HT2.out.far9 (HT2.out.neO R2.out oz_no) (HT2.out.neO R3.out rz_no) _ _ _ _ _ _ _ _ _,HC2.out.1,HC2.out.2,below_set3o (below_set6o BC.out (show w.heap.size≤w.heap.size+1+1 by omega) _ _ _ _ _ _) (show w.heap.size≤w.heap.size+1+1+1 by omega) _ _ _⟩
theorem do_kind4 (o:ObR) (A:Option Addr) (d:Nat) (ct:Nat×Int×Int×Int×Nat×ByteArray) (w:World) (hs:SliceOk A o.2.1.2.2.2.length d) (hx:Syms w A o.2.1.2.2.2.length o.2.1.2.2.2) (hr:rightO o=true) (hi:Ids o.2.1.2.2.2) (hci:ct.2.2.2.2.1<18446744073709551616) (hc:¬ o.2.2=1) :
  Calls Tryz.prog 9 #[.agg (obA o A d),callV (4,ct)] w (DoOut (kindO o (4,ct)).1 (kindO o (4,ct)).2 w):=by
 have HR:=hZ (fun wy (hw:Below w.heap.size w wy)=>oright_any (.agg (obA o A d)) o wy ⟨A,d,rfl,hs,Recs.below hx hw⟩)
 have HK:=hZ (fun wy (hw:Below w.heap.size w wy)=>kind4 o A d (4,ct) wy hr hs (Recs.below hx hw) hi hci rfl)
 obtain⟨ro,hro⟩:∃ x,x=kindO o (4,ct):=⟨_,rfl⟩
 rw [← hro] at HK ⊢
 obtain⟨q0,q1,q2,q3,b5⟩:=A4_gen 27 (obA o A d) (callL (4,ct)).toArray oZ rZ w
 have Q0:=hZ q0
 have Q1:=hZ q1
 have Q2:=hZ q2
 have Q3:=hZ q3
 have HB:=hZ b5
 obtain⟨r0,r1,r2,r3,r4,r5⟩:=Q0.out.sixO
 obtain⟨v0,v1,v2,v3,v4,v5,v6⟩:=Q1.out.sevenO
 clear q0 q1 q2 q3 b5
 rw [hr] at HR
 have ix:∀ w:World,(Instr.index 71 (.agg #[.func (.func 51) #[] #[],.func (.func 52) #[] #[],.func (.func 53) #[] #[],.func (.func 54) #[] #[],.func (.func 55) #[] #[]]) (.int .i64 4)).run Tryz.prog w=.ok (.func (.func 55) #[] #[]) w:=fun _=>by kernel_rfl
 have eg:∀ args w,(callFunc 55 args).run Tryz.prog w=.ok (.enter 55 args) w:=enters_of Tryz.func55 (by kernel_rfl) rfl
 have tc:(o.2.2==1)=false:=by simpa using hc
 clear hc
 clear hro hs hx hi hr
 have HRw:=hZ (HR.out _ HB.out)
 go_enter Tryz.func9,Tryz.ntmps9
 go_wp2_with fail
 refine HRw.out.mono ?_
 rintro e w2 ⟨rfl,hb⟩
 have P0:=hZ (Q0.out.keep hb)
 have P1:=hZ (Q1.out.keep hb)
 have P2:=hZ (Q2.out.keep hb)
 have P3:=hZ (Q3.out.keep hb)
 have HB2:=hZ (chain HB.out hb)
 clear hb HRw r0 r1 r2 r3 r4 r5 v0 v1 v2 v3 v4 v5 v6
 obtain⟨r0,r1,r2,r3,r4,r5⟩:=P0.out.sixO
 obtain⟨v0,v1,v2,v3,v4,v5,v6⟩:=P1.out.sevenO
 go_upto_region 5 with (fail)
 have BC:=hZ HB2.out.drew
 have BD:=hZ (Below.refl w2.heap.size w2).drew
 refine wp_held_tail (S:=(fun (w':World)=>w'.cell? ⟨w.heap.size,0,none⟩=some (.int .u64 (o.1:Nat))∧w'.cell? ⟨w.heap.size,1,none⟩=some (.int .i64 o.2.1.1)∧w'.cell? ⟨w.heap.size,2,none⟩=some (.int .i64 o.2.1.2.1)∧w'.cell? ⟨w.heap.size,3,none⟩=some (.int .i64 o.2.1.2.2.1)∧w'.cell? ⟨w.heap.size,4,none⟩=some (.slice A o.2.1.2.2.2.length d)∧w'.cell? ⟨w.heap.size,5,none⟩=some (.int .i64 o.2.2)∧w'.cell? ⟨w.heap.size+1,0,none⟩=some (.int .i64 4)∧w'.cell? ⟨w.heap.size+1,1,none⟩=some (.int .u64 (ct.1:Nat))∧w'.cell? ⟨w.heap.size+1,2,none⟩=some (.int .i64 ct.2.1)∧w'.cell? ⟨w.heap.size+1,3,none⟩=some (.int .i64 ct.2.2.1)∧w'.cell? ⟨w.heap.size+1,4,none⟩=some (.int .i64 ct.2.2.2.1)∧w'.cell? ⟨w.heap.size+1,5,none⟩=some (.int .u64 (ct.2.2.2.2.1:Nat))∧w'.cell? ⟨w.heap.size+1,6,none⟩=some (.string ct.2.2.2.2.2))) 9 (by kernel_rfl) (by decide) ?_
 have hS:=hZ (show (fun (w':World)=>w'.cell? ⟨w.heap.size,0,none⟩=some (.int .u64 (o.1:Nat))∧w'.cell? ⟨w.heap.size,1,none⟩=some (.int .i64 o.2.1.1)∧w'.cell? ⟨w.heap.size,2,none⟩=some (.int .i64 o.2.1.2.1)∧w'.cell? ⟨w.heap.size,3,none⟩=some (.int .i64 o.2.1.2.2.1)∧w'.cell? ⟨w.heap.size,4,none⟩=some (.slice A o.2.1.2.2.2.length d)∧w'.cell? ⟨w.heap.size,5,none⟩=some (.int .i64 o.2.2)∧w'.cell? ⟨w.heap.size+1,0,none⟩=some (.int .i64 4)∧w'.cell? ⟨w.heap.size+1,1,none⟩=some (.int .u64 (ct.1:Nat))∧w'.cell? ⟨w.heap.size+1,2,none⟩=some (.int .i64 ct.2.1)∧w'.cell? ⟨w.heap.size+1,3,none⟩=some (.int .i64 ct.2.2.1)∧w'.cell? ⟨w.heap.size+1,4,none⟩=some (.int .i64 ct.2.2.2.1)∧w'.cell? ⟨w.heap.size+1,5,none⟩=some (.int .u64 (ct.2.2.2.2.1:Nat))∧w'.cell? ⟨w.heap.size+1,6,none⟩=some (.string ct.2.2.2.2.2)) w2.drew from ⟨r0,r1,r2,r3,r4,r5,v0,v1,v2,v3,v4,v5,v6⟩)
 replace hS:=hS.out
 refine headH_take (i:=1) (v:=?_) rfl (by kernel_rfl) (fun _ _ _ h=>h) (fun _ _ _ h=>seqB_ready h.1) (Or.inl ⟨by rfl,?y29⟩) hS ?r29
 case y29=>intro w hSw;(try dsimp only at hSw);obtain⟨hc0,hc1,hc2,hc3,hc4,hc5,hc6,hc7,hc8,hc9,hc10,hc11,hc12⟩:=hSw;go_simp;try (with_reducible rfl)
 case r29=>
 try simp only [pZa,pZb,pZc,pZd]
 refine headH_take (i:=2) (v:=?_) rfl (by kernel_rfl) (fun _ _ _ h=>h) (fun _ _ _ h=>seqB_ready h.1) (Or.inl ⟨by rfl,?y30⟩) hS ?r30
 case y30=>intro w hSw;(try dsimp only at hSw);obtain⟨hc0,hc1,hc2,hc3,hc4,hc5,hc6,hc7,hc8,hc9,hc10,hc11,hc12⟩:=hSw;go_simp;try (with_reducible rfl)
 case r30=>
 try simp only [pZa,pZb,pZc,pZd]
 refine headH_take (i:=4) (v:=?_) rfl (by kernel_rfl) (fun _ _ _ h=>h) (fun _ _ _ h=>seqB_ready h.1) (Or.inl ⟨by rfl,?y31⟩) hS ?r31
 case y31=>intro w hSw;(try dsimp only at hSw);obtain⟨hc0,hc1,hc2,hc3,hc4,hc5,hc6,hc7,hc8,hc9,hc10,hc11,hc12⟩:=hSw;go_simp;try (with_reducible rfl)
 case r31=>
 try simp only [pZa,pZb,pZc,pZd]
 refine headH_take (i:=5) (v:=?_) rfl (by kernel_rfl) (fun _ _ _ h=>h) (fun _ _ _ h=>seqB_ready h.1) (Or.inl ⟨by rfl,?y32⟩) hS ?r32
 case y32=>intro w hSw;(try dsimp only at hSw);obtain⟨hc0,hc1,hc2,hc3,hc4,hc5,hc6,hc7,hc8,hc9,hc10,hc11,hc12⟩:=hSw;go_simp;try (with_reducible rfl)
 case r32=>
 try simp only [pZa,pZb,pZc,pZd]
 refine headH_one (i:=0) (by kernel_rfl) rfl (fun K hK=>?_)
 go_simp
 refine (byKind_any _).mono ?_
 rintro e x1 ⟨rfl,hb⟩
 replace BC:=hZ (chain BC.out hb)
 replace BD:=hZ (chain BD.out hb)
 clear hb r0 r1 r2 r3 r4 r5 v0 v1 v2 v3 v4 v5 v6
 obtain⟨r0,r1,r2,r3,r4,r5⟩:=(P0.out.keep BD.out).sixO
 obtain⟨v0,v1,v2,v3,v4,v5,v6⟩:=(P1.out.keep BD.out).sevenO
 refine hK.out _ _ (show (fun (w':World)=>w'.cell? ⟨w.heap.size,0,none⟩=some (.int .u64 (o.1:Nat))∧w'.cell? ⟨w.heap.size,1,none⟩=some (.int .i64 o.2.1.1)∧w'.cell? ⟨w.heap.size,2,none⟩=some (.int .i64 o.2.1.2.1)∧w'.cell? ⟨w.heap.size,3,none⟩=some (.int .i64 o.2.1.2.2.1)∧w'.cell? ⟨w.heap.size,4,none⟩=some (.slice A o.2.1.2.2.2.length d)∧w'.cell? ⟨w.heap.size,5,none⟩=some (.int .i64 o.2.2)∧w'.cell? ⟨w.heap.size+1,0,none⟩=some (.int .i64 4)∧w'.cell? ⟨w.heap.size+1,1,none⟩=some (.int .u64 (ct.1:Nat))∧w'.cell? ⟨w.heap.size+1,2,none⟩=some (.int .i64 ct.2.1)∧w'.cell? ⟨w.heap.size+1,3,none⟩=some (.int .i64 ct.2.2.1)∧w'.cell? ⟨w.heap.size+1,4,none⟩=some (.int .i64 ct.2.2.2.1)∧w'.cell? ⟨w.heap.size+1,5,none⟩=some (.int .u64 (ct.2.2.2.2.1:Nat))∧w'.cell? ⟨w.heap.size+1,6,none⟩=some (.string ct.2.2.2.2.2)) x1 from ⟨r0,r1,r2,r3,r4,r5,v0,v1,v2,v3,v4,v5,v6⟩) (fun hS=>?_)
 clear hK K
 refine headH_take (i:=3) (v:=?_) rfl (by kernel_rfl) (fun _ _ _ h=>h) (fun _ _ _ h=>seqB_ready h.1) (Or.inl ⟨by rfl,?y33⟩) hS ?r33
 case y33=>intro w hSw;(try dsimp only at hSw);obtain⟨hc0,hc1,hc2,hc3,hc4,hc5,hc6,hc7,hc8,hc9,hc10,hc11,hc12⟩:=hSw;go_simp;try (with_reducible rfl)
 case r33=>
 try simp only [pZa,pZb,pZc,pZd]
 refine headH_one (i:=6) (by kernel_rfl) rfl (fun K hK=>?_)
 go_simp
 refine (HK.out _ BC.out).mono ?_
 rintro e x2 ⟨A2,d2,B2,c2,rfl,hs2,hx2,ht2,hc2,hm2,hb⟩
 replace BC:=hZ (chain BC.out hb)
 replace BD:=hZ (chain BD.out hb)
 have HS2:=hZ hs2
 have HX2:=hZ hx2
 have HT2:=hZ ht2
 have HC2:=hZ (And.intro hc2 hm2)
 clear hb hs2 hx2 ht2 hc2 hm2 r0 r1 r2 r3 r4 r5 v0 v1 v2 v3 v4 v5 v6
 obtain⟨r0,r1,r2,r3,r4,r5⟩:=(P0.out.keep BD.out).sixO
 obtain⟨v0,v1,v2,v3,v4,v5,v6⟩:=(P1.out.keep BD.out).sevenO
 have R2:=hZ (P2.out.keep BD.out)
 have R3:=hZ (P3.out.keep BD.out)
 obtain⟨s0,s1,s2,s3,s4,s5⟩:=R2.out.sixO
 obtain⟨t0,t1,t2⟩:=R3.out.threeO
 have f0:=R2.out.free 0
 have f1:=R2.out.free 1
 have f2:=R2.out.free 2
 have f3:=R2.out.free 3
 have f4:=R2.out.free 4
 have f5:=R2.out.free 5
 have g0:=R3.out.free 0
 have g1:=R3.out.free 1
 have g2:=R3.out.free 2
 refine hK.out _ _ (show (fun (w':World)=>w'.cell? ⟨w.heap.size,0,none⟩=some (.int .u64 (o.1:Nat))∧w'.cell? ⟨w.heap.size,1,none⟩=some (.int .i64 o.2.1.1)∧w'.cell? ⟨w.heap.size,2,none⟩=some (.int .i64 o.2.1.2.1)∧w'.cell? ⟨w.heap.size,3,none⟩=some (.int .i64 o.2.1.2.2.1)∧w'.cell? ⟨w.heap.size,4,none⟩=some (.slice A o.2.1.2.2.2.length d)∧w'.cell? ⟨w.heap.size,5,none⟩=some (.int .i64 o.2.2)∧w'.cell? ⟨w.heap.size+1,0,none⟩=some (.int .i64 4)∧w'.cell? ⟨w.heap.size+1,1,none⟩=some (.int .u64 (ct.1:Nat))∧w'.cell? ⟨w.heap.size+1,2,none⟩=some (.int .i64 ct.2.1)∧w'.cell? ⟨w.heap.size+1,3,none⟩=some (.int .i64 ct.2.2.1)∧w'.cell? ⟨w.heap.size+1,4,none⟩=some (.int .i64 ct.2.2.2.1)∧w'.cell? ⟨w.heap.size+1,5,none⟩=some (.int .u64 (ct.2.2.2.2.1:Nat))∧w'.cell? ⟨w.heap.size+1,6,none⟩=some (.string ct.2.2.2.2.2)) x2 from ⟨r0,r1,r2,r3,r4,r5,v0,v1,v2,v3,v4,v5,v6⟩) (fun hS=>?_)
 clear hK K
 refine headH_take (i:=7) (v:=?_) rfl (by kernel_rfl) (fun _ _ _ h=>h) (fun _ _ _ h=>seqB_ready h.1) (Or.inl ⟨by rfl,?y34⟩) hS ?r34
 case y34=>intro w hSw;(try dsimp only at hSw);obtain⟨hc0,hc1,hc2,hc3,hc4,hc5,hc6,hc7,hc8,hc9,hc10,hc11,hc12⟩:=hSw;go_simp;try (with_reducible rfl)
 case r34=>
 try simp only [pZa,pZb,pZc,pZd]
 refine headH_take (i:=8) (v:=?_) rfl (by kernel_rfl) (fun _ _ _ h=>h) (fun _ _ _ h=>seqB_ready h.1) (Or.inl ⟨by rfl,?y35⟩) hS ?r35
 case y35=>intro w hSw;(try dsimp only at hSw);obtain⟨hc0,hc1,hc2,hc3,hc4,hc5,hc6,hc7,hc8,hc9,hc10,hc11,hc12⟩:=hSw;go_simp;try (with_reducible rfl)
 case r35=>
 try simp only [pZa,pZb,pZc,pZd]
 refine⟨by kernel_rfl,?_⟩
 go_wp2_with fail
 refine close_two Tryz.results9 rfl rfl rfl (R2.out.put6o.far3o (by omega) _ _ _) ((R3.out.far6o (g':=w.heap.size+1+1) (by omega) _ _ _ _ _ _).put3o) Tryz.underlying27 Tryz.underlying36 rfl rfl (by kernel_rfl) (by kernel_rfl) ?_
 exact⟨A2,d2,B2,c2,rfl,HS2.out,Syms.far9 HX2.out (Syms.neO HX2.out R2.out oz_no) (Syms.neO HX2.out R3.out rz_no) _ _ _ _ _ _ _ _ _,HT2.out.far9 (HT2.out.neO R2.out oz_no) (HT2.out.neO R3.out rz_no) _ _ _ _ _ _ _ _ _,HC2.out.1,HC2.out.2,below_set3o (below_set6o BC.out (show w.heap.size≤w.heap.size+1+1 by omega) _ _ _ _ _ _) (show w.heap.size≤w.heap.size+1+1+1 by omega) _ _ _⟩
theorem odo_any (o:ObR) (A:Option Addr) (d:Nat) (c:CallR) (w:World) (hs:SliceOk A o.2.1.2.2.2.length d) (hx:Syms w A o.2.1.2.2.2.length o.2.1.2.2.2) (hi:Ids o.2.1.2.2.2) (hci:c.2.2.2.2.2.1<18446744073709551616) :
  Calls Tryz.prog 9 #[.agg (obA o A d),callV c] w (DoOut (doO o c).1 (doO o c).2 w):=by
 by_cases hn:rightO o=true∧0≤c.1∧c.1≤4
 ·have hd:doO o c=(if c.1=0 then (o,(11,0,[])) else if o.2.2=1 then (o,(6,0,[])) else actO o c):=if_pos hn
  obtain⟨hr,h0,h4⟩:=hn
  rw [hd]
  obtain⟨wh,ct⟩:=c
  dsimp only at h0 h4 hci ⊢
  by_cases hz:wh=0
  ·subst hz
   rw [if_pos rfl]
   exact do_kind0 o A d ct w hs hx hr hi hci
  ·rw [if_neg hz]
   by_cases hc:o.2.2=1
   ·rw [if_pos hc]
    exact (do_closed o A d (wh,ct) w hs hx hr (by show 0<wh;omega) h4 hc).mono fun _ _ h=>h.do hs hx
   ·rw [if_neg hc]
    have hk:actO o (wh,ct)=kindO o (wh,ct):=(if_neg hz).symm
    rw [hk]
    have h5:wh=1∨wh=2∨wh=3∨wh=4:=by omega
    rcases h5 with rfl | rfl | rfl | rfl
    ·exact do_kind1 o A d ct w hs hx hr hi hci hc
    ·exact do_kind2 o A d ct w hs hx hr hi hci hc
    ·exact do_kind3 o A d ct w hs hx hr hi hci hc
    ·exact do_kind4 o A d ct w hs hx hr hi hci hc
 ·have hd:doO o c=(o,(1,0,[])):=if_neg hn
  rw [hd]
  exact (do_no o A d c w hs hx hn).mono fun _ _ h=>h.do hs hx
end
section
open Go.RowKit Go.Lib
set_option maxRecDepth 100000
noncomputable def calledR (os:List ObR) (o:ObR) (c:CallR):List ObR×ReplyR:=if (doO o c).2.1=0 then (withO os (doO o c).1,(doO o c).2) else (os,((doO o c).2.1,0,[]))
theorem rcalled_any (A:Option Addr) (cp:Nat) (ps:List RawO) (c:CallR) (i:Nat) (w:World) (hs:SliceOk A ps.length cp) (hx:Raws w A ps.length ps) (hd:OkDs w ps) (hids:IdsO ps) (hci:c.2.2.2.2.2.1<18446744073709551616) (hr:rightR ps=true) (hil:i<ps.length) (hpi:(ps.getD i default).1.1=c.2.1) :
  Calls Tryz.prog 40 #[.agg #[.slice A ps.length cp],callV c,.int .i64 (i:Int)] w (RcO (calledR (obsR ps) (ps.getD i default).1 c).1 (calledR (obsR ps) (ps.getD i default).1 c).2 w):=by
 have hl8:ps.length≤8:=by have:=((rightR_iff ps).1 hr).1;rwa [obsR_len] at this
 obtain⟨q4,q5,q8,q9,b5⟩:=R4_gen #[.slice A ps.length cp] (callL c).toArray w
 have Q4:=hZ q4
 have Q5:=hZ q5
 have Q8:=hZ q8
 have Q9:=hZ q9
 have HB:=hZ b5
 have HX:=hZ (Recs.below hx b5)
 have HD:=hZ (OkDs.below hd b5)
 obtain⟨b,off,hA,hbk,x0,x1,x2,x3,x4,x5⟩:=HX.out.six i hil
 have HDo:=hZ (fun (wx wy:World) (h:Below w.heap.size w wx) (hb:Below wx.heap.size wx wy)=>odo_any (ps.getD i default).1 (ps.getD i default).2.1 (ps.getD i default).2.2 c wy (hd i).1 (Recs.below (Recs.below (hd i).2 h) hb) (hids i).2 hci)
 have HWth:=hZ (fun (p':RawO) (wx wy:World) (h:Below w.heap.size w wx) (hb:Below wx.heap.size wx wy)=>rwith_any A cp ps i p' wy hs (Recs.below (Recs.below hx h) hb) hl8 hil)
 have HSet:=hZ (fun (p':RawO) (h:p'.1.1=c.2.1)=>set_with (x:=p') hil (rise_of_right hr) (hpi.trans h.symm))
 unfold calledR
 obtain⟨p,hp⟩:∃ y,y=ps.getD i default:=⟨_,rfl⟩
 rw [← hp] at HDo x0 x1 x2 x3 x4 x5 hpi ⊢
 have HId:=hZ (show (doO p.1 c).1.1=c.2.1 by rw [doO_id];exact hpi)
 obtain⟨dd,hdd⟩:∃ y,y=doO p.1 c:=⟨_,rfl⟩
 rw [← hdd] at HDo HId ⊢
 clear hp hdd hpi
 obtain⟨oo,r1,r2,bl⟩:=dd
 obtain⟨res,hres⟩:∃ y:List ObR×ReplyR,y=(if r1=0 then (withO (obsR ps) oo,((r1,r2,bl):ReplyR)) else (obsR ps,(r1,0,[]))):=⟨_,rfl⟩
 have HRes:=hZ hres
 show Calls Tryz.prog 40 #[.agg #[.slice A ps.length cp],callV c,.int .i64 (i:Int)] w (RcO (if r1=0 then (withO (obsR ps) oo,((r1,r2,bl):ReplyR)) else (obsR ps,(r1,0,[]))).1 (if r1=0 then (withO (obsR ps) oo,((r1,r2,bl):ReplyR)) else (obsR ps,(r1,0,[]))).2 w)
 rw [← hres]
 clear hres
 have hil':(i:Int)<(ps.length:Int):=by omega
 have hi0:(0:Int)≤(i:Int):=by omega
 subst hA
 have r0:=Q4.out.cell 0
 obtain⟨v0,v1,v2,v3,v4,v5,v6⟩:=Q5.out.sevenO
 have HSo:=hZ hs
 clear q4 q5 q8 q9 b5 hx hd hids hci hr hil hs
 have HS:=hZ hl8
 clear hl8
 go_enter Tryz.func40,Tryz.ntmps40
 go_upto_region 1 with (fail)
 obtain⟨WW,hWW⟩:∃ y,y=(((w.alloc (.cells #[.slice (some ⟨b,off,none⟩) ps.length cp] 48)).alloc (.cells (callL c).toArray 31)).alloc (.cells #[.slice none 0 0] 48)).alloc (.cells #[.int .i64 0,.int .i64 0,.slice none 0 0] 36):=⟨_,rfl⟩
 have hW2:R4W #[.slice (some ⟨b,off,none⟩) ps.length cp] (callL c).toArray w=WW:=hWW.symm
 rw [← hWW]
 rw [hW2] at Q4 Q5 Q8 Q9 HB HX HD r0 v0 v1 v2 v3 v4 v5 v6 x0 x1 x2 x3 x4 x5 hbk
 clear hW2
 have P4:=Q4
 have P5:=Q5
 have HBK:=hZ hbk
 replace HDo:=hZ (fun wy hy=>HDo.out WW wy HB.out hy)
 clear hWW hbk
 go_cut [8,9] (fun pv qv wv=>∃ (g10 g11:Nat) (A3:Option Addr) (d3:Nat) (B3:Option Addr) (c3:Nat),pv=.pointer (some ⟨g10,0,none⟩)∧qv=.pointer (some ⟨g11,0,none⟩)∧Hid (Box wv g10 27 (obA oo A3 d3))∧Hid (Box wv g11 36 #[.int .i64 r1,.int .i64 r2,.slice B3 bl.length c3])∧Hid (SliceOk A3 oo.2.1.2.2.2.length d3)∧Hid (Below WW.heap.size WW wv)∧Hid (Syms wv A3 oo.2.1.2.2.2.length oo.2.1.2.2.2)∧Hid (Texts wv B3 bl.length bl)∧Hid (bl.length≤c3∧c3≤maxLen)∧Hid (WW.heap.size≤g10∧WW.heap.size≤g11))
 case first=>
  refine wp_heldK_bar [(12,(fun (w':World)=>w'.cell? ⟨w.heap.size,0,none⟩=some (.slice (some ⟨b,off,none⟩) ps.length cp))),(6,(fun (w':World)=>w'.cell? ⟨b,off+i*6,none⟩=some (.int .u64 (p.1.1:Nat))∧w'.cell? ⟨b,off+i*6+1,none⟩=some (.int .i64 p.1.2.1.1)∧w'.cell? ⟨b,off+i*6+2,none⟩=some (.int .i64 p.1.2.1.2.1)∧w'.cell? ⟨b,off+i*6+3,none⟩=some (.int .i64 p.1.2.1.2.2.1)∧w'.cell? ⟨b,off+i*6+4,none⟩=some (.slice p.2.1 p.1.2.1.2.2.2.length p.2.2)∧w'.cell? ⟨b,off+i*6+5,none⟩=some (.int .i64 p.1.2.2))),(6,(fun (w':World)=>w'.cell? ⟨w.heap.size+1,0,none⟩=some (.int .i64 c.1)∧w'.cell? ⟨w.heap.size+1,1,none⟩=some (.int .u64 (c.2.1:Int))∧w'.cell? ⟨w.heap.size+1,2,none⟩=some (.int .i64 c.2.2.1)∧w'.cell? ⟨w.heap.size+1,3,none⟩=some (.int .i64 c.2.2.2.1)∧w'.cell? ⟨w.heap.size+1,4,none⟩=some (.int .i64 c.2.2.2.2.1)∧w'.cell? ⟨w.heap.size+1,5,none⟩=some (.int .u64 (c.2.2.2.2.2.1:Int))∧w'.cell? ⟨w.heap.size+1,6,none⟩=some (.string c.2.2.2.2.2.2)))] 14 (by kernel_rfl) (by decide) ?_
  have hS0:=(show (fun (w':World)=>w'.cell? ⟨w.heap.size,0,none⟩=some (.slice (some ⟨b,off,none⟩) ps.length cp)) WW.drew from r0)
  have hS1:=(show (fun (w':World)=>w'.cell? ⟨b,off+i*6,none⟩=some (.int .u64 (p.1.1:Nat))∧w'.cell? ⟨b,off+i*6+1,none⟩=some (.int .i64 p.1.2.1.1)∧w'.cell? ⟨b,off+i*6+2,none⟩=some (.int .i64 p.1.2.1.2.1)∧w'.cell? ⟨b,off+i*6+3,none⟩=some (.int .i64 p.1.2.1.2.2.1)∧w'.cell? ⟨b,off+i*6+4,none⟩=some (.slice p.2.1 p.1.2.1.2.2.2.length p.2.2)∧w'.cell? ⟨b,off+i*6+5,none⟩=some (.int .i64 p.1.2.2)) WW.drew from ⟨x0,x1,x2,x3,x4,x5⟩)
  have hS2:=(show (fun (w':World)=>w'.cell? ⟨w.heap.size+1,0,none⟩=some (.int .i64 c.1)∧w'.cell? ⟨w.heap.size+1,1,none⟩=some (.int .u64 (c.2.1:Int))∧w'.cell? ⟨w.heap.size+1,2,none⟩=some (.int .i64 c.2.2.1)∧w'.cell? ⟨w.heap.size+1,3,none⟩=some (.int .i64 c.2.2.2.1)∧w'.cell? ⟨w.heap.size+1,4,none⟩=some (.int .i64 c.2.2.2.2.1)∧w'.cell? ⟨w.heap.size+1,5,none⟩=some (.int .u64 (c.2.2.2.2.2.1:Int))∧w'.cell? ⟨w.heap.size+1,6,none⟩=some (.string c.2.2.2.2.2.2)) WW.drew from ⟨v0,v1,v2,v3,v4,v5,v6⟩)
  refine headK_take (i:=0) (v:=?_) rfl (by kernel_rfl) (fun _ _ _ h=>h) (fun _ _ _ h=>passed_ready h.1) (Or.inl ⟨by rfl,?y1⟩) ⟨fun _=>hS0,fun _=>hS1,fun _=>hS2,trivial⟩ ?r1
  case y1=>intro w _;go_simp;try (with_reducible rfl)
  case r1=>
  try simp only [pZa,pZb,pZc,pZd]
  refine headK_load 0 12 _ rfl (i:=1) (v:=?_) rfl (by kernel_rfl) (fun _ _ _ h=>h) (fun _ _ _ h=>passed_ready h.1) (Or.inl ⟨by rfl,?y2⟩) ⟨fun _=>hS0,fun _=>hS1,fun _=>hS2,trivial⟩ ?r2
  case y2=>intro w hSw;(try dsimp only at hSw);go_simp;try (with_reducible rfl)
  case r2=>
  try simp only [pZa,pZb,pZc,pZd]
  refine headK_take (i:=2) (v:=?_) rfl (by kernel_rfl) (fun _ _ _ h=>h) (fun _ _ _ h=>passed_ready h.1) (Or.inl ⟨by rfl,?y3⟩) ⟨fun _=>hS0,fun _=>hS1,fun _=>hS2,trivial⟩ ?r3
  case y3=>intro w _;go_simp;try (with_reducible rfl)
  case r3=>
  try simp only [pZa,pZb,pZc,pZd]
  refine headK_take (i:=3) (v:=?_) rfl (by kernel_rfl) (fun _ _ _ h=>h) (fun _ _ _ h=>passed_ready h.1) (Or.inl ⟨by rfl,?y4⟩) ⟨fun _=>hS0,fun _=>hS1,fun _=>hS2,trivial⟩ ?r4
  case y4=>intro w _;go_simp;try (with_reducible rfl)
  case r4=>
  try simp only [pZa,pZb,pZc,pZd]
  refine headK_load 1 6 _ rfl (i:=4) (v:=?_) rfl (by kernel_rfl) (fun _ _ _ h=>h) (fun _ _ _ h=>passed_ready h.1) (Or.inl ⟨by rfl,?y5⟩) ⟨fun _=>hS0,fun _=>hS1,fun _=>hS2,trivial⟩ ?r5
  case y5=>intro w hSw;(try dsimp only at hSw);obtain⟨hc0,hc1,hc2,hc3,hc4,hc5⟩:=hSw;go_simp;try (with_reducible rfl)
  case r5=>
  try simp only [pZa,pZb,pZc,pZd]
  refine headK_load 2 6 _ rfl (i:=5) (v:=?_) rfl (by kernel_rfl) (fun _ _ _ h=>h) (fun _ _ _ h=>passed_ready h.1) (Or.inl ⟨by rfl,?y6⟩) ⟨fun _=>hS0,fun _=>hS1,fun _=>hS2,trivial⟩ ?r6
  case y6=>intro w hSw;(try dsimp only at hSw);obtain⟨hc0,hc1,hc2,hc3,hc4,hc5,hc6⟩:=hSw;go_simp;try (with_reducible rfl)
  case r6=>
  try simp only [pZa,pZb,pZc,pZd]
  refine headK_three (i:=6) (j:=10) (l:=11) (by kernel_rfl) rfl rfl rfl (fun K hK=>?_) (fun K hK=>?_) (fun K hK=>?_)
  ·go_simp
   refine (HDo.out _ (Below.refl WW.heap.size WW).drew).mono ?_
   rintro e y ⟨A3,d3,B3,c3,rfl,hs3,hx3,ht3,hc3,hm3,hb⟩
   have HS3:=hZ hs3
   have HC3:=hZ (And.intro hc3 hm3)
   have HX0:=hZ hx3
   have HT0:=hZ ht3
   have HBY:=hZ hb
   have BC:=hZ (chain (Below.refl WW.heap.size WW).drew hb)
   clear hx3 ht3 hs3 hc3 hm3 hb
   have hS0:=(show (fun (w':World)=>w'.cell? ⟨w.heap.size,0,none⟩=some (.slice (some ⟨b,off,none⟩) ps.length cp)) y from (P4.out.keep BC.out).cell 0)
   refine hK.out _ _ ⟨fun _=>hS0,nZ,nZ,trivial⟩ ?_
   clear hK K
   try simp only [pZa,pZb,pZc,pZd]
   refine headK_take (i:=7) (v:=?_) rfl (by kernel_rfl) (fun _ _ _ h=>h) (fun _ _ _ h=>passed_ready h.1) (Or.inl ⟨by rfl,?y7⟩) ⟨fun _=>hS0,nZ,nZ,trivial⟩ ?r7
   case y7=>intro w _;go_simp;try (with_reducible rfl)
   case r7=>
   try simp only [pZa,pZb,pZc,pZd]
   refine headK_take (i:=8) (v:=?_) rfl (by kernel_rfl) (fun _ _ _ h=>h) (fun _ _ _ h=>passed_ready h.1) (Or.inl ⟨by rfl,?y8⟩) ⟨fun _=>hS0,nZ,nZ,trivial⟩ ?r8
   case y8=>intro w _;go_simp;try (with_reducible rfl)
   case r8=>
   try simp only [pZa,pZb,pZc,pZd]
   refine headK_take (i:=9) (v:=?_) rfl (by kernel_rfl) (fun _ _ _ h=>h) (fun _ _ _ h=>passed_ready h.1) (Or.inl ⟨by rfl,?y9⟩) ⟨fun _=>hS0,nZ,nZ,trivial⟩ ?r9
   case y9=>intro w _;go_simp;try (with_reducible rfl)
   case r9=>
   try simp only [pZa,pZb,pZc,pZd]
   refine headK_two (i:=10) (j:=11) (by kernel_rfl) rfl rfl (fun K hK=>?_) (fun K hK=>?_)
   ·go_simp
    have BZO2:=hZ (show Below WW.heap.size WW (y.alloc (.cells #[.int .u64 0,.int .i64 0,.int .i64 0,.int .i64 0,.slice none 0 0,.int .i64 0] 27)) from BC.out.alloc (BC.out).size _)
    have SZO2:=hZ (show Below y.heap.size y (y.alloc (.cells #[.int .u64 0,.int .i64 0,.int .i64 0,.int .i64 0,.slice none 0 0,.int .i64 0] 27)) from (Below.refl y.heap.size y).alloc ((Below.refl y.heap.size y)).size _)
    have ZO2:=hZ (show Box (y.alloc (.cells #[.int .u64 0,.int .i64 0,.int .i64 0,.int .i64 0,.slice none 0 0,.int .i64 0] 27)) (y.heap.size) 27 oZ from Box.new y _ _)
    have hS0:=(show (fun (w':World)=>w'.cell? ⟨w.heap.size,0,none⟩=some (.slice (some ⟨b,off,none⟩) ps.length cp)) (y.alloc (.cells #[.int .u64 0,.int .i64 0,.int .i64 0,.int .i64 0,.slice none 0 0,.int .i64 0] 27)) from (P4.out.keep BZO2.out).cell 0)
    refine hK.out _ _ ⟨fun _=>hS0,nZ,nZ,trivial⟩ ?_
    clear hK K
    try simp only [pZa,pZb,pZc,pZd]
    refine headK_one (i:=11) (by kernel_rfl) rfl (fun K hK=>?_)
    go_simp
    have BZR9:=hZ (show Below WW.heap.size WW ((y.alloc (.cells #[.int .u64 0,.int .i64 0,.int .i64 0,.int .i64 0,.slice none 0 0,.int .i64 0] 27)).alloc (.cells #[.int .i64 0,.int .i64 0,.slice none 0 0] 36)) from BZO2.out.alloc (BZO2.out).size _)
    have SZR9:=hZ (show Below y.heap.size y ((y.alloc (.cells #[.int .u64 0,.int .i64 0,.int .i64 0,.int .i64 0,.slice none 0 0,.int .i64 0] 27)).alloc (.cells #[.int .i64 0,.int .i64 0,.slice none 0 0] 36)) from SZO2.out.alloc (SZO2.out).size _)
    have ZR9:=hZ (show Box ((y.alloc (.cells #[.int .u64 0,.int .i64 0,.int .i64 0,.int .i64 0,.slice none 0 0,.int .i64 0] 27)).alloc (.cells #[.int .i64 0,.int .i64 0,.slice none 0 0] 36)) (y.heap.size+1) 36 rZ from by have q:=Box.new (y.alloc (.cells #[.int .u64 0,.int .i64 0,.int .i64 0,.int .i64 0,.slice none 0 0,.int .i64 0] 27)) 36 rZ;rw [World.size_alloc] at q;exact q)
    have KZR9:=hZ (Box.alloc ZO2.out (.cells #[.int .i64 0,.int .i64 0,.slice none 0 0] 36))
    have hS0:=(show (fun (w':World)=>w'.cell? ⟨w.heap.size,0,none⟩=some (.slice (some ⟨b,off,none⟩) ps.length cp)) ((y.alloc (.cells #[.int .u64 0,.int .i64 0,.int .i64 0,.int .i64 0,.slice none 0 0,.int .i64 0] 27)).alloc (.cells #[.int .i64 0,.int .i64 0,.slice none 0 0] 36)) from (P4.out.keep BZR9.out).cell 0)
    refine hK.out _ _ ⟨fun _=>hS0,nZ,nZ,trivial⟩ ?_
    clear hK K
    try simp only [pZa,pZb,pZc,pZd]
    have LY:=hZ (show WW.heap.size≤y.heap.size from BC.out.size)
    refine headK_one (i:=12) (by kernel_rfl) rfl (fun K hK=>?_)
    go_simp
    refine hK.out _ _ ⟨nZ,nZ,nZ,trivial⟩ ?_
    clear hK K
    try simp only [pZa,pZb,pZc,pZd]
    refine headK_one (i:=13) (by kernel_rfl) rfl (fun K hK=>?_)
    go_simp
    refine hK.out _ _ ⟨nZ,nZ,nZ,trivial⟩ ?_
    clear hK K
    try simp only [pZa,pZb,pZc,pZd]
    refine⟨by kernel_rfl,?_⟩
    refine wpAny_done (by kernel_rfl) ?_ _
    go_wp2_with fail
    go_meet
    have N1:=Box.new y 27 (obA oo A3 d3)
    have N2:=Box.new (y.alloc (.cells (obA oo A3 d3) 27)) 36 #[.int .i64 r1,.int .i64 r2,.slice B3 bl.length c3]
    rw [World.size_alloc] at N2
    have N3:=(show Below y.heap.size y ((y.alloc (.cells (obA oo A3 d3) 27)).alloc (.cells #[.int .i64 r1,.int .i64 r2,.slice B3 bl.length c3] 36)) from ((Below.refl _ _).alloc (Nat.le_refl _) _).alloc (by simp) _)
    exact⟨_,_,A3,d3,B3,c3,rfl,rfl,hZ (N1.alloc (.cells #[.int .i64 r1,.int .i64 r2,.slice B3 bl.length c3] 36)),hZ (N2),HS3,hZ (chain BC.out N3),hZ (Recs.below HX0.out N3),hZ (HT0.out.below N3),HC3,hZ (show WW.heap.size≤y.heap.size∧WW.heap.size≤y.heap.size+1 by have:=LY.out;omega)⟩
   ·go_simp
    have BZR2:=hZ (show Below WW.heap.size WW (y.alloc (.cells #[.int .i64 0,.int .i64 0,.slice none 0 0] 36)) from BC.out.alloc (BC.out).size _)
    have SZR2:=hZ (show Below y.heap.size y (y.alloc (.cells #[.int .i64 0,.int .i64 0,.slice none 0 0] 36)) from (Below.refl y.heap.size y).alloc ((Below.refl y.heap.size y)).size _)
    have ZR2:=hZ (show Box (y.alloc (.cells #[.int .i64 0,.int .i64 0,.slice none 0 0] 36)) (y.heap.size) 36 rZ from Box.new y _ _)
    have hS0:=(show (fun (w':World)=>w'.cell? ⟨w.heap.size,0,none⟩=some (.slice (some ⟨b,off,none⟩) ps.length cp)) (y.alloc (.cells #[.int .i64 0,.int .i64 0,.slice none 0 0] 36)) from (P4.out.keep BZR2.out).cell 0)
    refine hK.out _ _ ⟨fun _=>hS0,nZ,nZ,trivial⟩ ?_
    clear hK K
    try simp only [pZa,pZb,pZc,pZd]
    refine headK_one (i:=10) (by kernel_rfl) rfl (fun K hK=>?_)
    go_simp
    have BZO9:=hZ (show Below WW.heap.size WW ((y.alloc (.cells #[.int .i64 0,.int .i64 0,.slice none 0 0] 36)).alloc (.cells #[.int .u64 0,.int .i64 0,.int .i64 0,.int .i64 0,.slice none 0 0,.int .i64 0] 27)) from BZR2.out.alloc (BZR2.out).size _)
    have SZO9:=hZ (show Below y.heap.size y ((y.alloc (.cells #[.int .i64 0,.int .i64 0,.slice none 0 0] 36)).alloc (.cells #[.int .u64 0,.int .i64 0,.int .i64 0,.int .i64 0,.slice none 0 0,.int .i64 0] 27)) from SZR2.out.alloc (SZR2.out).size _)
    have ZO9:=hZ (show Box ((y.alloc (.cells #[.int .i64 0,.int .i64 0,.slice none 0 0] 36)).alloc (.cells #[.int .u64 0,.int .i64 0,.int .i64 0,.int .i64 0,.slice none 0 0,.int .i64 0] 27)) (y.heap.size+1) 27 oZ from by have q:=Box.new (y.alloc (.cells #[.int .i64 0,.int .i64 0,.slice none 0 0] 36)) 27 oZ;rw [World.size_alloc] at q;exact q)
    have KZO9:=hZ (Box.alloc ZR2.out (.cells #[.int .u64 0,.int .i64 0,.int .i64 0,.int .i64 0,.slice none 0 0,.int .i64 0] 27))
    have hS0:=(show (fun (w':World)=>w'.cell? ⟨w.heap.size,0,none⟩=some (.slice (some ⟨b,off,none⟩) ps.length cp)) ((y.alloc (.cells #[.int .i64 0,.int .i64 0,.slice none 0 0] 36)).alloc (.cells #[.int .u64 0,.int .i64 0,.int .i64 0,.int .i64 0,.slice none 0 0,.int .i64 0] 27)) from (P4.out.keep BZO9.out).cell 0)
    refine hK.out _ _ ⟨fun _=>hS0,nZ,nZ,trivial⟩ ?_
    clear hK K
    try simp only [pZa,pZb,pZc,pZd]
    have LY:=hZ (show WW.heap.size≤y.heap.size from BC.out.size)
    refine headK_one (i:=12) (by kernel_rfl) rfl (fun K hK=>?_)
    go_simp
    refine hK.out _ _ ⟨nZ,nZ,nZ,trivial⟩ ?_
    clear hK K
    try simp only [pZa,pZb,pZc,pZd]
    refine headK_one (i:=13) (by kernel_rfl) rfl (fun K hK=>?_)
    go_simp
    refine hK.out _ _ ⟨nZ,nZ,nZ,trivial⟩ ?_
    clear hK K
    try simp only [pZa,pZb,pZc,pZd]
    refine⟨by kernel_rfl,?_⟩
    refine wpAny_done (by kernel_rfl) ?_ _
    go_wp2_with fail
    go_meet
    have N1:=Box.new y 36 #[.int .i64 r1,.int .i64 r2,.slice B3 bl.length c3]
    have N2:=Box.new (y.alloc (.cells #[.int .i64 r1,.int .i64 r2,.slice B3 bl.length c3] 36)) 27 (obA oo A3 d3)
    rw [World.size_alloc] at N2
    have N3:=(show Below y.heap.size y ((y.alloc (.cells #[.int .i64 r1,.int .i64 r2,.slice B3 bl.length c3] 36)).alloc (.cells (obA oo A3 d3) 27)) from ((Below.refl _ _).alloc (Nat.le_refl _) _).alloc (by simp) _)
    exact⟨_,_,A3,d3,B3,c3,rfl,rfl,hZ (N2),hZ (N1.alloc (.cells (obA oo A3 d3) 27)),HS3,hZ (chain BC.out N3),hZ (Recs.below HX0.out N3),hZ (HT0.out.below N3),HC3,hZ (show WW.heap.size≤y.heap.size+1∧WW.heap.size≤y.heap.size by have:=LY.out;omega)⟩
  ·go_simp
   have BZO3:=hZ (show Below WW.heap.size WW (WW.drew.alloc (.cells #[.int .u64 0,.int .i64 0,.int .i64 0,.int .i64 0,.slice none 0 0,.int .i64 0] 27)) from (Below.refl WW.heap.size WW).drew.alloc ((Below.refl WW.heap.size WW).drew).size _)
   have ZO3:=hZ (show Box (WW.drew.alloc (.cells #[.int .u64 0,.int .i64 0,.int .i64 0,.int .i64 0,.slice none 0 0,.int .i64 0] 27)) (WW.heap.size) 27 oZ from Box.new WW.drew _ _)
   have PPZO3:=hZ (P4.out.keep BZO3.out)
   have PCZO3:=hZ (P5.out.keep BZO3.out)
   have hS0:=(show (fun (w':World)=>w'.cell? ⟨w.heap.size,0,none⟩=some (.slice (some ⟨b,off,none⟩) ps.length cp)) (WW.drew.alloc (.cells #[.int .u64 0,.int .i64 0,.int .i64 0,.int .i64 0,.slice none 0 0,.int .i64 0] 27)) from PPZO3.out.cell 0)
   have hS1:=(show (fun (w':World)=>w'.cell? ⟨b,off+i*6,none⟩=some (.int .u64 (p.1.1:Nat))∧w'.cell? ⟨b,off+i*6+1,none⟩=some (.int .i64 p.1.2.1.1)∧w'.cell? ⟨b,off+i*6+2,none⟩=some (.int .i64 p.1.2.1.2.1)∧w'.cell? ⟨b,off+i*6+3,none⟩=some (.int .i64 p.1.2.1.2.2.1)∧w'.cell? ⟨b,off+i*6+4,none⟩=some (.slice p.2.1 p.1.2.1.2.2.2.length p.2.2)∧w'.cell? ⟨b,off+i*6+5,none⟩=some (.int .i64 p.1.2.2)) (WW.drew.alloc (.cells #[.int .u64 0,.int .i64 0,.int .i64 0,.int .i64 0,.slice none 0 0,.int .i64 0] 27)) from ⟨(BZO3.out.cell (p:=⟨b,_,none⟩) HBK.out).trans x0,(BZO3.out.cell (p:=⟨b,_,none⟩) HBK.out).trans x1,(BZO3.out.cell (p:=⟨b,_,none⟩) HBK.out).trans x2,(BZO3.out.cell (p:=⟨b,_,none⟩) HBK.out).trans x3,(BZO3.out.cell (p:=⟨b,_,none⟩) HBK.out).trans x4,(BZO3.out.cell (p:=⟨b,_,none⟩) HBK.out).trans x5⟩)
   have hS2:=(show (fun (w':World)=>w'.cell? ⟨w.heap.size+1,0,none⟩=some (.int .i64 c.1)∧w'.cell? ⟨w.heap.size+1,1,none⟩=some (.int .u64 (c.2.1:Int))∧w'.cell? ⟨w.heap.size+1,2,none⟩=some (.int .i64 c.2.2.1)∧w'.cell? ⟨w.heap.size+1,3,none⟩=some (.int .i64 c.2.2.2.1)∧w'.cell? ⟨w.heap.size+1,4,none⟩=some (.int .i64 c.2.2.2.2.1)∧w'.cell? ⟨w.heap.size+1,5,none⟩=some (.int .u64 (c.2.2.2.2.2.1:Int))∧w'.cell? ⟨w.heap.size+1,6,none⟩=some (.string c.2.2.2.2.2.2)) (WW.drew.alloc (.cells #[.int .u64 0,.int .i64 0,.int .i64 0,.int .i64 0,.slice none 0 0,.int .i64 0] 27)) from ⟨PCZO3.out.cell 0,PCZO3.out.cell 1,PCZO3.out.cell 2,PCZO3.out.cell 3,PCZO3.out.cell 4,PCZO3.out.cell 5,PCZO3.out.cell 6⟩)
   refine hK.out _ _ ⟨fun _=>hS0,fun _=>hS1,fun _=>hS2,trivial⟩ ?_
   clear hK K
   try simp only [pZa,pZb,pZc,pZd]
   refine headK_two (i:=6) (j:=11) (by kernel_rfl) rfl rfl (fun K hK=>?_) (fun K hK=>?_)
   ·go_simp
    refine (HDo.out _ BZO3.out).mono ?_
    rintro e y ⟨A3,d3,B3,c3,rfl,hs3,hx3,ht3,hc3,hm3,hb⟩
    have HS3:=hZ hs3
    have HC3:=hZ (And.intro hc3 hm3)
    have HX0:=hZ hx3
    have HT0:=hZ ht3
    have HBY:=hZ hb
    have BC:=hZ (chain BZO3.out hb)
    clear hx3 ht3 hs3 hc3 hm3 hb
    have YO:=hZ (Box.keep ZO3.out HBY.out)
    have hS0:=(show (fun (w':World)=>w'.cell? ⟨w.heap.size,0,none⟩=some (.slice (some ⟨b,off,none⟩) ps.length cp)) y from (P4.out.keep BC.out).cell 0)
    refine hK.out _ _ ⟨fun _=>hS0,nZ,nZ,trivial⟩ ?_
    clear hK K
    try simp only [pZa,pZb,pZc,pZd]
    refine headK_take (i:=7) (v:=?_) rfl (by kernel_rfl) (fun _ _ _ h=>h) (fun _ _ _ h=>passed_ready h.1) (Or.inl ⟨by rfl,?y10⟩) ⟨fun _=>hS0,nZ,nZ,trivial⟩ ?r10
    case y10=>intro w _;go_simp;try (with_reducible rfl)
    case r10=>
    try simp only [pZa,pZb,pZc,pZd]
    refine headK_take (i:=8) (v:=?_) rfl (by kernel_rfl) (fun _ _ _ h=>h) (fun _ _ _ h=>passed_ready h.1) (Or.inl ⟨by rfl,?y11⟩) ⟨fun _=>hS0,nZ,nZ,trivial⟩ ?r11
    case y11=>intro w _;go_simp;try (with_reducible rfl)
    case r11=>
    try simp only [pZa,pZb,pZc,pZd]
    refine headK_take (i:=9) (v:=?_) rfl (by kernel_rfl) (fun _ _ _ h=>h) (fun _ _ _ h=>passed_ready h.1) (Or.inl ⟨by rfl,?y12⟩) ⟨fun _=>hS0,nZ,nZ,trivial⟩ ?r12
    case y12=>intro w _;go_simp;try (with_reducible rfl)
    case r12=>
    try simp only [pZa,pZb,pZc,pZd]
    refine headK_one (i:=11) (by kernel_rfl) rfl (fun K hK=>?_)
    go_simp
    have BZR9:=hZ (show Below WW.heap.size WW (y.alloc (.cells #[.int .i64 0,.int .i64 0,.slice none 0 0] 36)) from BC.out.alloc (BC.out).size _)
    have SZR9:=hZ (show Below y.heap.size y (y.alloc (.cells #[.int .i64 0,.int .i64 0,.slice none 0 0] 36)) from (Below.refl y.heap.size y).alloc ((Below.refl y.heap.size y)).size _)
    have ZR9:=hZ (show Box (y.alloc (.cells #[.int .i64 0,.int .i64 0,.slice none 0 0] 36)) (y.heap.size) 36 rZ from Box.new y _ _)
    have KZR9:=hZ (Box.alloc YO.out (.cells #[.int .i64 0,.int .i64 0,.slice none 0 0] 36))
    have hS0:=(show (fun (w':World)=>w'.cell? ⟨w.heap.size,0,none⟩=some (.slice (some ⟨b,off,none⟩) ps.length cp)) (y.alloc (.cells #[.int .i64 0,.int .i64 0,.slice none 0 0] 36)) from (P4.out.keep BZR9.out).cell 0)
    refine hK.out _ _ ⟨fun _=>hS0,nZ,nZ,trivial⟩ ?_
    clear hK K
    try simp only [pZa,pZb,pZc,pZd]
    have KO:=hZ YO.out
    obtain⟨k0,k1,k2,k3,k4,k5⟩:=KO.out.sixO
    have fo0:=KO.out.free 0
    have fo1:=KO.out.free 1
    have fo2:=KO.out.free 2
    have fo3:=KO.out.free 3
    have fo4:=KO.out.free 4
    have fo5:=KO.out.free 5
    have LY:=hZ (show WW.heap.size≤y.heap.size from BC.out.size)
    have LT:=hZ (show WW.heap.size<y.heap.size from YO.out.lt)
    have lt:=LT.out
    refine headK_one (i:=12) (by kernel_rfl) rfl (fun K hK=>?_)
    go_simp
    refine hK.out _ _ ⟨nZ,nZ,nZ,trivial⟩ ?_
    clear hK K
    try simp only [pZa,pZb,pZc,pZd]
    refine headK_one (i:=13) (by kernel_rfl) rfl (fun K hK=>?_)
    go_simp
    refine hK.out _ _ ⟨nZ,nZ,nZ,trivial⟩ ?_
    clear hK K
    try simp only [pZa,pZb,pZc,pZd]
    refine⟨by kernel_rfl,?_⟩
    refine wpAny_done (by kernel_rfl) ?_ _
    go_wp2_with fail
    go_meet
    obtain⟨y1,hy1,f1,f2,f3,f4,f5,f6⟩:=fill6 KO.out (.int .u64 (oo.1:Nat)) (.int .i64 oo.2.1.1) (.int .i64 oo.2.1.2.1) (.int .i64 oo.2.1.2.2.1) (.slice A3 oo.2.1.2.2.2.length d3) (.int .i64 oo.2.2)
    have N2:=Box.new y1 36 #[.int .i64 r1,.int .i64 r2,.slice B3 bl.length c3]
    rw [f6] at N2
    have N3:=(show Below y1.heap.size y1 (y1.alloc (.cells #[.int .i64 r1,.int .i64 r2,.slice B3 bl.length c3] 36)) from (Below.refl _ _).alloc (Nat.le_refl _) _)
    subst hy1
    exact⟨_,_,A3,d3,B3,c3,rfl,rfl,hZ (f1.alloc (.cells #[.int .i64 r1,.int .i64 r2,.slice B3 bl.length c3] 36)),hZ (N2),HS3,hZ (chain (f5 BC.out (show WW.heap.size≤WW.heap.size by omega)) N3),hZ (Recs.below (f3 HX0.out) N3),hZ ((f4 HT0.out).below N3),HC3,hZ (show WW.heap.size≤WW.heap.size∧WW.heap.size≤y.heap.size by have:=LY.out;omega)⟩
   ·go_simp
    have BZR2:=hZ (show Below WW.heap.size WW ((WW.drew.alloc (.cells #[.int .u64 0,.int .i64 0,.int .i64 0,.int .i64 0,.slice none 0 0,.int .i64 0] 27)).alloc (.cells #[.int .i64 0,.int .i64 0,.slice none 0 0] 36)) from BZO3.out.alloc (BZO3.out).size _)
    have ZR2:=hZ (show Box ((WW.drew.alloc (.cells #[.int .u64 0,.int .i64 0,.int .i64 0,.int .i64 0,.slice none 0 0,.int .i64 0] 27)).alloc (.cells #[.int .i64 0,.int .i64 0,.slice none 0 0] 36)) (WW.heap.size+1) 36 rZ from by have q:=Box.new (WW.drew.alloc (.cells #[.int .u64 0,.int .i64 0,.int .i64 0,.int .i64 0,.slice none 0 0,.int .i64 0] 27)) 36 rZ;rw [World.size_alloc] at q;exact q)
    have KZR2:=hZ (Box.alloc ZO3.out (.cells #[.int .i64 0,.int .i64 0,.slice none 0 0] 36))
    have PPZR2:=hZ (P4.out.keep BZR2.out)
    have PCZR2:=hZ (P5.out.keep BZR2.out)
    have hS0:=(show (fun (w':World)=>w'.cell? ⟨w.heap.size,0,none⟩=some (.slice (some ⟨b,off,none⟩) ps.length cp)) ((WW.drew.alloc (.cells #[.int .u64 0,.int .i64 0,.int .i64 0,.int .i64 0,.slice none 0 0,.int .i64 0] 27)).alloc (.cells #[.int .i64 0,.int .i64 0,.slice none 0 0] 36)) from PPZR2.out.cell 0)
    have hS1:=(show (fun (w':World)=>w'.cell? ⟨b,off+i*6,none⟩=some (.int .u64 (p.1.1:Nat))∧w'.cell? ⟨b,off+i*6+1,none⟩=some (.int .i64 p.1.2.1.1)∧w'.cell? ⟨b,off+i*6+2,none⟩=some (.int .i64 p.1.2.1.2.1)∧w'.cell? ⟨b,off+i*6+3,none⟩=some (.int .i64 p.1.2.1.2.2.1)∧w'.cell? ⟨b,off+i*6+4,none⟩=some (.slice p.2.1 p.1.2.1.2.2.2.length p.2.2)∧w'.cell? ⟨b,off+i*6+5,none⟩=some (.int .i64 p.1.2.2)) ((WW.drew.alloc (.cells #[.int .u64 0,.int .i64 0,.int .i64 0,.int .i64 0,.slice none 0 0,.int .i64 0] 27)).alloc (.cells #[.int .i64 0,.int .i64 0,.slice none 0 0] 36)) from ⟨(BZR2.out.cell (p:=⟨b,_,none⟩) HBK.out).trans x0,(BZR2.out.cell (p:=⟨b,_,none⟩) HBK.out).trans x1,(BZR2.out.cell (p:=⟨b,_,none⟩) HBK.out).trans x2,(BZR2.out.cell (p:=⟨b,_,none⟩) HBK.out).trans x3,(BZR2.out.cell (p:=⟨b,_,none⟩) HBK.out).trans x4,(BZR2.out.cell (p:=⟨b,_,none⟩) HBK.out).trans x5⟩)
    have hS2:=(show (fun (w':World)=>w'.cell? ⟨w.heap.size+1,0,none⟩=some (.int .i64 c.1)∧w'.cell? ⟨w.heap.size+1,1,none⟩=some (.int .u64 (c.2.1:Int))∧w'.cell? ⟨w.heap.size+1,2,none⟩=some (.int .i64 c.2.2.1)∧w'.cell? ⟨w.heap.size+1,3,none⟩=some (.int .i64 c.2.2.2.1)∧w'.cell? ⟨w.heap.size+1,4,none⟩=some (.int .i64 c.2.2.2.2.1)∧w'.cell? ⟨w.heap.size+1,5,none⟩=some (.int .u64 (c.2.2.2.2.2.1:Int))∧w'.cell? ⟨w.heap.size+1,6,none⟩=some (.string c.2.2.2.2.2.2)) ((WW.drew.alloc (.cells #[.int .u64 0,.int .i64 0,.int .i64 0,.int .i64 0,.slice none 0 0,.int .i64 0] 27)).alloc (.cells #[.int .i64 0,.int .i64 0,.slice none 0 0] 36)) from ⟨PCZR2.out.cell 0,PCZR2.out.cell 1,PCZR2.out.cell 2,PCZR2.out.cell 3,PCZR2.out.cell 4,PCZR2.out.cell 5,PCZR2.out.cell 6⟩)
    refine hK.out _ _ ⟨fun _=>hS0,fun _=>hS1,fun _=>hS2,trivial⟩ ?_
    clear hK K
    try simp only [pZa,pZb,pZc,pZd]
    refine headK_one (i:=6) (by kernel_rfl) rfl (fun K hK=>?_)
    go_simp
    refine (HDo.out _ BZR2.out).mono ?_
    rintro e y ⟨A3,d3,B3,c3,rfl,hs3,hx3,ht3,hc3,hm3,hb⟩
    have HS3:=hZ hs3
    have HC3:=hZ (And.intro hc3 hm3)
    have HX0:=hZ hx3
    have HT0:=hZ ht3
    have HBY:=hZ hb
    have BC:=hZ (chain BZR2.out hb)
    clear hx3 ht3 hs3 hc3 hm3 hb
    have YO:=hZ (Box.keep KZR2.out HBY.out)
    have YR:=hZ (Box.keep ZR2.out HBY.out)
    have hS0:=(show (fun (w':World)=>w'.cell? ⟨w.heap.size,0,none⟩=some (.slice (some ⟨b,off,none⟩) ps.length cp)) y from (P4.out.keep BC.out).cell 0)
    refine hK.out _ _ ⟨fun _=>hS0,nZ,nZ,trivial⟩ ?_
    clear hK K
    try simp only [pZa,pZb,pZc,pZd]
    refine headK_take (i:=7) (v:=?_) rfl (by kernel_rfl) (fun _ _ _ h=>h) (fun _ _ _ h=>passed_ready h.1) (Or.inl ⟨by rfl,?y13⟩) ⟨fun _=>hS0,nZ,nZ,trivial⟩ ?r13
    case y13=>intro w _;go_simp;try (with_reducible rfl)
    case r13=>
    try simp only [pZa,pZb,pZc,pZd]
    refine headK_take (i:=8) (v:=?_) rfl (by kernel_rfl) (fun _ _ _ h=>h) (fun _ _ _ h=>passed_ready h.1) (Or.inl ⟨by rfl,?y14⟩) ⟨fun _=>hS0,nZ,nZ,trivial⟩ ?r14
    case y14=>intro w _;go_simp;try (with_reducible rfl)
    case r14=>
    try simp only [pZa,pZb,pZc,pZd]
    refine headK_take (i:=9) (v:=?_) rfl (by kernel_rfl) (fun _ _ _ h=>h) (fun _ _ _ h=>passed_ready h.1) (Or.inl ⟨by rfl,?y15⟩) ⟨fun _=>hS0,nZ,nZ,trivial⟩ ?r15
    case y15=>intro w _;go_simp;try (with_reducible rfl)
    case r15=>
    try simp only [pZa,pZb,pZc,pZd]
    have KO:=hZ YO.out
    obtain⟨k0,k1,k2,k3,k4,k5⟩:=KO.out.sixO
    have fo0:=KO.out.free 0
    have fo1:=KO.out.free 1
    have fo2:=KO.out.free 2
    have fo3:=KO.out.free 3
    have fo4:=KO.out.free 4
    have fo5:=KO.out.free 5
    have KR:=hZ YR.out
    obtain⟨l0,l1,l2⟩:=KR.out.threeO
    have fr0:=KR.out.free 0
    have fr1:=KR.out.free 1
    have fr2:=KR.out.free 2
    have LY:=hZ (show WW.heap.size≤y.heap.size from BC.out.size)
    refine headK_one (i:=12) (by kernel_rfl) rfl (fun K hK=>?_)
    go_simp
    refine hK.out _ _ ⟨nZ,nZ,nZ,trivial⟩ ?_
    clear hK K
    try simp only [pZa,pZb,pZc,pZd]
    refine headK_one (i:=13) (by kernel_rfl) rfl (fun K hK=>?_)
    go_simp
    refine hK.out _ _ ⟨nZ,nZ,nZ,trivial⟩ ?_
    clear hK K
    try simp only [pZa,pZb,pZc,pZd]
    refine⟨by kernel_rfl,?_⟩
    refine wpAny_done (by kernel_rfl) ?_ _
    go_wp2_with fail
    go_meet
    obtain⟨y1,rfl,f1,f2,f3,f4,f5,-⟩:=fill6 KO.out (.int .u64 (oo.1:Nat)) (.int .i64 oo.2.1.1) (.int .i64 oo.2.1.2.1) (.int .i64 oo.2.1.2.2.1) (.slice A3 oo.2.1.2.2.2.length d3) (.int .i64 oo.2.2)
    obtain⟨y2,rfl,e1,e2,e3,e4,e5,-⟩:=fill3 (f2 (show WW.heap.size+1≠WW.heap.size by omega) KR.out) (.int .i64 r1) (.int .i64 r2) (.slice B3 bl.length c3)
    exact⟨_,_,A3,d3,B3,c3,rfl,rfl,hZ (e2 (show WW.heap.size≠WW.heap.size+1 by omega) f1),hZ (e1),HS3,hZ (e5 (f5 BC.out (show WW.heap.size≤WW.heap.size by omega)) (show WW.heap.size≤WW.heap.size+1 by omega)),hZ (e3 (f3 HX0.out)),hZ (e4 (f4 HT0.out)),HC3,hZ (show WW.heap.size≤WW.heap.size∧WW.heap.size≤WW.heap.size+1 by have:=LY.out;omega)⟩
  ·go_simp
   have BZR3:=hZ (show Below WW.heap.size WW (WW.drew.alloc (.cells #[.int .i64 0,.int .i64 0,.slice none 0 0] 36)) from (Below.refl WW.heap.size WW).drew.alloc ((Below.refl WW.heap.size WW).drew).size _)
   have ZR3:=hZ (show Box (WW.drew.alloc (.cells #[.int .i64 0,.int .i64 0,.slice none 0 0] 36)) (WW.heap.size) 36 rZ from Box.new WW.drew _ _)
   have PPZR3:=hZ (P4.out.keep BZR3.out)
   have PCZR3:=hZ (P5.out.keep BZR3.out)
   have hS0:=(show (fun (w':World)=>w'.cell? ⟨w.heap.size,0,none⟩=some (.slice (some ⟨b,off,none⟩) ps.length cp)) (WW.drew.alloc (.cells #[.int .i64 0,.int .i64 0,.slice none 0 0] 36)) from PPZR3.out.cell 0)
   have hS1:=(show (fun (w':World)=>w'.cell? ⟨b,off+i*6,none⟩=some (.int .u64 (p.1.1:Nat))∧w'.cell? ⟨b,off+i*6+1,none⟩=some (.int .i64 p.1.2.1.1)∧w'.cell? ⟨b,off+i*6+2,none⟩=some (.int .i64 p.1.2.1.2.1)∧w'.cell? ⟨b,off+i*6+3,none⟩=some (.int .i64 p.1.2.1.2.2.1)∧w'.cell? ⟨b,off+i*6+4,none⟩=some (.slice p.2.1 p.1.2.1.2.2.2.length p.2.2)∧w'.cell? ⟨b,off+i*6+5,none⟩=some (.int .i64 p.1.2.2)) (WW.drew.alloc (.cells #[.int .i64 0,.int .i64 0,.slice none 0 0] 36)) from ⟨(BZR3.out.cell (p:=⟨b,_,none⟩) HBK.out).trans x0,(BZR3.out.cell (p:=⟨b,_,none⟩) HBK.out).trans x1,(BZR3.out.cell (p:=⟨b,_,none⟩) HBK.out).trans x2,(BZR3.out.cell (p:=⟨b,_,none⟩) HBK.out).trans x3,(BZR3.out.cell (p:=⟨b,_,none⟩) HBK.out).trans x4,(BZR3.out.cell (p:=⟨b,_,none⟩) HBK.out).trans x5⟩)
   have hS2:=(show (fun (w':World)=>w'.cell? ⟨w.heap.size+1,0,none⟩=some (.int .i64 c.1)∧w'.cell? ⟨w.heap.size+1,1,none⟩=some (.int .u64 (c.2.1:Int))∧w'.cell? ⟨w.heap.size+1,2,none⟩=some (.int .i64 c.2.2.1)∧w'.cell? ⟨w.heap.size+1,3,none⟩=some (.int .i64 c.2.2.2.1)∧w'.cell? ⟨w.heap.size+1,4,none⟩=some (.int .i64 c.2.2.2.2.1)∧w'.cell? ⟨w.heap.size+1,5,none⟩=some (.int .u64 (c.2.2.2.2.2.1:Int))∧w'.cell? ⟨w.heap.size+1,6,none⟩=some (.string c.2.2.2.2.2.2)) (WW.drew.alloc (.cells #[.int .i64 0,.int .i64 0,.slice none 0 0] 36)) from ⟨PCZR3.out.cell 0,PCZR3.out.cell 1,PCZR3.out.cell 2,PCZR3.out.cell 3,PCZR3.out.cell 4,PCZR3.out.cell 5,PCZR3.out.cell 6⟩)
   refine hK.out _ _ ⟨fun _=>hS0,fun _=>hS1,fun _=>hS2,trivial⟩ ?_
   clear hK K
   try simp only [pZa,pZb,pZc,pZd]
   refine headK_two (i:=6) (j:=10) (by kernel_rfl) rfl rfl (fun K hK=>?_) (fun K hK=>?_)
   ·go_simp
    refine (HDo.out _ BZR3.out).mono ?_
    rintro e y ⟨A3,d3,B3,c3,rfl,hs3,hx3,ht3,hc3,hm3,hb⟩
    have HS3:=hZ hs3
    have HC3:=hZ (And.intro hc3 hm3)
    have HX0:=hZ hx3
    have HT0:=hZ ht3
    have HBY:=hZ hb
    have BC:=hZ (chain BZR3.out hb)
    clear hx3 ht3 hs3 hc3 hm3 hb
    have YR:=hZ (Box.keep ZR3.out HBY.out)
    have hS0:=(show (fun (w':World)=>w'.cell? ⟨w.heap.size,0,none⟩=some (.slice (some ⟨b,off,none⟩) ps.length cp)) y from (P4.out.keep BC.out).cell 0)
    refine hK.out _ _ ⟨fun _=>hS0,nZ,nZ,trivial⟩ ?_
    clear hK K
    try simp only [pZa,pZb,pZc,pZd]
    refine headK_take (i:=7) (v:=?_) rfl (by kernel_rfl) (fun _ _ _ h=>h) (fun _ _ _ h=>passed_ready h.1) (Or.inl ⟨by rfl,?y16⟩) ⟨fun _=>hS0,nZ,nZ,trivial⟩ ?r16
    case y16=>intro w _;go_simp;try (with_reducible rfl)
    case r16=>
    try simp only [pZa,pZb,pZc,pZd]
    refine headK_take (i:=8) (v:=?_) rfl (by kernel_rfl) (fun _ _ _ h=>h) (fun _ _ _ h=>passed_ready h.1) (Or.inl ⟨by rfl,?y17⟩) ⟨fun _=>hS0,nZ,nZ,trivial⟩ ?r17
    case y17=>intro w _;go_simp;try (with_reducible rfl)
    case r17=>
    try simp only [pZa,pZb,pZc,pZd]
    refine headK_take (i:=9) (v:=?_) rfl (by kernel_rfl) (fun _ _ _ h=>h) (fun _ _ _ h=>passed_ready h.1) (Or.inl ⟨by rfl,?y18⟩) ⟨fun _=>hS0,nZ,nZ,trivial⟩ ?r18
    case y18=>intro w _;go_simp;try (with_reducible rfl)
    case r18=>
    try simp only [pZa,pZb,pZc,pZd]
    refine headK_one (i:=10) (by kernel_rfl) rfl (fun K hK=>?_)
    go_simp
    have BZO9:=hZ (show Below WW.heap.size WW (y.alloc (.cells #[.int .u64 0,.int .i64 0,.int .i64 0,.int .i64 0,.slice none 0 0,.int .i64 0] 27)) from BC.out.alloc (BC.out).size _)
    have SZO9:=hZ (show Below y.heap.size y (y.alloc (.cells #[.int .u64 0,.int .i64 0,.int .i64 0,.int .i64 0,.slice none 0 0,.int .i64 0] 27)) from (Below.refl y.heap.size y).alloc ((Below.refl y.heap.size y)).size _)
    have ZO9:=hZ (show Box (y.alloc (.cells #[.int .u64 0,.int .i64 0,.int .i64 0,.int .i64 0,.slice none 0 0,.int .i64 0] 27)) (y.heap.size) 27 oZ from Box.new y _ _)
    have KZO9:=hZ (Box.alloc YR.out (.cells #[.int .u64 0,.int .i64 0,.int .i64 0,.int .i64 0,.slice none 0 0,.int .i64 0] 27))
    have hS0:=(show (fun (w':World)=>w'.cell? ⟨w.heap.size,0,none⟩=some (.slice (some ⟨b,off,none⟩) ps.length cp)) (y.alloc (.cells #[.int .u64 0,.int .i64 0,.int .i64 0,.int .i64 0,.slice none 0 0,.int .i64 0] 27)) from (P4.out.keep BZO9.out).cell 0)
    refine hK.out _ _ ⟨fun _=>hS0,nZ,nZ,trivial⟩ ?_
    clear hK K
    try simp only [pZa,pZb,pZc,pZd]
    have KR:=hZ YR.out
    obtain⟨l0,l1,l2⟩:=KR.out.threeO
    have fr0:=KR.out.free 0
    have fr1:=KR.out.free 1
    have fr2:=KR.out.free 2
    have LY:=hZ (show WW.heap.size≤y.heap.size from BC.out.size)
    have LT:=hZ (show WW.heap.size<y.heap.size from YR.out.lt)
    have lt:=LT.out
    refine headK_one (i:=12) (by kernel_rfl) rfl (fun K hK=>?_)
    go_simp
    refine hK.out _ _ ⟨nZ,nZ,nZ,trivial⟩ ?_
    clear hK K
    try simp only [pZa,pZb,pZc,pZd]
    refine headK_one (i:=13) (by kernel_rfl) rfl (fun K hK=>?_)
    go_simp
    refine hK.out _ _ ⟨nZ,nZ,nZ,trivial⟩ ?_
    clear hK K
    try simp only [pZa,pZb,pZc,pZd]
    refine⟨by kernel_rfl,?_⟩
    refine wpAny_done (by kernel_rfl) ?_ _
    go_wp2_with fail
    go_meet
    obtain⟨y1,hy1,f1,f2,f3,f4,f5,f6⟩:=fill3 KR.out (.int .i64 r1) (.int .i64 r2) (.slice B3 bl.length c3)
    have N2:=Box.new y1 27 (obA oo A3 d3)
    rw [f6] at N2
    have N3:=(show Below y1.heap.size y1 (y1.alloc (.cells (obA oo A3 d3) 27)) from (Below.refl _ _).alloc (Nat.le_refl _) _)
    subst hy1
    exact⟨_,_,A3,d3,B3,c3,rfl,rfl,hZ (N2),hZ (f1.alloc (.cells (obA oo A3 d3) 27)),HS3,hZ (chain (f5 BC.out (show WW.heap.size≤WW.heap.size by omega)) N3),hZ (Recs.below (f3 HX0.out) N3),hZ ((f4 HT0.out).below N3),HC3,hZ (show WW.heap.size≤y.heap.size∧WW.heap.size≤WW.heap.size by have:=LY.out;omega)⟩
   ·go_simp
    have BZO2:=hZ (show Below WW.heap.size WW ((WW.drew.alloc (.cells #[.int .i64 0,.int .i64 0,.slice none 0 0] 36)).alloc (.cells #[.int .u64 0,.int .i64 0,.int .i64 0,.int .i64 0,.slice none 0 0,.int .i64 0] 27)) from BZR3.out.alloc (BZR3.out).size _)
    have ZO2:=hZ (show Box ((WW.drew.alloc (.cells #[.int .i64 0,.int .i64 0,.slice none 0 0] 36)).alloc (.cells #[.int .u64 0,.int .i64 0,.int .i64 0,.int .i64 0,.slice none 0 0,.int .i64 0] 27)) (WW.heap.size+1) 27 oZ from by have q:=Box.new (WW.drew.alloc (.cells #[.int .i64 0,.int .i64 0,.slice none 0 0] 36)) 27 oZ;rw [World.size_alloc] at q;exact q)
    have KZO2:=hZ (Box.alloc ZR3.out (.cells #[.int .u64 0,.int .i64 0,.int .i64 0,.int .i64 0,.slice none 0 0,.int .i64 0] 27))
    have PPZO2:=hZ (P4.out.keep BZO2.out)
    have PCZO2:=hZ (P5.out.keep BZO2.out)
    have hS0:=(show (fun (w':World)=>w'.cell? ⟨w.heap.size,0,none⟩=some (.slice (some ⟨b,off,none⟩) ps.length cp)) ((WW.drew.alloc (.cells #[.int .i64 0,.int .i64 0,.slice none 0 0] 36)).alloc (.cells #[.int .u64 0,.int .i64 0,.int .i64 0,.int .i64 0,.slice none 0 0,.int .i64 0] 27)) from PPZO2.out.cell 0)
    have hS1:=(show (fun (w':World)=>w'.cell? ⟨b,off+i*6,none⟩=some (.int .u64 (p.1.1:Nat))∧w'.cell? ⟨b,off+i*6+1,none⟩=some (.int .i64 p.1.2.1.1)∧w'.cell? ⟨b,off+i*6+2,none⟩=some (.int .i64 p.1.2.1.2.1)∧w'.cell? ⟨b,off+i*6+3,none⟩=some (.int .i64 p.1.2.1.2.2.1)∧w'.cell? ⟨b,off+i*6+4,none⟩=some (.slice p.2.1 p.1.2.1.2.2.2.length p.2.2)∧w'.cell? ⟨b,off+i*6+5,none⟩=some (.int .i64 p.1.2.2)) ((WW.drew.alloc (.cells #[.int .i64 0,.int .i64 0,.slice none 0 0] 36)).alloc (.cells #[.int .u64 0,.int .i64 0,.int .i64 0,.int .i64 0,.slice none 0 0,.int .i64 0] 27)) from ⟨(BZO2.out.cell (p:=⟨b,_,none⟩) HBK.out).trans x0,(BZO2.out.cell (p:=⟨b,_,none⟩) HBK.out).trans x1,(BZO2.out.cell (p:=⟨b,_,none⟩) HBK.out).trans x2,(BZO2.out.cell (p:=⟨b,_,none⟩) HBK.out).trans x3,(BZO2.out.cell (p:=⟨b,_,none⟩) HBK.out).trans x4,(BZO2.out.cell (p:=⟨b,_,none⟩) HBK.out).trans x5⟩)
    have hS2:=(show (fun (w':World)=>w'.cell? ⟨w.heap.size+1,0,none⟩=some (.int .i64 c.1)∧w'.cell? ⟨w.heap.size+1,1,none⟩=some (.int .u64 (c.2.1:Int))∧w'.cell? ⟨w.heap.size+1,2,none⟩=some (.int .i64 c.2.2.1)∧w'.cell? ⟨w.heap.size+1,3,none⟩=some (.int .i64 c.2.2.2.1)∧w'.cell? ⟨w.heap.size+1,4,none⟩=some (.int .i64 c.2.2.2.2.1)∧w'.cell? ⟨w.heap.size+1,5,none⟩=some (.int .u64 (c.2.2.2.2.2.1:Int))∧w'.cell? ⟨w.heap.size+1,6,none⟩=some (.string c.2.2.2.2.2.2)) ((WW.drew.alloc (.cells #[.int .i64 0,.int .i64 0,.slice none 0 0] 36)).alloc (.cells #[.int .u64 0,.int .i64 0,.int .i64 0,.int .i64 0,.slice none 0 0,.int .i64 0] 27)) from ⟨PCZO2.out.cell 0,PCZO2.out.cell 1,PCZO2.out.cell 2,PCZO2.out.cell 3,PCZO2.out.cell 4,PCZO2.out.cell 5,PCZO2.out.cell 6⟩)
    refine hK.out _ _ ⟨fun _=>hS0,fun _=>hS1,fun _=>hS2,trivial⟩ ?_
    clear hK K
    try simp only [pZa,pZb,pZc,pZd]
    refine headK_one (i:=6) (by kernel_rfl) rfl (fun K hK=>?_)
    go_simp
    refine (HDo.out _ BZO2.out).mono ?_
    rintro e y ⟨A3,d3,B3,c3,rfl,hs3,hx3,ht3,hc3,hm3,hb⟩
    have HS3:=hZ hs3
    have HC3:=hZ (And.intro hc3 hm3)
    have HX0:=hZ hx3
    have HT0:=hZ ht3
    have HBY:=hZ hb
    have BC:=hZ (chain BZO2.out hb)
    clear hx3 ht3 hs3 hc3 hm3 hb
    have YO:=hZ (Box.keep ZO2.out HBY.out)
    have YR:=hZ (Box.keep KZO2.out HBY.out)
    have hS0:=(show (fun (w':World)=>w'.cell? ⟨w.heap.size,0,none⟩=some (.slice (some ⟨b,off,none⟩) ps.length cp)) y from (P4.out.keep BC.out).cell 0)
    refine hK.out _ _ ⟨fun _=>hS0,nZ,nZ,trivial⟩ ?_
    clear hK K
    try simp only [pZa,pZb,pZc,pZd]
    refine headK_take (i:=7) (v:=?_) rfl (by kernel_rfl) (fun _ _ _ h=>h) (fun _ _ _ h=>passed_ready h.1) (Or.inl ⟨by rfl,?y19⟩) ⟨fun _=>hS0,nZ,nZ,trivial⟩ ?r19
    case y19=>intro w _;go_simp;try (with_reducible rfl)
    case r19=>
    try simp only [pZa,pZb,pZc,pZd]
    refine headK_take (i:=8) (v:=?_) rfl (by kernel_rfl) (fun _ _ _ h=>h) (fun _ _ _ h=>passed_ready h.1) (Or.inl ⟨by rfl,?y20⟩) ⟨fun _=>hS0,nZ,nZ,trivial⟩ ?r20
    case y20=>intro w _;go_simp;try (with_reducible rfl)
    case r20=>
    try simp only [pZa,pZb,pZc,pZd]
    refine headK_take (i:=9) (v:=?_) rfl (by kernel_rfl) (fun _ _ _ h=>h) (fun _ _ _ h=>passed_ready h.1) (Or.inl ⟨by rfl,?y21⟩) ⟨fun _=>hS0,nZ,nZ,trivial⟩ ?r21
    case y21=>intro w _;go_simp;try (with_reducible rfl)
    case r21=>
    try simp only [pZa,pZb,pZc,pZd]
    have KO:=hZ YO.out
    obtain⟨k0,k1,k2,k3,k4,k5⟩:=KO.out.sixO
    have fo0:=KO.out.free 0
    have fo1:=KO.out.free 1
    have fo2:=KO.out.free 2
    have fo3:=KO.out.free 3
    have fo4:=KO.out.free 4
    have fo5:=KO.out.free 5
    have KR:=hZ YR.out
    obtain⟨l0,l1,l2⟩:=KR.out.threeO
    have fr0:=KR.out.free 0
    have fr1:=KR.out.free 1
    have fr2:=KR.out.free 2
    have LY:=hZ (show WW.heap.size≤y.heap.size from BC.out.size)
    refine headK_one (i:=12) (by kernel_rfl) rfl (fun K hK=>?_)
    go_simp
    refine hK.out _ _ ⟨nZ,nZ,nZ,trivial⟩ ?_
    clear hK K
    try simp only [pZa,pZb,pZc,pZd]
    refine headK_one (i:=13) (by kernel_rfl) rfl (fun K hK=>?_)
    go_simp
    refine hK.out _ _ ⟨nZ,nZ,nZ,trivial⟩ ?_
    clear hK K
    try simp only [pZa,pZb,pZc,pZd]
    refine⟨by kernel_rfl,?_⟩
    refine wpAny_done (by kernel_rfl) ?_ _
    go_wp2_with fail
    go_meet
    obtain⟨y1,rfl,f1,f2,f3,f4,f5,-⟩:=fill6 KO.out (.int .u64 (oo.1:Nat)) (.int .i64 oo.2.1.1) (.int .i64 oo.2.1.2.1) (.int .i64 oo.2.1.2.2.1) (.slice A3 oo.2.1.2.2.2.length d3) (.int .i64 oo.2.2)
    obtain⟨y2,rfl,e1,e2,e3,e4,e5,-⟩:=fill3 (f2 (show WW.heap.size≠WW.heap.size+1 by omega) KR.out) (.int .i64 r1) (.int .i64 r2) (.slice B3 bl.length c3)
    exact⟨_,_,A3,d3,B3,c3,rfl,rfl,hZ (e2 (show WW.heap.size+1≠WW.heap.size by omega) f1),hZ (e1),HS3,hZ (e5 (f5 BC.out (show WW.heap.size≤WW.heap.size+1 by omega)) (show WW.heap.size≤WW.heap.size by omega)),hZ (e3 (f3 HX0.out)),hZ (e4 (f4 HT0.out)),HC3,hZ (show WW.heap.size≤WW.heap.size+1∧WW.heap.size≤WW.heap.size by have:=LY.out;omega)⟩
 case rest=>
  obtain⟨wv,rfl⟩:∃ x:World,x=wc:=⟨_,rfl⟩
  obtain⟨g10,g11,A3,d3,B3,c3,rfl,rfl,PO,PR,HS3,HBw,HX3,HT,HC3,HGt⟩:=hcut
  replace P4:=hZ (P4.out.keep HBw.out)
  have P8:=hZ (Q8.out.keep HBw.out)
  have P9:=hZ (Q9.out.keep HBw.out)
  have HBv:=hZ (chain HB.out HBw.out)
  have HGG:=hZ (show w.heap.size+1+1<g10∧w.heap.size+1+1<g11∧w.heap.size+1+1+1<g11 from by have h1:=Q9.out.lt;have h2:=HGt.out;omega)
  have hgg:=HGG.out
  replace HX:=hZ (Recs.below HX.out HBw.out)
  replace HD:=hZ (OkDs.below HD.out HBw.out)
  clear HBK HDo r0 v0 v1 v2 v3 v4 v5 v6 x0 x1 x2 x3 x4 x5 P5 Q4 Q5
  have r0:=P4.out.cell 0
  obtain⟨u0,u1,u2⟩:=PR.out.threeO
  by_cases hw:r1=0
  ·subst hw
   have HWi:=hZ (fun (A3:Option Addr) (d3:Nat)=>HSet.out (oo,(A3,d3)) HId.out)
   have HW:=hZ (fun wy hy=>HWth.out (oo,(A3,d3)) wv wy HBv.out hy)
   have HOk:=hZ (fun (y:World) (hy:Below wv.heap.size wv y)=>show OkDs y (ps.set i (oo,(A3,d3))) from okds_mem fun p hp=>by
    rcases List.mem_or_eq_of_mem_set hp with h | h
    ·exact (okds_of HD.out p h).below hy
    ·rw [h];exact⟨HS3.out,Recs.below HX3.out hy⟩)
   clear HSet HWth HBw Q8 Q9 HB HX HD HId
   obtain⟨p0,p1,p2,p3,p4,p5⟩:=PO.out.sixO
   go_upto_region 4 with (fail)
   refine wp_heldK_bar [(4,(fun (w':World)=>w'.cell? ⟨w.heap.size,0,none⟩=some (.slice (some ⟨b,off,none⟩) ps.length cp))),(4,(fun (w':World)=>w'.cell? ⟨g10,0,none⟩=some (.int .u64 (oo.1:Nat))∧w'.cell? ⟨g10,1,none⟩=some (.int .i64 oo.2.1.1)∧w'.cell? ⟨g10,2,none⟩=some (.int .i64 oo.2.1.2.1)∧w'.cell? ⟨g10,3,none⟩=some (.int .i64 oo.2.1.2.2.1)∧w'.cell? ⟨g10,4,none⟩=some (.slice A3 oo.2.1.2.2.2.length d3)∧w'.cell? ⟨g10,5,none⟩=some (.int .i64 oo.2.2))),(8,(fun (w':World)=>w'.cell? ⟨g11,0,none⟩=some (.int .i64 0)∧w'.cell? ⟨g11,1,none⟩=some (.int .i64 r2)∧w'.cell? ⟨g11,2,none⟩=some (.slice B3 bl.length c3)))] 9 (by kernel_rfl) (by decide) ?_
   have hS0:=(show (fun (w':World)=>w'.cell? ⟨w.heap.size,0,none⟩=some (.slice (some ⟨b,off,none⟩) ps.length cp)) wv.drew from P4.out.drew.cell 0)
   have hS1:=(show (fun (w':World)=>w'.cell? ⟨g10,0,none⟩=some (.int .u64 (oo.1:Nat))∧w'.cell? ⟨g10,1,none⟩=some (.int .i64 oo.2.1.1)∧w'.cell? ⟨g10,2,none⟩=some (.int .i64 oo.2.1.2.1)∧w'.cell? ⟨g10,3,none⟩=some (.int .i64 oo.2.1.2.2.1)∧w'.cell? ⟨g10,4,none⟩=some (.slice A3 oo.2.1.2.2.2.length d3)∧w'.cell? ⟨g10,5,none⟩=some (.int .i64 oo.2.2)) wv.drew from ⟨PO.out.drew.cell 0,PO.out.drew.cell 1,PO.out.drew.cell 2,PO.out.drew.cell 3,PO.out.drew.cell 4,PO.out.drew.cell 5⟩)
   have hS2:=(show (fun (w':World)=>w'.cell? ⟨g11,0,none⟩=some (.int .i64 0)∧w'.cell? ⟨g11,1,none⟩=some (.int .i64 r2)∧w'.cell? ⟨g11,2,none⟩=some (.slice B3 bl.length c3)) wv.drew from ⟨PR.out.drew.cell 0,PR.out.drew.cell 1,PR.out.drew.cell 2⟩)
   refine headK_take (i:=0) (v:=?_) rfl (by kernel_rfl) (fun _ _ _ h=>h) (fun _ _ _ h=>passed_ready h.1) (Or.inl ⟨by rfl,?y22⟩) ⟨fun _=>hS0,fun _=>hS1,fun _=>hS2,trivial⟩ ?r22
   case y22=>intro w _;go_simp;try (with_reducible rfl)
   case r22=>
   try simp only [pZa,pZb,pZc,pZd]
   refine headK_load 0 4 _ rfl (i:=1) (v:=?_) rfl (by kernel_rfl) (fun _ _ _ h=>h) (fun _ _ _ h=>passed_ready h.1) (Or.inl ⟨by rfl,?y23⟩) ⟨fun _=>hS0,fun _=>hS1,fun _=>hS2,trivial⟩ ?r23
   case y23=>intro w hSw;(try dsimp only at hSw);go_simp;try (with_reducible rfl)
   case r23=>
   try simp only [pZa,pZb,pZc,pZd]
   refine headK_take (i:=2) (v:=?_) rfl (by kernel_rfl) (fun _ _ _ h=>h) (fun _ _ _ h=>passed_ready h.1) (Or.inl ⟨by rfl,?y24⟩) ⟨fun _=>hS0,fun _=>hS1,fun _=>hS2,trivial⟩ ?r24
   case y24=>intro w _;go_simp;try (with_reducible rfl)
   case r24=>
   try simp only [pZa,pZb,pZc,pZd]
   refine headK_load 1 4 _ rfl (i:=3) (v:=?_) rfl (by kernel_rfl) (fun _ _ _ h=>h) (fun _ _ _ h=>passed_ready h.1) (Or.inl ⟨by rfl,?y25⟩) ⟨fun _=>hS0,fun _=>hS1,fun _=>hS2,trivial⟩ ?r25
   case y25=>intro w hSw;(try dsimp only at hSw);obtain⟨hc0,hc1,hc2,hc3,hc4,hc5⟩:=hSw;go_simp;try (with_reducible rfl)
   case r25=>
   try simp only [pZa,pZb,pZc,pZd]
   refine headK_load 2 8 _ rfl (i:=6) (v:=?_) rfl (by kernel_rfl) (fun _ _ _ h=>h) (fun _ _ _ h=>passed_ready h.1) (Or.inl ⟨by rfl,?y26⟩) ⟨fun _=>hS0,fun _=>hS1,fun _=>hS2,trivial⟩ ?r26
   case y26=>intro w hSw;(try dsimp only at hSw);obtain⟨hc0,hc1,hc2⟩:=hSw;go_simp;try (with_reducible rfl)
   case r26=>
   try simp only [pZa,pZb,pZc,pZd]
   refine headK_one (i:=4) (by kernel_rfl) rfl (fun K hK=>?_)
   go_simp
   refine (HW.out _ (show Below wv.heap.size wv wv.drew from (Below.refl _ _).drew)).mono ?_
   rintro e y ⟨A9,c9,rfl,hs9,hx9,hb⟩
   have BY:=hZ (show Below wv.heap.size wv y from chain ((Below.refl _ _).drew) hb)
   have HX9:=hZ hx9
   have HS9:=hZ hs9
   have R8:=hZ (P8.out.keep BY.out)
   have R9:=hZ (P9.out.keep BY.out)
   have RR:=hZ (PR.out.keep BY.out)
   clear hb hx9 hs9
   have f8:=R8.out.free 0
   have s8:=R8.out.cell 0
   have f90:=R9.out.free 0
   have f91:=R9.out.free 1
   have f92:=R9.out.free 2
   obtain⟨t0,t1,t2⟩:=R9.out.threeO
   have hS2:=(show (fun (w':World)=>w'.cell? ⟨g11,0,none⟩=some (.int .i64 0)∧w'.cell? ⟨g11,1,none⟩=some (.int .i64 r2)∧w'.cell? ⟨g11,2,none⟩=some (.slice B3 bl.length c3)) y from ⟨RR.out.cell 0,RR.out.cell 1,RR.out.cell 2⟩)
   refine hK.out _ _ ⟨nZ,nZ,fun _=>hS2,trivial⟩ ?_
   clear hK K
   try simp only [pZa,pZb,pZc,pZd]
   refine headK_take (i:=5) (v:=?_) rfl (by kernel_rfl) (fun _ _ _ h=>h) (fun _ _ _ h=>passed_ready h.1) (Or.inl ⟨by rfl,?y27⟩) ⟨nZ,nZ,fun _=>hS2,trivial⟩ ?r27
   case y27=>intro w _;go_simp;try (with_reducible rfl)
   case r27=>
   try simp only [pZa,pZb,pZc,pZd]
   refine headK_one (i:=7) (by kernel_rfl) rfl (fun K hK=>?_)
   go_simp
   have RQ:=hZ (RR.out.far (p:=⟨w.heap.size+1+1,0,none⟩) (by have:=HGG.out.2;show g11≠w.heap.size+1+1;omega) (.slice A9 ps.length c9))
   have hS2:=(show (fun (w':World)=>w'.cell? ⟨g11,0,none⟩=some (.int .i64 0)∧w'.cell? ⟨g11,1,none⟩=some (.int .i64 r2)∧w'.cell? ⟨g11,2,none⟩=some (.slice B3 bl.length c3)) (y.setCell ⟨w.heap.size+1+1,0,none⟩ (.slice A9 ps.length c9)) from ⟨RQ.out.cell 0,RQ.out.cell 1,RQ.out.cell 2⟩)
   refine hK.out _ _ ⟨nZ,nZ,fun _=>hS2,trivial⟩ ?_
   clear hK K
   try simp only [pZa,pZb,pZc,pZd]
   refine headK_one (i:=8) (by kernel_rfl) rfl (fun K hK=>?_)
   go_simp
   refine hK.out _ _ ⟨nZ,nZ,nZ,trivial⟩ ?_
   clear hK K
   try simp only [pZa,pZb,pZc,pZd]
   refine⟨by kernel_rfl,?_⟩
   refine wpAny_done (by kernel_rfl) ?_ _
   go_wp2_with fail
   have hok:=HOk.out y BY.out
   have hbl:=HT.out.below BY.out
   obtain⟨z,hz,z1,z2,z3,z4,z5,z6⟩:=rc_store (B:=w.heap.size) (r:=((0,r2,bl):ReplyR)) (d:=c9) (e:=c3) (HBv.out.trans (BY.out.mono HBv.out.size)) R8.out R9.out (by omega) (by omega) (by omega) HX9.out hok hbl
   rw [List.length_set] at hz z1
   subst hz
   refine close_two Tryz.results40 rfl rfl rfl z1 z2 Tryz.underlying48 Tryz.underlying36 rfl rfl (by kernel_rfl) (by kernel_rfl) ?_
   rw [HRes.out,if_pos trivial]
   exact⟨ps.set i (oo,(A3,d3)),HWi.out A3 d3,A9,c9,B3,c3,by rw [List.length_set],HS9.out,z3,z4,z5,HC3.out.1,HC3.out.2,z6⟩
  ·have t9:(r1 != 0)=true:=by simpa using hw
   have HN:=hZ hw
   clear hw
   replace Q8:=P8
   replace Q9:=P9
   replace HB:=HBv
   clear P8 P9 HBv HBw HSet HWth HId HS3 HX3 HT HC3
   go_wp2_with fail
   refine (rrefused_any (some ⟨b,off,none⟩) cp ps r1 _ HSo.out HX.out HD.out).mono ?_
   rintro e y ⟨A2,d2,B2,c2,rfl,hs2,hx2,hd2,ht2,hc2,hm2,hb⟩
   have HX2:=hZ hx2
   have HD2:=hZ hd2
   have HT2:=hZ ht2
   have P8:=hZ (Q8.out.keep hb)
   have P9:=hZ (Q9.out.keep hb)
   have HB2:=hZ (chain HB.out hb)
   clear hb hx2 hd2 ht2 r0 u0 u1 u2 PR PO P4
   have f8:=P8.out.free 0
   have s8:=P8.out.cell 0
   have f90:=P9.out.free 0
   have f91:=P9.out.free 1
   have f92:=P9.out.free 2
   obtain⟨t0,t1,t2⟩:=P9.out.threeO
   go_wp2_with fail
   obtain⟨_,rfl,z1,z2,z3,z4,z5,z6⟩:=rc_store (B:=w.heap.size) (r:=((r1,0,[]):ReplyR)) (d:=d2) (e:=c2) HB2.out P8.out P9.out (by omega) (by omega) (by omega) HX2.out HD2.out HT2.out
   refine close_two Tryz.results40 rfl rfl rfl z1 z2 Tryz.underlying48 Tryz.underlying36 rfl rfl (by kernel_rfl) (by kernel_rfl) ?_
   rw [HRes.out,if_neg HN.out]
   exact⟨ps,rfl,A2,d2,B2,c2,rfl,hs2,z3,z4,z5,hc2,hm2,z6⟩
end
section
open Go.RowKit Go.Lib
set_option maxRecDepth 100000
def spl6 (L:List Value) (off:Nat) (cs:List Value):List Value:=L.take off++(cs++L.drop (off+cs.length))
theorem spl_len6 (L:List Value) (off:Nat) (cs:List Value) (h:off+cs.length≤L.length):(spl6 L off cs).length=L.length:=by simp [spl6];omega
section
variable {P:Program} {w:World}
theorem run_copyK6 (dT sT ty elem:TypeId) (k m g off dLen dCap:Nat) (a:Addr) (sLen sCap:Nat) (cur:List Value) (t:TypeId) (cs:List Value)
  (hu:P.underlying dT=some (.slice elem)) (hs:(P.info? elem).map (·.size)=some k) (hg:w.heap[g]?=some (.cells cur.toArray t (0,0))) (hm:m=Nat.min sLen dLen) (hn:cs.length=m*k)
  (hsrc:∀ j v,cs[j]?=some v→w.cell? (a.add j)=some v) (hfit:off+cs.length≤cur.length) (h1:∀ v∈cs,v.oneCell'=true) :
  (Builtin.copy_ #[dT,sT] ty #[.slice (some ⟨g,off,none⟩) dLen dCap,.slice (some a) sLen sCap]).run P w=.ok (goInt m) (w.setRow g (spl6 cur off cs).toArray):=by
 have hl:=run_loadCells_list (P:=P) w a cs hsrc
 have hst:=run_storeCells_at P g off t cs 0 cur.toArray w hg (by simpa using hfit) h1
 rw [hn] at hl
 subst hm
 cases hq:P.info? elem with
 | none=>simp [hq] at hs
 | some i=>
   have hi:i.size=k:=by simpa [hq] using hs
   simp [Builtin.copy_,run_underlying hu,Builtin.lenOf,Builtin.firstCells,sizeOf,typeInfo,hq,hi,hl,hst,spl6]
end
theorem step_copyR6 {P:Program} {w:World} {ops:Array Oper} {o:Oper} {a:Act} {K:Act→World→Prop} {Q:Exit→Act→World→Prop} {E:Prop} (hgd:o.guard=none) (d s:Operand) (dT sT:TypeId)
  (ho:o.op=.call { callee:=.builtin .copy,args:=#[d,s],argTypes:=#[dT,sT] }) (v u:Value) (hd:a.eval d=v) (hsv:a.eval s=u) {v':Value} {w':World} (hr:(Builtin.copy_ #[dT,sT] o.type #[v,u]).run P w=.ok v' w') (h:K (a.put o.dst v') w') :
  if Region.wanted o (yielded ops a.tmps)=true then Oper.wp P o a w K Q else E:=by
 have hw:Region.wanted o (yielded ops a.tmps)=true:=by simp [Region.wanted,hgd]
 rw [if_pos hw]
 unfold Oper.wp
 simp [execOp,ho,resolve,invoke,builtin,hd,hsv,hr,Result.andThen]
 exact h
theorem wpList_copyR6 {P:Program} {w:World} {ops:Array Oper} {rest:List Oper} {o:Oper} {a:Act} {Q:Exit→Act→World→Prop} (hgd:o.guard=none) (d s:Operand) (dT sT:TypeId)
  (ho:o.op=.call { callee:=.builtin .copy,args:=#[d,s],argTypes:=#[dT,sT] }) (v u:Value) (hd:a.eval d=v) (hsv:a.eval s=u) {v':Value} {w':World} (hr:(Builtin.copy_ #[dT,sT] o.type #[v,u]).run P w=.ok v' w')
  (h:wpList P ops Q rest (a.put o.dst v') w'):wpList P ops Q (o::rest) a w:=by
 refine wpList_plain hgd fun K hK=>?_
 unfold Oper.wp
 simp [execOp,ho,resolve,invoke,builtin,hd,hsv,hr,Result.andThen]
 exact hK _ _ h
theorem grown_setRow6 (w:World) (g:Nat) (cs:Array Value):w.grownBy (w.setRow g cs) (some g):=
 ⟨rfl,rfl,rfl,by simp [World.setRow],fun k hk hne=>setRow_other w g k cs (fun e=>hne (by rw [e]))⟩
theorem grown_trans6 {a b c:World} {r:Option Nat} (h1:a.grownBy b r) (h2:b.grownBy c r):a.grownBy c r:=
 ⟨h2.os.trans h1.os,h2.tape.trans h1.tape,h2.output.trans h1.output,Nat.le_trans h1.size h2.size,fun k hk hne=>(h2.block k (Nat.lt_of_lt_of_le hk h1.size) hne).trans (h1.block k hk hne)⟩
theorem grown_from_drew6 {a b:World} {r:Option Nat} (h:a.drew.grownBy b r):a.grownBy b r:=⟨h.os,h.tape,h.output,h.size,h.block⟩
def insS6 (xs:List RawO) (i:Nat) (x:RawO):List RawO:=xs.take i++x::xs.drop i
theorem insS_len6 (xs:List RawO) (i:Nat) (x:RawO) (h:i≤xs.length):(insS6 xs i x).length=xs.length+1:=by simp [insS6];omega
theorem insS_flat6 (xs:List RawO) (i:Nat) (x:RawO):(insS6 xs i x).flatMap encRO=(xs.take i).flatMap encRO++(encRO x++(xs.drop i).flatMap encRO):=by simp [insS6]
def InsOut6 (base:Nat) (ys:List RawO) (r:Option Nat) (w:World) (e:Ending) (w':World):Prop:=∃ A c,e=.returned (.slice A ys.length c)∧w'.ownsRow base 27 6 (.slice A ys.length c) ys.length (ys.flatMap encRO)∧w.grownBy w' r
theorem spl_at6 (F E R cs:List Value) (k:Nat) (hk:k=F.length) (h:E.length=cs.length):spl6 (F++(E++R)) k cs=F++(cs++R):=by
 subst hk
 unfold spl6
 rw [List.take_left,← List.drop_drop,List.drop_left,← h,List.drop_left]
theorem split36 (L:List Value) (a b c:Nat) (h:a+b+c≤L.length):∃ F E G R,L=F++(E++(G++R))∧F.length=a∧E.length=b∧G.length=c:=by
 refine⟨L.take a,(L.drop a).take b,((L.drop a).drop b).take c,((L.drop a).drop b).drop c,?_,?_,?_,?_⟩
 ·rw [List.take_append_drop,List.take_append_drop,List.take_append_drop]
 ·rw [List.length_take];omega
 ·rw [List.length_take,List.length_drop];omega
 ·rw [List.length_take,List.length_drop,List.length_drop];omega
theorem own_formS6 {w:World} {base size n:Nat} {e:TypeId} {v:Value} {xs:List Value} (h:w.ownsRow base e size v n xs):∃ A c,v=.slice A n c:=by
 rcases h.2 with ⟨hv,h0⟩ |⟨g,cap,cur,hv,h1⟩
 ·exact⟨none,0,by rw [hv,h0]⟩
 ·exact⟨_,_,hv⟩
theorem own_cap6 {w:World} {base size n c:Nat} {e:TypeId} {A:Option Addr} {xs:List Value} (h:w.ownsRow base e size (.slice A n c) n xs):SliceOk A n c:=by
 rcases h.2 with ⟨hv,h0⟩ |⟨g,cap,cur,hv,h1,h2,h3,h4,h5⟩
 ·injection hv with e1 e2 e3
  subst e1 e2 e3
  exact⟨Nat.le_refl _,Nat.zero_le _,fun _=>⟨rfl,rfl⟩⟩
 ·injection hv with e1 e2 e3
  subst e1 e3
  exact⟨h3,h4,fun h=>by cases h⟩
theorem spl_room6 (xs:List RawO) (i n:Nat) (x:RawO) (cur:List Value) (hn:xs.length=n) (hi:i<n) (hc:(n+1)*6≤cur.length) (hx:cur.take (n*6)=xs.flatMap encRO) :
  (spl6 (spl6 cur ((i+1)*6) ((xs.drop i).flatMap encRO)) (i*6) (encRO x)).take ((n+1)*6)=(insS6 xs i x).flatMap encRO:=by
 have l1:((xs.drop i).flatMap encRO).length=(n-i)*6:=by rw [flat_len encRO_len,List.length_drop,hn]
 have l2:((xs.take i).flatMap encRO).length=i*6:=by rw [flat_len encRO_len,List.length_take];omega
 have l3:(encRO x).length=6:=rfl
 have e1:cur.take (i*6)=(xs.take i).flatMap encRO:=by
  have h1:cur.take (i*6)=(cur.take (n*6)).take (i*6):=by rw [List.take_take];congr 1;omega
  have h2:xs.flatMap encRO=(xs.take i).flatMap encRO++(xs.drop i).flatMap encRO:=by rw [← List.flatMap_append,List.take_append_drop]
  rw [h1,hx,h2,List.take_left' l2]
 obtain⟨F,E,G,R,rfl,hF,hE,hG⟩:=split36 cur (i*6) 6 ((n-i)*6) (by omega)
 rw [List.take_left' hF] at e1
 rw [insS_flat6,← e1]
 generalize (xs.drop i).flatMap encRO=D at *
 have s1:spl6 (F++(E++(G++R))) ((i+1)*6) D=(F++E)++(D++R):=by
  rw [← List.append_assoc]
  exact spl_at6 (F++E) G R D _ (by rw [List.length_append];omega) (by omega)
 rw [s1,List.append_assoc,spl_at6 F E (D++R) (encRO x) _ hF.symm (by omega),← List.append_assoc (encRO x),← List.append_assoc F]
 exact List.take_left' (by simp only [List.length_append];omega)
theorem spl_new6 (xs:List RawO) (i n:Nat) (x:RawO) (cur:List Value) (hn:xs.length=n) (hi:i<n) (hc:(n+1)*6≤cur.length) (hx:cur.take (i*6)=(xs.take i).flatMap encRO) :
  (spl6 (spl6 cur (i*6) (encRO x)) ((i+1)*6) ((xs.drop i).flatMap encRO)).take ((n+1)*6)=(insS6 xs i x).flatMap encRO:=by
 have l1:((xs.drop i).flatMap encRO).length=(n-i)*6:=by rw [flat_len encRO_len,List.length_drop,hn]
 have l3:(encRO x).length=6:=rfl
 obtain⟨F,E,G,R,rfl,hF,hE,hG⟩:=split36 cur (i*6) 6 ((n-i)*6) (by omega)
 rw [List.take_left' hF] at hx
 rw [insS_flat6,← hx]
 generalize (xs.drop i).flatMap encRO=D at *
 rw [spl_at6 F E (G++R) (encRO x) _ hF.symm (by omega),← List.append_assoc F,spl_at6 (F++encRO x) G R D _ (by rw [List.length_append];omega) (by omega),List.append_assoc,← List.append_assoc (encRO x),← List.append_assoc F]
 exact List.take_left' (by simp only [List.length_append];omega)
end
section
open Go.RowKit Go.Lib
set_option maxRecDepth 100000
theorem insert_end6 (base:Nat) (A:Option Addr) (n c:Nat) (xs:List RawO) (x:RawO) (vb:Nat) (w:World) (ho:w.ownsRow base 27 6 (.slice A n c) n (xs.flatMap encRO)) (hn:xs.length=n) (hv:Box w vb 27 (obA x.1 x.2.1 x.2.2)) (hn1:n≤1000) (hb:base≤w.heap.size) :
  Calls Tryz.prog 69 #[.slice A n c,.int .i64 (n:Int),.slice (some ⟨vb,0,none⟩) 1 1] w (InsOut6 base (insS6 xs n x) (Value.slice A n c).ownBlock w):=by
 obtain⟨i0,hi0,hz0,hz1,hz2⟩:=info_parts obj19_info
 have HI:=hZ hi0
 have HZ0:=hZ hz0
 have HZ1:=hZ hz1
 have HZ2:=hZ hz2
 have HO:=hZ ho
 have HN:=hZ hn
 have HBs:=hZ hb
 have NW:=hZ (World.news_of_block hv)
 have hk:=own_cap6 ho
 have hnc:=hk.1
 have HE:=hZ (show insS6 xs n x=xs++[x] by unfold insS6;rw [List.take_of_length_le (by omega),List.drop_of_length_le (by omega)])
 have h63:=hk.2.1
 unfold maxLen at h63
 cases A with
 | none=>
   obtain⟨rfl,rfl⟩:=hk.2.2 rfl
   clear ho hn hv hb hi0 hz0 hz1 hz2 hk
   go_enter Tryz.func69,Tryz.ntmps69
   go_wp2_with (at_builtin;go_loud (refine wpList_append_own _ rfl _ _ 46 rfl base 27 i0 (.agg #[.int .u64 0,.int .i64 0,.int .i64 0,.int .i64 0,.slice none 0 0,.int .i64 0]) 6 64 Tryz.underlying46 HI.out HZ0.out HZ1.out HZ2.out rfl (by decide) _ _ _ rfl HO.out ⟨vb,0,none⟩ 1 1 (encRO x) rfl rfl NW.out (encRO_one x) (by simp only [maxLen];omega) (by omega) HBs.out ?_);intro v' w2 hown hgrow _;have HO2:=hZ hown;have HG2:=hZ hgrow;clear hown hgrow)
   have hR:=HO2.out
   obtain⟨A9,c9,rfl⟩:=own_formS6 hR
   have HR:=hZ (show w2.ownsRow base 27 6 (.slice A9 (insS6 xs 0 x).length c9) (insS6 xs 0 x).length ((insS6 xs 0 x).flatMap encRO) by
    have h9:=HE.out
    rw [h9,List.length_append,List.flatMap_append,HN.out]
    simpa using hR)
   have hL:(insS6 xs 0 x).length=1:=by rw [insS_len6 _ _ _ (Nat.zero_le _),HN.out]
   have HL:=hZ hL
   clear hR hL
   go_ret
   exact⟨A9,c9,by rw [HL.out];rfl,HR.out,HG2.out⟩
 | some ad=>
   have hc1:(n:Int)≤(c:Int):=by omega
   have hn0:(0:Int)≤(n:Int):=by omega
   clear ho hn hv hb hi0 hz0 hz1 hz2 hk
   by_cases hcn:c=n
   ·subst hcn
    go_enter Tryz.func69,Tryz.ntmps69
    go_wp2_with (at_builtin;go_loud (refine wpList_append_own _ rfl _ _ 46 rfl base 27 i0 (.agg #[.int .u64 0,.int .i64 0,.int .i64 0,.int .i64 0,.slice none 0 0,.int .i64 0]) 6 64 Tryz.underlying46 HI.out HZ0.out HZ1.out HZ2.out rfl (by decide) _ _ _ rfl HO.out ⟨vb,0,none⟩ 1 1 (encRO x) rfl rfl NW.out (encRO_one x) (by simp only [maxLen];omega) (by omega) HBs.out ?_);intro v' w2 hown hgrow _;have HO2:=hZ hown;have HG2:=hZ hgrow;clear hown hgrow)
    have hR:=HO2.out
    obtain⟨A9,c9,rfl⟩:=own_formS6 hR
    have hL:(insS6 xs c x).length=c+1:=by rw [insS_len6 _ _ _ (by rw [HN.out];exact Nat.le_refl _),HN.out]
    have HR:=hZ (show w2.ownsRow base 27 6 (.slice A9 (insS6 xs c x).length c9) (insS6 xs c x).length ((insS6 xs c x).flatMap encRO) by
     rw [hL,HE.out,List.flatMap_append]
     simpa using hR)
    have HL:=hZ hL
    have HG9:=hZ (show w.grownBy w2 (Value.slice (some ad) c c).ownBlock from HG2.out)
    clear hR hL
    go_ret
    exact⟨A9,c9,by rw [HL.out];rfl,HR.out,HG9.out⟩
   ·go_enter Tryz.func69,Tryz.ntmps69
    go_wp2_with (at_builtin;go_loud (refine wpList_append_own _ rfl _ _ 46 rfl base 27 i0 (.agg #[.int .u64 0,.int .i64 0,.int .i64 0,.int .i64 0,.slice none 0 0,.int .i64 0]) 6 64 Tryz.underlying46 HI.out HZ0.out HZ1.out HZ2.out rfl (by decide) _ _ _ rfl HO.out ⟨vb,0,none⟩ 1 1 (encRO x) rfl rfl NW.out (encRO_one x) (by simp only [maxLen];omega) (by omega) HBs.out ?_);intro v' w2 hown hgrow _;have HO2:=hZ hown;have HG2:=hZ hgrow;clear hown hgrow)
    have hR:=HO2.out
    obtain⟨A9,c9,rfl⟩:=own_formS6 hR
    have hL:(insS6 xs n x).length=n+1:=by rw [insS_len6 _ _ _ (by rw [HN.out];exact Nat.le_refl _),HN.out]
    have HR:=hZ (show w2.ownsRow base 27 6 (.slice A9 (insS6 xs n x).length c9) (insS6 xs n x).length ((insS6 xs n x).flatMap encRO) by
     rw [hL,HE.out,List.flatMap_append]
     simpa using hR)
    have HL:=hZ hL
    have HG9:=hZ (show w.grownBy w2 (Value.slice (some ad) n c).ownBlock from HG2.out)
    clear hR hL
    go_ret
    exact⟨A9,c9,by rw [HL.out];rfl,HR.out,HG9.out⟩
theorem sym_sz6:(Tryz.prog.info? 27).map (·.size)=some 6:=by kernel_rfl
theorem encs_one6 (xs:List RawO):∀ v∈xs.flatMap encRO,v.oneCell'=true:=fun v hv=>by
 obtain⟨x,-,hx⟩:=List.mem_flatMap.1 hv
 exact encRO_one x v hx
theorem cell_cur6 {w:World} {g:Nat} {t:TypeId} {cur:List Value} (h:w.heap[g]?=some (.cells cur.toArray t (0,0))) (j:Nat):w.cell? ⟨g,j,none⟩=cur[j]?:=by
 have:=cell_of_row w g j cur.toArray t (0,0) h
 simpa using this
theorem drop_src6 {w:World} {g n i:Nat} {t:TypeId} {xs:List RawO} {cur:List Value} (h:w.heap[g]?=some (.cells cur.toArray t (0,0))) (hn:xs.length=n) (hi:i≤n) (hx:cur.take (n*6)=xs.flatMap encRO) :
  ∀ j v,((xs.drop i).flatMap encRO)[j]?=some v→w.cell? ((⟨g,i*6,none⟩:Addr).add j)=some v:=fun j v hv=>by
 rw [addP,cell_cur6 h]
 have h2:xs.flatMap encRO=(xs.take i).flatMap encRO++(xs.drop i).flatMap encRO:=by rw [← List.flatMap_append,List.take_append_drop]
 have l2:((xs.take i).flatMap encRO).length=i*6:=by rw [flat_len encRO_len,List.length_take];omega
 have hj:j<((xs.drop i).flatMap encRO).length:=(List.getElem?_eq_some_iff.1 hv).1
 rw [flat_len encRO_len,List.length_drop,hn] at hj
 have h3:cur[i*6+j]?=(cur.take (n*6))[i*6+j]?:=by rw [List.getElem?_take,if_pos (by omega)]
 rw [h3,hx,h2,List.getElem?_append_right (by omega),l2,Nat.add_sub_cancel_left]
 exact hv
theorem own_mk6 {w:World} {base g n cap:Nat} {t:TypeId} {cur xs:List Value} (h:w.heap[g]?=some (.cells cur.toArray t (0,0))) (hb:base≤g) (hn:n≤cap) (hm:cap≤maxLen) (hs:cur.length=cap*6) (hx:cur.take (n*6)=xs) (hl:xs.length=n*6):w.ownsRow base t 6 (.slice (some ⟨g,0,none⟩) n cap) n xs:=
 ⟨hl,.inr ⟨g,cap,cur.toArray,rfl,hb,h,hn,hm,by simpa using hs,by simpa using hx⟩⟩
theorem insert_room6 (base g n cap i:Nat) (cur:List Value) (xs:List RawO) (x:RawO) (vb:Nat) (w:World) (hg:w.heap[g]?=some (.cells cur.toArray 27 (0,0))) (hbg:base≤g) (hcl:cur.length=cap*6) (hx:cur.take (n*6)=xs.flatMap encRO) (hn:xs.length=n) (hv:Box w vb 27 (obA x.1 x.2.1 x.2.2)) (hvg:vb≠g) (hi:i<n) (hroom:n+1≤cap) (hcap:cap≤maxLen) (hn9:n≤1000) :
  Calls Tryz.prog 69 #[.slice (some ⟨g,0,none⟩) n cap,.int .i64 (i:Int),.slice (some ⟨vb,0,none⟩) 1 1] w (InsOut6 base (insS6 xs i x) (some g) w):=by
 have NW:=hZ (World.news_of_block hv)
 have hov:∀ lb cb,(callFunc 104 #[.slice (some ⟨vb,0,none⟩) 1 1,.slice (some ⟨g,(i+1)*6,none⟩) lb cb]).run Tryz.prog w=.ok (.value (.bool false)) w:=fun lb cb=>by
  rw [run_callFunc_extern Tryz.func104 (by kernel_rfl) (by kernel_rfl) (by kernel_rfl) (e:=Extern.SlicesOverlaps.overlaps #[46,46] #[4]) (by kernel_rfl),
   Lib.run_overlaps_apart w 46 4 27 Tryz.underlying46 6 Tryz.sizeOf27 ⟨vb,0,none⟩ ⟨g,(i+1)*6,none⟩ 1 1 lb cb hvg 27 27 6 (cap*6) (by simp [World.shape?,show w.heap[vb]?=_ from hv]) (by simp [World.shape?,hg,hcl]) (by omega) (hv.free 0) (hv.free 6)]
  rfl
 have HG:=hZ hg
 have hz2:¬ ((i:Int)=(n:Int)):=by omega
 have hgr:¬ (((n+1:Nat):Int)>(cap:Int)):=by omega
 have hw1:IntKind.i64.wrap ((n:Int)+1)=((n+1:Nat):Int):=by rw [IntWalk.i64_in _ (by omega)];push_cast;rfl
 have hw2:IntKind.i64.wrap ((i:Int)+1)=((i+1:Nat):Int):=by rw [IntWalk.i64_in _ (by omega)];push_cast;rfl
 have hb0:(0:Int)≤(i:Int):=by omega
 have hb1:(i:Int)≤(n:Int):=by omega
 have hb2:(i:Int)≤(cap:Int):=by omega
 have hb3:((n+1:Nat):Int)≤(cap:Int):=by omega
 have hb4:((i+1:Nat):Int)≤((n+1:Nat):Int):=by omega
 have hb5:(i:Int)≤((n+1:Nat):Int):=by omega
 have hb6:¬ cap=i:=by omega
 have hb7:¬ cap=i+1:=by omega
 have hrm2:n<cap:=by omega
 obtain⟨n1,hn1⟩:∃ k,k=n+1:=⟨_,rfl⟩
 obtain⟨i1,hi1⟩:∃ k,k=i+1:=⟨_,rfl⟩
 rw [← hn1] at hgr hw1 hb3 hb4 hb5 hroom
 rw [← hi1] at hw2 hb4 hb7 hov
 have HN1:=hZ hn1
 have HI1:=hZ hi1
 clear hn1 hi1
 have lD:((xs.drop i).flatMap encRO).length=(n-i)*6:=by rw [flat_len encRO_len,List.length_drop,hn]
 have hE:=spl_room6 xs i n x cur hn hi (by omega) hx
 have hcp1:∀ ty dc sc,(Builtin.copy_ #[46,46] ty #[.slice (some ⟨g,i1*6,none⟩) (n1-i1) dc,.slice (some ⟨g,i*6,none⟩) (n1-i) sc]).run Tryz.prog w.drew=.ok (goInt ((n-i:Nat):Int)) (w.drew.setRow g (spl6 cur (i1*6) ((xs.drop i).flatMap encRO)).toArray):=fun ty dc sc=>
  run_copyK6 (w:=w.drew) (ty:=ty) _ 46 27 6 (n-i) g (i1*6) (n1-i1) dc ⟨g,i*6,none⟩ (n1-i) sc cur 27 _ Tryz.underlying46 sym_sz6 hg (by rw [HN1.out,HI1.out];simp only [Nat.min_def];split<;>omega) lD
   (drop_src6 (w:=w.drew) hg hn (by omega) hx) (by rw [lD,HI1.out];omega) (encs_one6 _)
 obtain⟨cur1,hc1⟩:∃ y,y=spl6 cur (i1*6) ((xs.drop i).flatMap encRO):=⟨_,rfl⟩
 have lC:cur1.length=cap*6:=by rw [hc1,spl_len6 _ _ _ (by rw [lD,HI1.out];omega)];exact hcl
 have hE1:(spl6 cur1 (i*6) (encRO x)).take ((n+1)*6)=(insS6 xs i x).flatMap encRO:=by rw [hc1,HI1.out];exact hE
 rw [← hc1] at hcp1
 obtain⟨w1,hw1'⟩:∃ y,y=w.drew.setRow g cur1.toArray:=⟨_,rfl⟩
 have hg1:w1.heap[g]?=some (.cells cur1.toArray 27 (0,0)):=by rw [hw1'];exact setRow_heap w.drew g _ _ _ _ hg
 have hv1:Box w1 vb 27 (obA x.1 x.2.1 x.2.2):=by rw [hw1'];exact (setRow_other w.drew g vb _ hvg).trans hv
 have NW1:=World.news_of_block hv1
 have hcp2:∀ ty dc,(Builtin.copy_ #[46,46] ty #[.slice (some ⟨g,i*6,none⟩) (n1-i) dc,.slice (some ⟨vb,0,none⟩) 1 1]).run Tryz.prog w1=.ok (goInt 1) (w1.setRow g (spl6 cur1 (i*6) (encRO x)).toArray):=fun ty dc=>
  run_copyK6 (w:=w1) (ty:=ty) _ 46 27 6 1 g (i*6) (n1-i) dc ⟨vb,0,none⟩ 1 1 cur1 27 (encRO x) Tryz.underlying46 sym_sz6 hg1 (by rw [HN1.out];simp only [Nat.min_def];split<;>omega) rfl
   NW1 (by rw [lC];show i*6+6≤cap*6;omega) (encRO_one x)
 have hg2:(w1.setRow g (spl6 cur1 (i*6) (encRO x)).toArray).heap[g]?=some (.cells (spl6 cur1 (i*6) (encRO x)).toArray 27 (0,0)):=setRow_heap w1 g _ _ _ _ hg1
 have hL:=insS_len6 xs i x (by omega)
 have HR:=hZ (own_mk6 (base:=base) (n:=n+1) (cap:=cap) hg2 hbg (by omega) hcap (by rw [spl_len6 _ _ _ (by rw [lC];show i*6+6≤cap*6;omega)];exact lC) hE1 (by rw [flat_len encRO_len,hL,hn]))
 have HGr:=hZ (show w.grownBy (w1.setRow g (spl6 cur1 (i*6) (encRO x)).toArray) (some g) from grown_trans6 (by rw [hw1'];exact grown_from_drew6 (grown_setRow6 w.drew g _)) (grown_setRow6 w1 g _))
 have HLn:=hZ (show (insS6 xs i x).length=n1 by rw [hL,hn,HN1.out])
 rw [← HN1.out] at HR
 rw [← hw1'] at hcp1
 clear hE1 hE lC lD hc1 hg1 hv1 NW1 hg2 hL hg hv hx hcl HG NW
 obtain⟨w2,hw2'⟩:∃ y,y=w1.setRow g (spl6 cur1 (i*6) (encRO x)).toArray:=⟨_,rfl⟩
 rw [← hw2'] at hcp2 HR HGr
 clear hw1' hw2'
 go_enter Tryz.func69,Tryz.ntmps69
 go_wp2_with (simp only [hov])
 go_region_law (refine step_copyR6 rfl (.tmp 73) (.tmp 76) 46 46 rfl _ _ (by simp [Act.eval,Act.put]) (by simp [Act.eval,Act.put]) (hcp1 _ _ _) ?_)
 go_wp2_with (at_builtin;go_loud (refine wpList_copyR6 rfl _ _ 46 46 rfl _ _ rfl rfl (hcp2 _ _) ?_))
 go_ret
 exact⟨some ⟨g,0,none⟩,cap,by rw [HLn.out];rfl,by rw [HLn.out];exact HR.out,HGr.out⟩
theorem insert_grow6 (base g n cap i:Nat) (cur:List Value) (xs:List RawO) (x:RawO) (vb:Nat) (w:World) (hg:w.heap[g]?=some (.cells cur.toArray 27 (0,0))) (hb:base≤w.heap.size) (hcl:cur.length=cap*6) (hx:cur.take (n*6)=xs.flatMap encRO) (hn:xs.length=n) (hv:Box w vb 27 (obA x.1 x.2.1 x.2.2)) (hi:i<n) (hnc:n≤cap) (hroom:cap<n+1) (hn9:n≤1000) :
  Calls Tryz.prog 69 #[.slice (some ⟨g,0,none⟩) n cap,.int .i64 (i:Int),.slice (some ⟨vb,0,none⟩) 1 1] w (InsOut6 base (insS6 xs i x) (some g) w):=by
 obtain rfl:cap=n:=by omega
 obtain⟨i0,hi0,hz0,hz1,hz2⟩:=info_parts obj19_info
 have lT:((xs.take i).flatMap encRO).length=i*6:=by rw [flat_len encRO_len,List.length_take];omega
 have lD:((xs.drop i).flatMap encRO).length=(cap-i)*6:=by rw [flat_len encRO_len,List.length_drop,hn]
 have hxs:xs.flatMap encRO=(xs.take i).flatMap encRO++(xs.drop i).flatMap encRO:=by rw [← List.flatMap_append,List.take_append_drop]
 have hold:(Builtin.firstCells i0.size i (.slice (some ⟨g,0,none⟩) i cap)).run Tryz.prog w.drew=.ok ((xs.take i).flatMap encRO).toArray w.drew:=by
  have h9:=run_loadCells_list (P:=Tryz.prog) w.drew ⟨g,0,none⟩ ((xs.take i).flatMap encRO) (fun j v hj=>by
   rw [addP,Nat.zero_add]
   have hjl:j<i*6:=by rw [← lT];exact (List.getElem?_eq_some_iff.1 hj).1
   refine (cell_cur6 (w:=w.drew) hg j).trans ?_
   have h3:cur[j]?=(cur.take (cap*6))[j]?:=by rw [List.getElem?_take,if_pos (by omega)]
   rw [h3,hx,hxs,List.getElem?_append_left (by omega)]
   exact hj)
  rw [lT] at h9
  rw [hz1]
  exact h9
 have hrz:∀ ty,(Builtin.append_ #[46,3] ty #[.slice (some ⟨g,0,none⟩) i cap,.int .i64 ((cap+1-i:Nat):Int)]).run Tryz.prog w =
   .ok (.slice (some ⟨w.heap.size,0,none⟩) (i+(cap+1-i)) (grownCap w (i+(cap+1-i)) cap 27)) (w.drew.alloc (.cells (((xs.take i).flatMap encRO).toArray++Builtin.zeroCells (Value.agg #[.int .u64 0,.int .i64 0,.int .i64 0,.int .i64 0,.slice none 0 0,.int .i64 0]).cells (cap+1-i)++Builtin.zeroCells (Value.agg #[.int .u64 0,.int .i64 0,.int .i64 0,.int .i64 0,.slice none 0 0,.int .i64 0]).cells (grownCap w (i+(cap+1-i)) cap 27-(i+(cap+1-i)))) 27)):=fun ty=>
  Lib.run_append_grow_zeros w 46 3 ty 27 i0 _ .i64 .i64 Tryz.underlying46 Tryz.underlying3 hi0 hz0 (some ⟨g,0,none⟩) i cap ((xs.take i).flatMap encRO) hold (cap+1-i) (by omega) (by rw [hz1];omega) (by omega) (by omega) (by rw [hz2];omega) (by rw [hz2];exact growslice_fits (by omega) (by omega))
 have hk:i+(cap+1-i)=cap+1:=by omega
 rw [hk] at hrz
 have hGc:=grownCap_ge w (cap+1) cap 27
 have hGm:=grownCap_le_maxLen w (cap+1) cap 27 (by unfold maxLen;omega)
 obtain⟨G,hG⟩:∃ G,G=grownCap w (cap+1) cap 27:=⟨_,rfl⟩
 rw [← hG] at hrz hGc hGm
 obtain⟨row,hrow⟩:∃ r:Array Value,r=((xs.take i).flatMap encRO).toArray++Builtin.zeroCells (Value.agg #[.int .u64 0,.int .i64 0,.int .i64 0,.int .i64 0,.slice none 0 0,.int .i64 0]).cells (cap+1-i)++Builtin.zeroCells (Value.agg #[.int .u64 0,.int .i64 0,.int .i64 0,.int .i64 0,.slice none 0 0,.int .i64 0]).cells (G-(cap+1)):=⟨_,rfl⟩
 rw [← hrow] at hrz
 have lR:row.toList.length=G*6:=by
  rw [hrow]
  simp only [Array.toList_append,List.length_append,Array.length_toList,size_zeroCells]
  rw [List.size_toArray,lT]
  show i*6+(cap+1-i)*6+(G-(cap+1))*6=G*6
  omega
 have hR1:row.toList.take (i*6)=(xs.take i).flatMap encRO:=by
  rw [hrow]
  simp only [Array.toList_append,List.append_assoc]
  exact List.take_left' lT
 have hE:=spl_new6 xs i cap x row.toList hn hi (by rw [lR];omega) hR1
 obtain⟨W1,hW1⟩:∃ W,W=w.drew.alloc (.cells row 27):=⟨_,rfl⟩
 rw [← hW1] at hrz
 have hbW:Below w.heap.size w W1:=by rw [hW1];exact ((Below.refl _ _).drew).alloc (Nat.le_refl _) _
 have hgW:W1.heap[w.heap.size]?=some (.cells row.toList.toArray 27 (0,0)):=by rw [hW1];exact heap_alloc_new w.drew _
 have hglt:g<w.heap.size:=(Array.getElem?_eq_some_iff.1 hg).1
 have hg1:W1.heap[g]?=some (.cells cur.toArray 27 (0,0)):=(hbW.block g hglt).trans hg
 have hv1:Box W1 vb 27 (obA x.1 x.2.1 x.2.2):=hv.keep hbW
 have NW1:=World.news_of_block hv1
 obtain⟨gN,hgN⟩:∃ y,y=w.heap.size:=⟨_,rfl⟩
 have hcp1:∀ ty dc,(Builtin.copy_ #[46,46] ty #[.slice (some ⟨w.heap.size,i*6,none⟩) (cap+1-i) dc,.slice (some ⟨vb,0,none⟩) 1 1]).run Tryz.prog W1=.ok (goInt 1) (W1.setRow w.heap.size (spl6 row.toList (i*6) (encRO x)).toArray):=fun ty dc=>
  run_copyK6 (w:=W1) (ty:=ty) _ 46 27 6 1 w.heap.size (i*6) (cap+1-i) dc ⟨vb,0,none⟩ 1 1 row.toList 27 (encRO x) Tryz.underlying46 sym_sz6 hgW (by simp only [Nat.min_def];split<;>omega) rfl
   NW1 (by rw [lR];show i*6+6≤G*6;omega) (encRO_one x)
 obtain⟨cur1,hc1⟩:∃ y,y=spl6 row.toList (i*6) (encRO x):=⟨_,rfl⟩
 have lC:cur1.length=G*6:=by rw [hc1,spl_len6 _ _ _ (by rw [lR];show i*6+6≤G*6;omega)];exact lR
 rw [← hc1] at hcp1 hE
 obtain⟨W2,hW2⟩:∃ W,W=W1.setRow w.heap.size cur1.toArray:=⟨_,rfl⟩
 rw [← hW2] at hcp1
 have hgW2:W2.heap[w.heap.size]?=some (.cells cur1.toArray 27 (0,0)):=by rw [hW2];exact setRow_heap W1 w.heap.size _ _ _ _ hgW
 have hg2:W2.heap[g]?=some (.cells cur.toArray 27 (0,0)):=by rw [hW2];exact (setRow_other W1 w.heap.size g _ (by omega)).trans hg1
 have hcp2:∀ ty dc sc,(Builtin.copy_ #[46,46] ty #[.slice (some ⟨w.heap.size,(i+1)*6,none⟩) (cap+1-(i+1)) dc,.slice (some ⟨g,i*6,none⟩) (cap-i) sc]).run Tryz.prog W2.drew=.ok (goInt ((cap-i:Nat):Int)) (W2.drew.setRow w.heap.size (spl6 cur1 ((i+1)*6) ((xs.drop i).flatMap encRO)).toArray):=fun ty dc sc=>
  run_copyK6 (w:=W2.drew) (ty:=ty) _ 46 27 6 (cap-i) w.heap.size ((i+1)*6) (cap+1-(i+1)) dc ⟨g,i*6,none⟩ (cap-i) sc cur1 27 _ Tryz.underlying46 sym_sz6 hgW2 (by simp only [Nat.min_def];split<;>omega) lD
   (drop_src6 (w:=W2.drew) hg2 hn (by omega) hx) (by rw [lD,lC];omega) (encs_one6 _)
 obtain⟨W3,hW3⟩:∃ W,W=W2.drew.setRow w.heap.size (spl6 cur1 ((i+1)*6) ((xs.drop i).flatMap encRO)).toArray:=⟨_,rfl⟩
 have hgW3:W3.heap[w.heap.size]?=some (.cells (spl6 cur1 ((i+1)*6) ((xs.drop i).flatMap encRO)).toArray 27 (0,0)):=by rw [hW3];exact setRow_heap W2.drew w.heap.size _ _ _ _ hgW2
 rw [← hW3] at hcp2
 have hL:=insS_len6 xs i x (by omega)
 have HR:=hZ (own_mk6 (base:=base) (n:=cap+1) (cap:=G) hgW3 hb hGc hGm (by rw [spl_len6 _ _ _ (by rw [lD,lC];omega)];exact lC) hE (by rw [flat_len encRO_len,hL,hn]))
 have HGr:=hZ (show w.grownBy W3 (some g) from
  ⟨by rw [hW3,hW2];exact hbW.os,by rw [hW3,hW2];exact hbW.tape,by rw [hW3,hW2];exact hbW.output,by rw [hW3,hW2];simp only [World.setRow,World.drew];simpa using hbW.size,fun k hk _=>by
   rw [hW3]
   refine (setRow_other W2.drew w.heap.size k _ (by omega)).trans ?_
   show W2.heap[k]?=_
   rw [hW2]
   exact (setRow_other W1 w.heap.size k _ (by omega)).trans (hbW.block k hk)⟩)
 have HLn:=hZ (show (insS6 xs i x).length=cap+1 by rw [hL,hn])
 have hz2':¬ ((i:Int)=(cap:Int)):=by omega
 have hgr:((cap+1:Nat):Int)>(cap:Int):=by omega
 have hw1:IntKind.i64.wrap ((cap:Int)+1)=((cap+1:Nat):Int):=by rw [IntWalk.i64_in _ (by omega)];push_cast;rfl
 have hw2:IntKind.i64.wrap ((i:Int)+1)=((i+1:Nat):Int):=by rw [IntWalk.i64_in _ (by omega)];push_cast;rfl
 have hw3:IntKind.i64.wrap (((cap+1:Nat):Int)-(i:Int))=((cap+1-i:Nat):Int):=by rw [IntWalk.i64_in _ (by omega)];omega
 have hb0:(0:Int)≤(i:Int):=by omega
 have hb1:(i:Int)≤(cap:Int):=by omega
 have hb4:((i+1:Nat):Int)≤((cap+1:Nat):Int):=by omega
 have hb5:(i:Int)≤((cap+1:Nat):Int):=by omega
 have hb6:¬ cap=i:=by omega
 have hb7:¬ G=i+1:=by omega
 have hb8:¬ G=i:=by omega
 obtain⟨k1,hk1⟩:∃ k,k=cap+1-i:=⟨_,rfl⟩
 rw [← hk1] at hrz hw3
 have HK1:=hZ hk1
 obtain⟨n1,hn1⟩:∃ k,k=cap+1:=⟨_,rfl⟩
 rw [← hn1] at hrz hgr hw1 hw3 hb4 hb5 HR HLn hcp1 hcp2
 obtain⟨i1,hi1⟩:∃ k,k=i+1:=⟨_,rfl⟩
 rw [← hi1] at hw2 hb4 hb7 hcp2
 have HI1:=hZ hi1
 have HN1:=hZ hn1
 have HKe:=hZ (show n1-i=k1 by rw [hn1,hk1])
 clear hn1 hi1 hk1 hW1 hW2 hW3 hgW hgW2 hgW3 hg1 hg2 hbW hv1 NW1 hE hR1 lR lC lT lD hxs hold hrow hG hGc hGm hk hL hi0 hz0 hz1 hz2 hc1 hg hv hx hcl hb hroom hglt hn9 hnc
 go_enter Tryz.func69,Tryz.ntmps69
 go_upto_region 9 with (fail)
 go_wp2_with (at_builtin;first | (refine Lib.wpList_append_run _ rfl _ _ _ _ rfl _ _ rfl rfl _ _ (hrz _) ?_) | (refine wpList_copyR6 rfl _ _ 46 46 rfl _ _ rfl rfl (hcp1 _ _) ?_))
 go_region_law (refine step_copyR6 rfl (.tmp 50) (.tmp 53) 46 46 rfl _ _ (by simp [Act.eval,Act.put]) (by simp [Act.eval,Act.put]) (hcp2 _ _ _) ?_)
 go_wp2_with fail
 go_ret
 exact⟨some ⟨w.heap.size,0,none⟩,G,by rw [HLn.out];rfl,by rw [HLn.out];exact HR.out,HGr.out⟩
theorem insert_any6 (base:Nat) (A:Option Addr) (n c i:Nat) (xs:List RawO) (x:RawO) (vb:Nat) (w:World) (ho:w.ownsRow base 27 6 (.slice A n c) n (xs.flatMap encRO)) (hn:xs.length=n) (hv:Box w vb 27 (obA x.1 x.2.1 x.2.2)) (hvb:(Value.slice A n c).ownBlock≠some vb) (hi:i≤n) (hn1:n≤1000) (hb:base≤w.heap.size) :
  Calls Tryz.prog 69 #[.slice A n c,.int .i64 (i:Int),.slice (some ⟨vb,0,none⟩) 1 1] w (InsOut6 base (insS6 xs i x) (Value.slice A n c).ownBlock w):=by
 by_cases hin:i=n
 ·subst hin
  exact insert_end6 base A i c xs x vb w ho hn hv hn1 hb
 ·obtain⟨hl,⟨hv0,h0⟩ |⟨g,cap,cur,hv0,hbg,hg,hnc,hm,hs,hx⟩⟩:=ho
  ·omega
  ·injection hv0 with e1 e2 e3
   subst e1 e3
   have hvg:vb≠g:=fun e=>hvb (by rw [e];rfl)
   have hg':w.heap[g]?=some (.cells cur.toList.toArray 27 (0,0)):=hg
   have hs':cur.toList.length=c*6:=by rw [Array.length_toList];exact hs
   by_cases hr:n+1≤c
   ·exact insert_room6 base g n c i cur.toList xs x vb w hg' hbg hs' hx hn hv hvg (by omega) hr hm hn1
   ·exact insert_grow6 base g n c i cur.toList xs x vb w hg' hb hs' hx hn hv (by omega) hnc (by omega) hn1
end
end Go.Proofs.YtcikoaeiopbbbaaGreat
