/- Parts: Nb5, RefD1, RefD2, RefD3, RefD4, RefD5, Deg3, Bitrow3, Order1, RefXor, RefOf, Nb2, OwnF, Nb4, Nb6, Nb7, NbX, NrX, RdM, RdA, RdB, XorO, RdT, Getr, Mat1, Mat2, Like, Mat3, Mat4, Chain, MatM, Mat5, Mat6, Mat7, Mat8, Rd1, Rd2, RngS, QTailS. -/
import Derived.Test.YtcikoaeiopbbbaaGreatZc
import Derived.ArgAppend
import Derived.Deep.AppendLies
import Derived.Deep.RegionHeld3
import Derived.Deep.RegionLaw
import Derived.Deep.RegionWith
import Derived.Deep.SlicePairs
import Derived.OpenShut
import Derived.OrdersIn
import Derived.RangeFuncBound
import Derived.RangeFuncBox
import Derived.RangeFuncCalls
import Derived.RangeFuncLeaves
import Derived.RangeFuncNested
import Derived.Shelf.Abstract
import Derived.WalkKit
namespace Go.Proofs.YtcikoaeiopbbbaaGreat
set_option linter.unusedVariables false
set_option linter.unusedSimpArgs false
set_option linter.unusedSectionVars false
section
/- neighbours.Rows: the rows of several symbols. -/
open Go.RowKit
theorem own_drew {w:World} {base e size n:Nat} {v:Value} {xs:List Value} (h:w.ownsRow base e size v n xs):w.drew.ownsRow base e size v n xs:=h
def flatR (k:Int) (rs:List (Option Addr×Nat×Nat)):List Value:=rs.flatMap fun r=>[.int .i64 k,.slice r.1 r.2.1 r.2.2]
theorem flatR_snoc (k:Int) (rs:List (Option Addr×Nat×Nat)) (A:Option Addr) (l c:Nat):flatR k (rs++[(A,l,c)])=flatR k rs++[.int .i64 k,.slice A l c]:=by simp [flatR]
def MatW (w:World) (base:Nat) (k:Int) (v:Value) (ls:List (List Nat)):Prop:=
 ∃ rs,rs.length=ls.length∧w.ownsRow base 139 2 v ls.length (flatR k rs)∧∀ j,j<ls.length→OwnW w (rs.getD j (none,0,0)).1 (rs.getD j (none,0,0)).2.1 (rs.getD j (none,0,0)).2.2 (ls.getD j [])
theorem MatW.nil (w:World) (base:Nat) (k:Int):MatW w base k (.slice none 0 0) []:=⟨[],rfl,World.ownsRow_nil _ _ _ _,fun j hj=>by cases hj⟩
theorem MatW.below {w w':World} {base:Nat} {k:Int} {v:Value} {ls:List (List Nat)} (h:MatW w base k v ls) (hb:Below w.heap.size w w'):MatW w' base k v ls:=by
 obtain⟨rs,h1,h2,h3⟩:=h
 exact⟨rs,h1,own_keep h2 hb,fun j hj=>(h3 j hj).below hb⟩
theorem MatW.alloc {w:World} {base:Nat} {k:Int} {v:Value} {ls:List (List Nat)} (h:MatW w base k v ls) (o:Obj):MatW (w.alloc o) base k v ls:=h.below ((Below.refl _ _).alloc (Nat.le_refl _) o)
theorem MatW.far {w:World} {base:Nat} {k:Int} {v:Value} {ls:List (List Nat)} (h:MatW w base k v ls) {g:Nat} {t:TypeId} {cs:Array Value} (hb:Box w g t cs) (hne:22≠t) (hne2:139≠t) (i:Nat) (u:Value):MatW (w.setCell ⟨g,i,none⟩ u) base k v ls:=by
 obtain⟨rs,h1,h2,h3⟩:=h
 exact⟨rs,h1,own_far h2 hb hne2 i u,fun j hj=>(h3 j hj).far hb hne i u⟩
theorem MatW.snoc {w:World} {base:Nat} {k:Int} {v:Value} {rs:List (Option Addr×Nat×Nat)} {ls:List (List Nat)} {A:Option Addr} {l c:Nat} {z:List Nat} (h1:rs.length=ls.length) (h2:w.ownsRow base 139 2 v (ls.length+1) (flatR k rs++[.int .i64 k,.slice A l c]))
  (h3:∀ j,j<ls.length→OwnW w (rs.getD j (none,0,0)).1 (rs.getD j (none,0,0)).2.1 (rs.getD j (none,0,0)).2.2 (ls.getD j [])) (h4:OwnW w A l c z):MatW w base k v (ls++[z]):=by
 refine⟨rs++[(A,l,c)],by simp [h1],?_,fun j hj=>?_⟩
 ·rw [flatR_snoc,List.length_append];exact h2
 ·rw [List.length_append] at hj
  simp only [List.length_cons,List.length_nil] at hj
  by_cases h:j<ls.length
  ·have:=h3 j h
   simp only [List.getD,List.getElem?_append_left h,List.getElem?_append_left (h1 ▸ h)] at this ⊢
   exact this
  ·obtain rfl:j=ls.length:=by omega
   have e1:(rs++[(A,l,c)]).getD ls.length (none,0,0)=(A,l,c):=by rw [← h1];simp [List.getD]
   have e2:(ls++[z]).getD ls.length []=z:=by simp [List.getD]
   rw [e1,e2];exact h4
theorem row_info:(Tryz.prog.info? 139).map (fun i=>(i.zero,i.size,i.bytes))=some (some (.agg #[.int .i64 0,.slice none 0 0]),2,32):=by kernel_rfl
def MatOut (k:Nat) (f:Nat→List Nat) (zs:List Nat) (w:World) (e:Ending) (w':World):Prop:=
 ∃ v,e=.returned (.tuple #[.agg #[.int .i64 k,v],.int .i64 0])∧MatW w' w.heap.size k v (zs.map f)∧Below w.heap.size w w'
set_option maxRecDepth 100000 in
set_option maxHeartbeats 2000000 in
theorem rows_gen (k:Nat) (f:Nat→List Nat) (hk:1≤k∧k≤64) (hM:∀ w,Calls Tryz.prog 146 #[.int .i64 k] w fun e w'=>e=.returned (.bool true)∧w=w')
  (hS:∀ id:Nat,id<18446744073709551616→∀ w,Calls Tryz.prog 147 #[.int .i64 k,.int .u64 id] w (OneOwn k (f id) w))
  (A:Option Addr) (l c:Nat) (zs:List Nat) (w:World) (hz:Words w A l zs) (hl:l≤64) :
  Calls Tryz.prog 134 #[.int .i64 k,.slice A l c] w (MatOut k f zs w):=by
 have HM:=hZ hM
 have HS:=hZ hS
 have HZ:=hZ hz
 clear hM hS hz
 have hl2:¬ (64:Int)<l:=by omega
 obtain⟨i0,hi,hz0,hz1,hz2⟩:=info_parts row_info
 have HI:=hZ hi
 have HZ0:=hZ hz0
 have HZ1:=hZ hz1
 have HZ2:=hZ hz2
 clear hi hz0 hz1 hz2
 have Q0:=hZ ((Box.new w 102 #[.int .i64 0,.slice none 0 0]).alloc (.cells #[.int .i64 k,.slice none 0 0] 102))
 have q1:=Box.new (w.alloc (.cells #[.int .i64 0,.slice none 0 0] 102)) 102 #[.int .i64 k,.slice none 0 0]
 have HW:=hZ (show Below w.heap.size w ((w.alloc (.cells #[.int .i64 0,.slice none 0 0] 102)).alloc (.cells #[.int .i64 k,.slice none 0 0] 102)) from ((Below.refl _ _).alloc (Nat.le_refl _) _).alloc (by simp) _)
 simp only [World.size_alloc] at q1
 have Q1:=hZ q1
 clear q1
 go_enter Tryz.func134,Tryz.ntmps134
 go_wp2_with fail
 refine (HM.out _).mono ?_
 rintro e w1 ⟨rfl,rfl⟩
 go_wp2_with fail
 go_loopw [25] (fun t wr=>∃ (i:Nat) (v:Value),i≤l∧t=.int .i64 i∧Box wr (w.heap.size+1) 102 #[.int .i64 k,v]∧MatW wr w.heap.size k v ((zs.take i).map f)∧Box wr w.heap.size 102 #[.int .i64 0,.slice none 0 0]∧Below w.heap.size w wr) (fun t _=>l-(intOf t).toNat)
 case atStart=>exact⟨0,_,by omega,rfl,Q1.out,MatW.nil _ _ _,Q0.out,HW.out⟩
 case round=>
  obtain⟨i,v,hi,rfl,B1,hmat,B0,hbel⟩:=hrel
  have R1:=hZ B1
  have R0:=hZ B0
  have HMa:=hZ hmat
  have HB:=hZ hbel
  clear B1 B0 hmat hbel Q0 Q1 HW
  by_cases hlt:i<l
  ·have hlt':(i:Int)<(l:Int):=by omega
   obtain⟨q,o,rfl,lt1,hc1⟩:=HZ.out.2.2 (by omega)
   have cu:=(HB.out.cell (p:=⟨q,o+i,none⟩) lt1).trans (hc1 i hlt)
   have hx:=HZ.out.2.1 i
   have HTK:=hZ (show (zs.take (i+1)).map f=(zs.take i).map f++[f (zs.getD i 0)] by rw [take_one zs i 0 (by rw [HZ.out.1];exact hlt)];simp)
   have HTL:=hZ (show ((zs.take i).map f).length=i by have:=HZ.out.1;simp;omega)
   clear hc1 lt1
   generalize zs.getD i 0=x at *
   have HX:=hZ hx
   clear hx
   obtain⟨a0,a1,f0,f1⟩:=R1.out.two
   obtain⟨rs,hr1,hr2,hr3⟩:=HMa.out
   rw [HTL.out] at hr1 hr2 hr3
   have HOW:=hZ hr2
   have HRS:=hZ hr3
   clear hr2 hr3
   go_wp2_with fail
   go_region_law (first
    | (go_simp;go_at_call 147;refine (HS.out x HX.out _).mono ?_;rintro e1 x1 ⟨A1,l1,c1,rfl,hw,hb⟩;have S1:=hZ (R1.out.drew.keep hb);have S0:=hZ (R0.out.drew.keep hb);have SO:=hZ (own_keep (own_drew HOW.out) hb);have SR:=hZ (fun j hj=>(HRS.out j hj).drew.below hb);have SB:=hZ (chain HB.out.drew hb);have SW:=hZ hw;clear hb hw;have T1:=hZ (S1.out.alloc (.cells #[.int .i64 k,.slice A1 l1 c1] 139));obtain⟨s0,s1,sf0,sf1⟩:=S1.out.two;obtain⟨t0,t1,tf0,tf1⟩:=T1.out.two;have hb0:=SB.out.size;have hn0:=SO.out.lt)
    | (refine step_append_lies _ rfl (.tmp 30) (.tmp 34) 99 rfl w.heap.size 139 i0 (.agg #[.int .i64 0,.slice none 0 0]) 2 32 Tryz.underlying99 HI.out HZ0.out HZ1.out HZ2.out rfl (by decide) v i (flatR k rs) (by simp [Act.eval,Act.put]) (World.ownsRow.alloc SO.out (.cells #[.int .i64 k,.slice A1 l1 c1] 139)) ⟨x1.heap.size,0,none⟩ 1 1 [.int .i64 k,.slice A1 l1 c1] (by simp [Act.eval,Act.put]) rfl (World.news_of_block (Box.new x1 139 #[.int .i64 k,.slice A1 l1 c1])) (by simp [Value.oneCell']) (by omega) (by simp [maxLen];omega) (by omega) (by simp;omega) _ rfl ?_;intro g cap w1 hown hgrow _ _;have V1:=hZ (T1.out.grown hgrow (own_ne SO.out S1.out (by decide)));have HO2:=hZ hown;have HG:=hZ hgrow;clear hown hgrow;obtain⟨v0,v1,vf0,vf1⟩:=V1.out.two))
   all_goals
    have W0:=hZ ((S0.out.alloc (.cells #[.int .i64 k,.slice A1 l1 c1] 139)).grown HG.out (own_ne SO.out S0.out (by decide)))
    have WB:=hZ ((SB.out.alloc SB.out.size (.cells #[.int .i64 k,.slice A1 l1 c1] 139)).grown HG.out (SB.out.alloc SB.out.size (.cells #[.int .i64 k,.slice A1 l1 c1] 139)).size (fun k hk=>(SO.out.lt k hk).1))
    have WR:=hZ (fun j hj=>OwnW.grown ((SR.out j hj).alloc (.cells #[.int .i64 k,.slice A1 l1 c1] 139)) (World.ownsRow.alloc SO.out (.cells #[.int .i64 k,.slice A1 l1 c1] 139)) (by decide) HG.out)
    have WW:=hZ (OwnW.grown (SW.out.alloc (.cells #[.int .i64 k,.slice A1 l1 c1] 139)) (World.ownsRow.alloc SO.out (.cells #[.int .i64 k,.slice A1 l1 c1] 139)) (by decide) HG.out)
    have WM:=hZ (MatW.snoc (ls:=(zs.take i).map f) (by rw [HTL.out];exact hr1) (by rw [HTL.out];exact HO2.out) (by rw [HTL.out];exact WR.out) WW.out)
    clear HG SO SR SB SW S0 S1 T1 HOW HRS HO2 WR WW HMa R1 R0 HB
    go_wp2_with fail
    go_roundw
    case rel=>exact⟨i+1,_,by omega,by go_num,V1.out.put 1 _,by rw [HTK.out];exact WM.out.far V1.out (by decide) (by decide) 1 _,W0.out.far (p:=⟨w.heap.size+1,1,none⟩) (by simp) _,WB.out.setCell (p:=⟨w.heap.size+1,1,none⟩) (by simp) _⟩
    case measure=>simp [intOf]<;>omega
  ·obtain rfl:i=l:=by omega
   have hlt':¬ (i:Int)<(i:Int):=by omega
   have HTK:=hZ (show zs.take i=zs from List.take_of_length_le (by rw [HZ.out.1];omega))
   rw [HTK.out] at HMa
   obtain⟨A',c',hv⟩:∃ A' c',v=.slice A' zs.length c':=by
    obtain⟨rs,-,h2,-⟩:=HMa.out
    obtain⟨A',c',h,-⟩:=own_form h2
    rw [List.length_map] at h
    exact⟨A',c',h⟩
   subst hv
   obtain⟨a0,a1,-,-⟩:=R1.out.two
   obtain⟨b0,b1,f0,f1⟩:=R0.out.two
   go_wp2
   refine close_cell Tryz.results134 rfl rfl rfl R0.out.put2 Tryz.underlying102 rfl (by kernel_rfl) ⟨_,rfl,?_,?_⟩
   ·exact (HMa.out.far R0.out (by decide) (by decide) 0 _).far (R0.out.put 0 _) (by decide) (by decide) 1 _
   ·exact (HB.out.setCell (p:=⟨w.heap.size,0,none⟩) (Nat.le_refl _) _).setCell (p:=⟨w.heap.size,1,none⟩) (Nat.le_refl _) _
end
section
/- Contracts of layer 7's reference: Root, digits, Same. -/
open Go.RowKit
set_option maxHeartbeats 1000000 in
theorem refRoot_any (k:Nat) (hk:k≤2147483647) (w:World):Calls Tryz.prog 190 #[.int .i64 k] w fun e w'=>e=.returned (.int .i64 (root k:Nat))∧w=w':=by
 have HR:=hZ (fun s h1 h2=>(root_of k s h1 h2 hk).1)
 go_enter Tryz.func190,Tryz.ntmps190
 go_wp2
 go_loop [3,4] (fun l h=>∃ a b:Nat,a<b∧b≤46341∧l=.int .i64 a∧h=.int .i64 b∧Hid (a*a≤k∧k<b*b)) (fun l h=>(intOf h).toNat-(intOf l).toNat)
 case atStart=>exact⟨0,46341,by omega,by omega,rfl,rfl,hZ ⟨by omega,by omega⟩⟩
 case round=>
  obtain⟨a,b,hab,hb,rfl,rfl,HK⟩:=hrel
  by_cases hlt:1<b-a
  ·have g1:(1:Int)<(b:Int)-a:=by omega
   obtain⟨x,hx⟩:∃ x,x=(a+b) / 2:=⟨_,rfl⟩
   have hx1:a<x:=by omega
   have hx2:x<b:=by omega
   have hxe:((a:Int)+(b:Int)) / 2=(x:Int):=by omega
   have m1:x*x≤46341*46341:=Nat.mul_le_mul (by omega) (by omega)
   have m2:(x:Int)*(x:Int)≤2147488281:=by rw [sq_cast];omega
   have m3:0≤(x:Int)*(x:Int):=by rw [sq_cast];omega
   clear hx
   by_cases hs:x*x≤k
   ·have t:(x:Int)*(x:Int)≤k:=by rw [sq_cast];omega
    go_wp2
    go_round
    case rel=>exact⟨x,b,hx2,hb,by rw [hxe],rfl,hZ ⟨hs,HK.out.2⟩⟩
    case measure=>simp [intOf]<;>omega
   ·have t:¬ (x:Int)*(x:Int)≤k:=by rw [sq_cast];omega
    go_wp2
    go_round
    case rel=>exact⟨a,x,hx1,by omega,rfl,by rw [hxe],hZ ⟨HK.out.1,by omega⟩⟩
    case measure=>simp [intOf]<;>omega
  ·have g1:¬ (1:Int)<(b:Int)-a:=by omega
   have HE:=hZ (HR.out a HK.out.1 (by have h:=HK.out.2;rw [show b=a+1 by omega] at h;exact h))
   go_wp2
   go_ret
   exact⟨by rw [HE.out];rfl,rfl⟩
theorem bit_count:∀ N:Fin 256,∀ j:Fin 10,N.val / 2 ^ j.val=0→(j.val=0∨0<N.val / 2 ^ (j.val-1))→j.val=Lib.bitLen N.val:=by decide +kernel
set_option maxHeartbeats 1000000 in
theorem digits_any (n:Nat) (hn:n<256) (w:World):Calls Tryz.prog 191 #[.int .i64 n] w fun e w'=>e=.returned (.int .i64 (Lib.bitLen n:Nat))∧w=w':=by
 have HBC:=hZ (fun j h1 h2 h3=>bit_count ⟨n,hn⟩ ⟨j,h1⟩ h2 h3)
 go_enter Tryz.func191,Tryz.ntmps191
 go_wp2
 go_loop [0,3] (fun m c=>∃ j:Nat,j≤8∧c=.int .i64 j∧m=.int .i64 ((n / 2 ^ j:Nat):Int)∧Hid (j=0∨0<n / 2 ^ (j-1))) (fun m _=>(intOf m).toNat)
 case atStart=>exact⟨0,by omega,rfl,by simp,hZ (.inl rfl)⟩
 case round=>
  obtain⟨j,hj,rfl,rfl,HJ⟩:=hrel
  have HD:=hZ (show n / 2 ^ (j+1)=n / 2 ^ j / 2 by rw [Nat.pow_succ,Nat.div_div_eq_div_mul])
  have h8:j=8→n / 2 ^ j=0:=fun e=>by rw [e];exact Nat.div_eq_of_lt (by omega)
  have HB2:=hZ (fun h=>HBC.out j (by omega) h HJ.out)
  have HP:=hZ (show 0<n / 2 ^ j→(j+1=0∨0<n / 2 ^ (j+1-1)) from fun h=>.inr h)
  have hm256:n / 2 ^ j<256:=Nat.lt_of_le_of_lt (Nat.div_le_self _ _) hn
  generalize n / 2 ^ j=m at *
  by_cases hm:0<m
  ·have g:(0:Int)<m:=by omega
   have hj8:j<8:=by rcases Nat.lt_or_ge j 8 with e | e
                    ·exact e
                    ·have:=h8 (by omega);omega
   clear h8
   go_wp2
   go_round
   case rel=>exact⟨j+1,by omega,by go_num,by rw [HD.out];simp,hZ (HP.out hm)⟩
   case measure=>simp [intOf]<;>omega
  ·obtain rfl:m=0:=by omega
   have HE:=hZ (HB2.out rfl)
   clear h8
   go_wp2
   go_ret
   exact⟨by rw [← HE.out];rfl,rfl⟩
end
section
/- Contracts of layer 7's reference: Weight. -/
open Go.RowKit
theorem dd_cast (d:Nat) (h:1≤d):(d:Int)*((d:Int)-1)=((d*(d-1):Nat):Int):=by
 obtain⟨c,rfl⟩:∃ c,d=c+1:=⟨d-1,by omega⟩
 simp
set_option maxHeartbeats 4000000 in
theorem refWeight_any (k d:Nat) (h1:1≤k) (h2:k≤64) (h3:1≤d) (h4:d≤64) (w:World):Calls Tryz.prog 169 #[.int .i64 k,.int .i64 d] w fun e w'=>e=.returned (.int .u64 (wgt k d:Nat))∧w=w':=by
 have hr:=root_small ⟨k,by omega⟩ h1
 simp only at hr
 have HR:=hZ (refRoot_any k (by omega) w)
 have HD:=hZ (digits_any (root k) (by omega) w)
 have HW:=hZ (show wgt k d=plainN d k+moreN d (k / root k) (root k) k from rfl)
 have hp:=Nat.div_le_self k (root k)
 have hbl:=bitLen_le (root k) (by omega)
 have hX:(k:Int) / (root k:Int)=((k / root k:Nat):Int):=by simp
 have hMd:moreN d (k / root k) (root k) k=if d<k / root k then 4294967296*root k / (d*k) else if d=k / root k then 4294967296*root k*Lib.bitLen (root k) / k else 0:=rfl
 have hPd:plainN d k=if d=1 then 4294967296 / k else 4294967296 / (d*(d-1)):=rfl
 generalize Lib.bitLen (root k)=z at *
 generalize k / root k=p at *
 generalize root k=t at *
 generalize moreN d p t k=M at *
 generalize plainN d k=P at *
 obtain⟨g1,g2⟩:=hr
 have gk:(1:Int)≤k:=by omega
 have gt:(1:Int)≤t:=by omega
 have dk1:1*1≤d*k:=Nat.mul_le_mul h3 h1
 have dk2:d*k≤64*64:=Nat.mul_le_mul h4 h2
 have q1:1≤(d:Int)*(k:Int):=by rw [mul_cast];omega
 have q2:(d:Int)*(k:Int)≤4096:=by rw [mul_cast];omega
 have tz:t*z≤8*8:=Nat.mul_le_mul g2 hbl
 have hz3:4294967296*(t:Int)*(z:Int)=((4294967296*(t*z):Nat):Int):=by rw [Int.mul_assoc,mul_cast];simp
 have q3:0≤4294967296*(t:Int)*(z:Int):=by rw [hz3];omega
 have q4:4294967296*(t:Int)*(z:Int)≤274877906944:=by rw [hz3];omega
 have HZ3:=hZ hz3
 have HPd:=hZ hPd
 have HMd:=hZ hMd
 clear hz3 hPd hMd tz dk1 dk2
 by_cases hd1:d=1
 ·rcases Nat.lt_trichotomy d p with hdp | hdp | hdp
  ·have HP:=hZ (show P=4294967296 / k by rw [HPd.out,if_pos hd1])
   have eP:(4294967296:Int) / (k:Int)=(P:Int):=by rw [HP.out];simp
   have gP:P≤4294967296:=by rw [HP.out];exact Nat.div_le_self _ _
   have gd:¬ (1:Int)<d:=by omega
   have HM:=hZ (show M=4294967296*t / (d*k) by rw [HMd.out,if_pos hdp])
   have eM:4294967296*(t:Int) / ((d:Int)*(k:Int))=(M:Int):=by rw [HM.out,mul_cast];simp
   have gM:M≤4294967296*t:=by rw [HM.out];exact Nat.div_le_self _ _
   have c1:(d:Int)<p:=by omega
   have c2:((d:Int)==(p:Int))=false:=beq_eq_false_iff_ne.2 (by omega)
   clear hd1 hdp
   go_enter Tryz.func169,Tryz.ntmps169
   go_wp2_with fail
   refine HR.out.mono ?_
   rintro e w1 ⟨rfl,rfl⟩
   go_wp2_with fail
   go_ret
   exact⟨by rw [HW.out];simp,rfl⟩
  ·have HP:=hZ (show P=4294967296 / k by rw [HPd.out,if_pos hd1])
   have eP:(4294967296:Int) / (k:Int)=(P:Int):=by rw [HP.out];simp
   have gP:P≤4294967296:=by rw [HP.out];exact Nat.div_le_self _ _
   have gd:¬ (1:Int)<d:=by omega
   have HM:=hZ (show M=4294967296*t*z / k by rw [HMd.out,if_neg (by omega),if_pos hdp])
   have eM:4294967296*(t:Int)*(z:Int) / (k:Int)=(M:Int):=by rw [HM.out];simp
   have gM:M≤274877906944:=by have:=HZ3.out;have h9:4294967296*t*z / k≤4294967296*t*z:=Nat.div_le_self _ _;rw [HM.out];rw [Nat.mul_assoc] at h9 ⊢;omega
   have c1:¬ (d:Int)<p:=by omega
   have c2:((d:Int)==(p:Int))=true:=beq_iff_eq.2 (by omega)
   clear hd1 hdp
   go_enter Tryz.func169,Tryz.ntmps169
   go_wp2_with fail
   refine HR.out.mono ?_
   rintro e w1 ⟨rfl,rfl⟩
   go_wp2_with fail
   refine HD.out.mono ?_
   rintro e w1 ⟨rfl,rfl⟩
   go_wp2_with fail
   go_ret
   exact⟨by rw [HW.out];simp,rfl⟩
  ·have HP:=hZ (show P=4294967296 / k by rw [HPd.out,if_pos hd1])
   have eP:(4294967296:Int) / (k:Int)=(P:Int):=by rw [HP.out];simp
   have gP:P≤4294967296:=by rw [HP.out];exact Nat.div_le_self _ _
   have gd:¬ (1:Int)<d:=by omega
   have HM:=hZ (show M=0 by rw [HMd.out,if_neg (by omega),if_neg (by omega)])
   have c1:¬ (d:Int)<p:=by omega
   have c2:((d:Int)==(p:Int))=false:=beq_eq_false_iff_ne.2 (by omega)
   clear hd1 hdp
   go_enter Tryz.func169,Tryz.ntmps169
   go_wp2_with fail
   refine HR.out.mono ?_
   rintro e w1 ⟨rfl,rfl⟩
   go_wp2_with fail
   go_ret
   exact⟨by rw [HW.out,HM.out,Nat.add_zero];exact congrArg (fun x=>Ending.returned (Value.int .u64 x)) eP,rfl⟩
 ·rcases Nat.lt_trichotomy d p with hdp | hdp | hdp
  ·have HP:=hZ (show P=4294967296 / (d*(d-1)) by rw [HPd.out,if_neg hd1])
   have u1:1*1≤d*(d-1):=Nat.mul_le_mul (by omega) (by omega)
   have u2:d*(d-1)≤64*63:=Nat.mul_le_mul (by omega) (by omega)
   have v1:1≤(d:Int)*((d:Int)-1):=by rw [dd_cast d h3];omega
   have v2:(d:Int)*((d:Int)-1)≤4032:=by rw [dd_cast d h3];omega
   have eP:(4294967296:Int) / ((d:Int)*((d:Int)-1))=(P:Int):=by rw [HP.out,dd_cast d h3];simp
   have gP:P≤4294967296:=by rw [HP.out];exact Nat.div_le_self _ _
   have gd:(1:Int)<d:=by omega
   clear u1 u2
   have HM:=hZ (show M=4294967296*t / (d*k) by rw [HMd.out,if_pos hdp])
   have eM:4294967296*(t:Int) / ((d:Int)*(k:Int))=(M:Int):=by rw [HM.out,mul_cast];simp
   have gM:M≤4294967296*t:=by rw [HM.out];exact Nat.div_le_self _ _
   have c1:(d:Int)<p:=by omega
   have c2:((d:Int)==(p:Int))=false:=beq_eq_false_iff_ne.2 (by omega)
   clear hd1 hdp
   go_enter Tryz.func169,Tryz.ntmps169
   go_wp2_with fail
   refine HR.out.mono ?_
   rintro e w1 ⟨rfl,rfl⟩
   go_wp2_with fail
   go_ret
   exact⟨by rw [HW.out];simp,rfl⟩
  ·have HP:=hZ (show P=4294967296 / (d*(d-1)) by rw [HPd.out,if_neg hd1])
   have u1:1*1≤d*(d-1):=Nat.mul_le_mul (by omega) (by omega)
   have u2:d*(d-1)≤64*63:=Nat.mul_le_mul (by omega) (by omega)
   have v1:1≤(d:Int)*((d:Int)-1):=by rw [dd_cast d h3];omega
   have v2:(d:Int)*((d:Int)-1)≤4032:=by rw [dd_cast d h3];omega
   have eP:(4294967296:Int) / ((d:Int)*((d:Int)-1))=(P:Int):=by rw [HP.out,dd_cast d h3];simp
   have gP:P≤4294967296:=by rw [HP.out];exact Nat.div_le_self _ _
   have gd:(1:Int)<d:=by omega
   clear u1 u2
   have HM:=hZ (show M=4294967296*t*z / k by rw [HMd.out,if_neg (by omega),if_pos hdp])
   have eM:4294967296*(t:Int)*(z:Int) / (k:Int)=(M:Int):=by rw [HM.out];simp
   have gM:M≤274877906944:=by have:=HZ3.out;have h9:4294967296*t*z / k≤4294967296*t*z:=Nat.div_le_self _ _;rw [HM.out];rw [Nat.mul_assoc] at h9 ⊢;omega
   have c1:¬ (d:Int)<p:=by omega
   have c2:((d:Int)==(p:Int))=true:=beq_iff_eq.2 (by omega)
   clear hd1 hdp
   go_enter Tryz.func169,Tryz.ntmps169
   go_wp2_with fail
   refine HR.out.mono ?_
   rintro e w1 ⟨rfl,rfl⟩
   go_wp2_with fail
   refine HD.out.mono ?_
   rintro e w1 ⟨rfl,rfl⟩
   go_wp2_with fail
   go_ret
   exact⟨by rw [HW.out];simp,rfl⟩
  ·have HP:=hZ (show P=4294967296 / (d*(d-1)) by rw [HPd.out,if_neg hd1])
   have u1:1*1≤d*(d-1):=Nat.mul_le_mul (by omega) (by omega)
   have u2:d*(d-1)≤64*63:=Nat.mul_le_mul (by omega) (by omega)
   have v1:1≤(d:Int)*((d:Int)-1):=by rw [dd_cast d h3];omega
   have v2:(d:Int)*((d:Int)-1)≤4032:=by rw [dd_cast d h3];omega
   have eP:(4294967296:Int) / ((d:Int)*((d:Int)-1))=(P:Int):=by rw [HP.out,dd_cast d h3];simp
   have gP:P≤4294967296:=by rw [HP.out];exact Nat.div_le_self _ _
   have gd:(1:Int)<d:=by omega
   clear u1 u2
   have HM:=hZ (show M=0 by rw [HMd.out,if_neg (by omega),if_neg (by omega)])
   have c1:¬ (d:Int)<p:=by omega
   have c2:((d:Int)==(p:Int))=false:=beq_eq_false_iff_ne.2 (by omega)
   clear hd1 hdp
   go_enter Tryz.func169,Tryz.ntmps169
   go_wp2_with fail
   refine HR.out.mono ?_
   rintro e w1 ⟨rfl,rfl⟩
   go_wp2_with fail
   go_ret
   exact⟨by rw [HW.out,HM.out,Nat.add_zero];exact congrArg (fun x=>Ending.returned (Value.int .u64 x)) eP,rfl⟩
end
section
/- Contracts of layer 7's reference: Weights, Table. -/
open Go.RowKit
def WordsRet (zs:List Nat) (w:World) (e:Ending) (w':World):Prop:=∃ v,e=.returned v∧w'.ownsRow w.heap.size 22 1 v zs.length (zs.map u64V)∧Below w.heap.size w w'
set_option maxHeartbeats 2000000 in
theorem refWeights_any (k:Nat) (h1:1≤k) (h2:k≤64) (w:World):Calls Tryz.prog 152 #[.int .i64 k] w (WordsRet (wgts k k) w):=by
 obtain⟨i0,hi,hz0,hz1,hz2⟩:=info_parts u64_infoW
 have HI:=hZ hi
 have HZ0:=hZ hz0
 have HZ1:=hZ hz1
 have HZ2:=hZ hz2
 clear hi hz0 hz1 hz2
 go_enter Tryz.func152,Tryz.ntmps152
 go_wp2
 have HOw:=hZ (own_empty w w.heap.size 22 (Nat.le_refl _))
 have HW:=hZ ((Below.refl w.heap.size w).alloc (Nat.le_refl _) (.cells #[] 22))
 go_loopw [3,4] (fun v t wr=>∃ d:Nat,1≤d∧d≤k+1∧t=.int .i64 d∧wr.ownsRow w.heap.size 22 1 v (d-1) ((wgts k (d-1)).map u64V)∧Below w.heap.size w wr)
  (fun _ t _=>k+1-(intOf t).toNat)
 case atStart=>exact⟨1,by omega,by omega,rfl,HOw.out,HW.out⟩
 case round=>
  obtain⟨d,hd1,hd,rfl,hown,hbel⟩:=hrel
  have HO:=hZ hown
  have HB:=hZ hbel
  clear hown hbel HW HOw
  by_cases hlt:d≤k
  ·have hlt':(d:Int)≤(k:Int):=by omega
   have hi':=HI.out
   have hz0':=HZ0.out
   have hz1':=HZ1.out
   have hz2':=HZ2.out
   have HS:=hZ (show wgts k (d+1-1)=wgts k (d-1)++[wgt k d] by
    obtain⟨c,rfl⟩:∃ c,d=c+1:=⟨d-1,by omega⟩
    exact wgts_succ k c)
   have HWT:=hZ (refWeight_any k d h1 h2 hd1 (by omega))
   generalize wgt k d=x at *
   have XO:=hZ (HO.out.alloc (.cells #[.int .u64 (x:Int)] 22))
   have XB:=hZ (HB.out.alloc HB.out.size (.cells #[.int .u64 (x:Int)] 22))
   have N2:=hZ (fun k hk=>(HO.out.lt k hk).1)
   go_wp2_with fail
   refine (HWT.out _).mono ?_
   rintro e w9 ⟨rfl,rfl⟩
   go_wp2_with (at_builtin;refine wpList_append_own _ rfl _ _ 137 rfl w.heap.size 22 i0 (.int .u64 0) 1 8 Tryz.underlying137 hi' hz0' hz1' hz2' rfl (by decide) _ _ _ rfl XO.out ⟨wr.heap.size,0,none⟩ 1 1 [.int .u64 (x:Int)] rfl rfl (cell_one_new _ _ _) (by simp [Value.oneCell']) (by simp [maxLen];omega) (by omega) XB.out.size ?_;intro v' w1 hown' hgrow _;have HC:=hZ (XB.out.grown hgrow XB.out.size N2.out);have HO2:=hZ hown';clear hown' hgrow)
   go_roundw
   case rel=>
    refine⟨d+1,by omega,by omega,by go_num,?_,HC.out⟩
    rw [HS.out,List.map_append,show d+1-1=d-1+1 by omega]
    exact HO2.out
   case measure=>simp [intOf]<;>omega
  ·have he:d-1=k:=by omega
   have hlt':¬ (d:Int)≤(k:Int):=by omega
   rw [he] at HO
   have HL:=hZ (wgts_len k k)
   clear he
   go_wp2
   go_ret
   exact⟨_,rfl,by rw [HL.out];exact HO.out,HB.out⟩
end
section
/- Contract of layer 7's reference: Same. -/
open Go.RowKit
end
section
/- Contract of layer 7's reference: Table. -/
open Go.RowKit
set_option maxHeartbeats 2000000 in
theorem refTable_any (k:Nat) (h1:1≤k) (h2:k≤64) (w:World):Calls Tryz.prog 139 #[.int .i64 k] w (WordsRet (tbl (wgts k k)) w):=by
 obtain⟨i0,hi,hz0,hz1,hz2⟩:=info_parts u64_infoW
 have HI:=hZ hi
 have HZ0:=hZ hz0
 have HZ1:=hZ hz1
 have HZ2:=hZ hz2
 clear hi hz0 hz1 hz2
 have HWN:=hZ (refWeights_any k h1 h2)
 have HWL:=hZ (wgts_len k k)
 have HWb:=hZ (wgts_lt k h1 h2)
 go_enter Tryz.func139,Tryz.ntmps139
 go_wp2_with fail
 refine (HWN.out _).mono ?_
 rintro e w1 ⟨v1,rfl,ho1,hb⟩
 rw [HWL.out] at ho1
 obtain⟨A1,c1,rfl,q1,q1',hw1⟩:=own_slice ho1 HWb.out
 have W1:=hZ hw1
 have B1:=hZ (chain ((Below.refl w.heap.size w).alloc (Nat.le_refl _) (.cells #[] 22)) hb)
 clear ho1 hw1 hb HWN
 generalize wgts k k=ws at *
 go_wp2_with fail
 have n1:=B1.out.size
 go_loopw [3,4,11] (fun v s c wr=>∃ i:Nat,i≤k∧c=.int .i64 i∧s=.int .u64 (sumN (ws.take i):Nat)∧Hid ((i=0∧v=.slice (some ⟨w.heap.size,0,none⟩) 0 0)∨(1≤i∧wr.ownsRow w1.heap.size 22 1 v i ((tbl (ws.take i)).map u64V)))∧Below w1.heap.size w1 wr) (fun _ _ c _=>k-(intOf c).toNat)
 case atStart=>exact⟨0,by omega,rfl,rfl,hZ (.inl ⟨rfl,rfl⟩),Below.refl _ _⟩
 case round=>
  obtain⟨i,hi,rfl,rfl,HV,hbel⟩:=hrel
  have HB:=hZ hbel
  clear hbel
  by_cases hlt:i<k
  ·have hlt':(i:Int)<k:=by omega
   obtain⟨b,off,rfl,hb,hc⟩:=W1.out.2.2 (by omega)
   have cA:=(HB.out.cell (p:=⟨b,off+i,none⟩) hb).trans (hc i hlt)
   clear hc
   have hsu:=sumN_take ws i (by rw [HWL.out];exact hlt)
   have hwn:=wrap_nat (sumN (ws.take i)) (ws.getD i 0)
   rw [← hsu] at hwn
   have HT:=hZ (show tbl (ws.take (i+1))=tbl (ws.take i)++[sumN (ws.take (i+1))] by
    rw [List.take_succ_eq_append_getElem (by rw [HWL.out];exact hlt)];exact tbl_snoc _ _)
   have HT0:=hZ (show i=0→tbl (ws.take i)=[] from fun e=>by rw [e];rfl)
   clear hsu
   generalize hs':sumN (ws.take (i+1))=y at *
   have HY:=hZ hs'
   clear hs'
   generalize sumN (ws.take i)=s0 at *
   generalize ws.getD i 0=x at *
   have hi':=HI.out
   have hz0':=HZ0.out
   have hz1':=HZ1.out
   have hz2':=HZ2.out
   have XB:=hZ (HB.out.alloc HB.out.size (.cells #[.int .u64 (y:Int)] 22))
   rcases HV.out with ⟨h0,hv⟩ |⟨h1i,hrow⟩
   ·subst hv
    have H0:=hZ h0
    clear h0
    go_wp2_with (at_builtin;refine wpList_append_grows _ rfl _ _ 137 rfl 22 i0 (.int .u64 0) 1 8 Tryz.underlying137 hi' hz0' hz1' hz2' rfl (by decide) (some ⟨w.heap.size,0,none⟩) 0 0 [] rfl (fun h=>by cases h) rfl (fun _ _ j u hu=>by simp at hu) ⟨wr.heap.size,0,none⟩ 1 1 [.int .u64 (y:Int)] rfl rfl (cell_one_new _ _ _) (by simp [Value.oneCell']) (by omega) (by simp [maxLen]) (by omega) ?_;intro v' w2 hown' hgrow;have HC:=hZ (XB.out.grown hgrow XB.out.size (fun k hk=>by cases hk));have HO2:=hZ (own_low hown' XB.out.size);clear hown' hgrow)
    go_roundw
    case rel=>
     refine⟨i+1,by omega,by go_num,by rw [HY.out],hZ (.inr ⟨by omega,?_⟩),HC.out⟩
     rw [HT.out,HT0.out H0.out,H0.out]
     exact HO2.out
    case measure=>simp [intOf]<;>omega
   ·have HO:=hZ hrow
    clear hrow
    have XO:=hZ (HO.out.alloc (.cells #[.int .u64 (y:Int)] 22))
    have N2:=hZ (fun k hk=>(HO.out.lt k hk).1)
    obtain⟨A',c',rfl,_⟩:=own_form HO.out
    go_wp2_with (at_builtin;refine wpList_append_own _ rfl _ _ 137 rfl w1.heap.size 22 i0 (.int .u64 0) 1 8 Tryz.underlying137 hi' hz0' hz1' hz2' rfl (by decide) _ _ _ rfl XO.out ⟨wr.heap.size,0,none⟩ 1 1 [.int .u64 (y:Int)] rfl rfl (cell_one_new _ _ _) (by simp [Value.oneCell']) (by simp [maxLen];omega) (by omega) XB.out.size ?_;intro v' w2 hown' hgrow _;have HC:=hZ (XB.out.grown hgrow XB.out.size N2.out);have HO2:=hZ hown';clear hown' hgrow)
    go_roundw
    case rel=>
     refine⟨i+1,by omega,by go_num,by rw [HY.out],hZ (.inr ⟨by omega,?_⟩),HC.out⟩
     rw [HT.out,List.map_append]
     exact HO2.out
    case measure=>simp [intOf]<;>omega
  ·have he:i=k:=by omega
   have HROW:=hZ (HV.out.resolve_left (by omega))
   rw [he,List.take_of_length_le (by rw [HWL.out];omega)] at HROW
   have hlt':¬ (i:Int)<k:=by omega
   have HL:=hZ ((tbl_len ws).trans HWL.out)
   clear he
   obtain⟨A',c',rfl,_⟩:=own_form HROW.out.2
   go_wp2
   go_ret
   exact⟨_,rfl,by rw [HL.out];exact own_low HROW.out.2 n1,chain B1.out HB.out⟩
end
section
/- Contracts of layer 7's reference: Right, Pick. -/
open Go.RowKit
set_option maxHeartbeats 1000000 in
theorem refPick_any (A:Option Addr) (l c:Nat) (ws:List Nat) (n:Nat) (w:World) (hw:Words w A l ws) (hl:l≤maxLen) (hlc:l≤c) (hn:n<18446744073709551616) (ht:tabB ws=true) :
  Calls Tryz.prog 138 #[.slice A l c,.int .u64 n] w fun e w'=>e=.returned (.int .i64 (pickD ws n:Nat))∧∃ q,w'=w.drewN q:=by
 unfold maxLen at hl
 obtain⟨h1,h64,hr⟩:=tab_at ht
 have hp:=last_pos ht
 have hlen:=hw.1
 rw [hlen] at h1 h64 hp
 obtain⟨b,off,rfl,hb,hc⟩:=hw.2.2 h1
 have c1:=hc (l-1) (by omega)
 have HPD:=hZ (show pickD ws n=pickN ws (n%ws.getD (l-1) 0)+1 by rw [pickD,hlen])
 have HM:=hZ (rises_mono ws hr)
 have HC:=hZ hc
 have HL:=hZ hlen
 have HLT:=hZ (Nat.mod_lt n hp)
 clear hw hc hlen ht hr
 have g1:(1:Int)≤l:=by omega
 have g2:(l:Int)≤64:=by omega
 have g3:((l:Int)-1).toNat=l-1:=by omega
 generalize hX:ws.getD (l-1) 0=x at *
 have HX:=hZ hX
 clear hX
 have g4:(0:Int)<x:=by omega
 have g5:(x:Int)≠0:=by omega
 go_enter Tryz.func138,Tryz.ntmps138
 go_wp2_with fail
 go_loop [17] (fun i=>∃ k:Nat,k≤l∧i=.int .i64 k∧Hid (∀ i,i<k→ws.getD i 0≤n%x)) (fun i=>l-(intOf i).toNat)
 case atStart=>exact⟨0,by omega,rfl,hZ (fun i hi=>by omega)⟩
 case round=>
  obtain⟨k,hk,rfl,HN⟩:=hrel
  by_cases hlt:k<l
  ·have hkl':(k:Int)<(l:Int):=by omega
   have c2:=HC.out k hlt
   by_cases hx:n%x<ws.getD k 0
   ·have HE:=hZ (pickN_of ws (n%x) k HN.out (fun i h1 h2=>by have:=HM.out k i h1 h2;omega) (by rw [HL.out];omega))
    have t:(n:Int)%(x:Int)<(ws.getD k 0:Nat):=by omega
    generalize ws.getD k 0=y at *
    go_wp2
    go_ret
    exact⟨by rw [HPD.out,HE.out];rfl,0,rfl⟩
   ·have HE:=hZ (show ∀ i,i<k+1→ws.getD i 0≤n%x from fun i hi=>by
     by_cases e:i=k
     ·rw [e];omega
     ·exact HN.out i (by omega))
    have t:¬ (n:Int)%(x:Int)<(ws.getD k 0:Nat):=by omega
    generalize ws.getD k 0=y at *
    go_wp2
    go_round
    case rel=>exact⟨k+1,by omega,by go_num,HE⟩
    case measure=>simp [intOf]<;>omega
  ·exfalso
   have:=HN.out (l-1) (by omega)
   have:=HLT.out
   have:=HX.out
   omega
end
section
/- Contracts of bitrow.And's join, and of bitrow.Xor and And. -/
open Go.RowKit
end
section
/- Rows of one size that may be: what Xor and And of them are; the plain laws of both. -/
open Go.RowKit
theorem right_len_eq {n:Int} {us:List Nat} (h:rightB n us=true):us.length=nw n.toNat:=by
 simp only [rightB,Bool.and_eq_true,beq_iff_eq] at h
 exact h.1.2
theorem right_lmb {n:Int} {us:List Nat} (h:rightB n us=true):lmb n=true:=by
 simp only [rightB,Bool.and_eq_true] at h
 exact h.1.1
theorem zip_last (g:Nat→Nat→Nat) (us vs:List Nat) (i:Nat) (hu:i<us.length) (hv:i<vs.length):(List.zipWith g us vs).getD i 0=g (us.getD i 0) (vs.getD i 0):=by
 simp [List.getD,List.getElem?_zipWith,hu,hv]
theorem right_zip (g:Nat→Nat→Nat) (hg:∀ x y k,x / 2 ^ k=0→y / 2 ^ k=0→g x y / 2 ^ k=0) {n:Int} {us vs:List Nat} (h1:rightB n us=true) (h2:rightB n vs=true):rightB n (List.zipWith g us vs)=true:=by
 have l1:=right_len_eq h1
 have l2:=right_len_eq h2
 have hl:(List.zipWith g us vs).length=us.length:=by simp;omega
 simp only [rightB,Bool.and_eq_true,Bool.or_eq_true,beq_iff_eq] at h1 h2 ⊢
 refine⟨⟨h1.1.1,by rw [hl];exact h1.1.2⟩,?_⟩
 rcases h1.2 with h | h
 ·exact .inl h
 ·rcases h2.2 with h' | h'
  ·exact .inl h'
  ·by_cases h0:us.length=0
   ·left
    rw [l1] at h0
    unfold nw at h0
    omega
   ·right
    rw [hl,zip_last g us vs _ (by omega) (by omega)]
    exact hg _ _ _ h (by rw [l2,← l1] at h';exact h')
theorem xor_div (x y k:Nat) (h:x / 2 ^ k=0) (h':y / 2 ^ k=0):(x^^^y) / 2 ^ k=0:=by
 have p:0<2 ^ k:=Nat.two_pow_pos k
 rw [Nat.div_eq_zero_iff] at h h' ⊢
 right
 exact Nat.xor_lt_two_pow (by omega) (by omega)
def xorL (us vs:List Nat):List Nat:=List.zipWith (·^^^·) us vs
theorem right_xor {n:Int} {us vs:List Nat} (h1:rightB n us=true) (h2:rightB n vs=true):rightB n (xorL us vs)=true:=right_zip _ xor_div h1 h2
end
section
/- Contracts of the reference's Xor and And. -/
open Go.RowKit
set_option maxRecDepth 100000
theorem int_info:(Tryz.prog.info? 3).map (fun i=>(i.zero,i.size,i.bytes))=some (some (.int .i64 0),1,8):=by kernel_rfl
def bitSums (g:Nat→Nat→Nat) (us vs:List Nat) (i:Nat):List Int:=(List.range i).map fun j=>((g (bitAt us j) (bitAt vs j):Nat):Int)
theorem bitSums_succ (g:Nat→Nat→Nat) (us vs:List Nat) (i:Nat):bitSums g us vs (i+1)=bitSums g us vs i++[((g (bitAt us i) (bitAt vs i):Nat):Int)]:=by simp [bitSums,List.range_succ]
theorem bitSums_len (g:Nat→Nat→Nat) (us vs:List Nat) (i:Nat):(bitSums g us vs i).length=i:=by simp [bitSums]
theorem bitSums_get (g:Nat→Nat→Nat) (us vs:List Nat) (i j:Nat) (h:j<i):(bitSums g us vs i).getD j 0=((g (bitAt us j) (bitAt vs j):Nat):Int):=by simp [bitSums,List.getD,h]
theorem bitSums_lt (us vs:List Nat) (i j:Nat):-9223372036854775808≤(bitSums (fun x y=>(x+y)%2) us vs i).getD j 0∧(bitSums (fun x y=>(x+y)%2) us vs i).getD j 0≤9223372036854775807:=by
 by_cases h:j<i
 ·rw [bitSums_get _ us vs i j h];omega
 ·have hn:(bitSums (fun x y=>(x+y)%2) us vs i)[j]?=none:=List.getElem?_eq_none (by rw [bitSums_len];omega)
  simp only [List.getD,hn,Option.getD_none]
  omega
theorem accM_bit (b:Nat→Bool) (i m j:Nat) (hm:m≤64):(accM b i m).testBit j=(decide (j<m)&&b (64*i+(64-m+j))):=by
 induction m generalizing j with
 | zero=>simp [accM]
 | succ m ih=>
   simp only [accM]
   cases j with
   | zero=>
     rw [Nat.testBit_zero]
     have e:64-(m+1)+0=63-m:=by omega
     rw [e]
     cases b (64*i+(63-m))<;>simp<;>omega
   | succ j=>
     rw [Nat.testBit_succ]
     have e:(2*accM b i m+if b (64*i+(63-m))=true then 1 else 0) / 2=accM b i m:=by split<;>omega
     rw [e,ih j (by omega)]
     have e2:64-m+j=64-(m+1)+(j+1):=by omega
     rw [e2]
     have e3:decide (j<m)=decide (j+1<m+1):=by simp
     rw [e3]
theorem bitAt_test (us:List Nat) (i:Nat):(bitAt us i==1)=(us.getD (i / 64) 0).testBit (i%64):=by
 rw [Nat.testBit_eq_decide_div_mod_eq];rfl
theorem right_bits {n:Nat} {us:List Nat} (h:rightB n us=true) (i:Nat) (hi:n≤i) (hl:i<64*us.length):bitAt us i=0:=by
 have hlm:=right_lmb h
 have hle:=right_len_eq h
 rw [Int.toNat_natCast] at hle
 rcases bitAt_le us i with h0 | h1
 ·exact h0
 ·have:=not_right_of_bit n us.length i us hlm rfl hle hi hl h1
  rw [h] at this
  cases this
theorem from_zip (g:Nat→Nat→Nat) (f:Nat→Nat→Nat) (hgf:∀ x y k,(f x y).testBit k=(g (if x.testBit k then 1 else 0) (if y.testBit k then 1 else 0)==1)) (h00:g 0 0=0) (hf:∀ x y,x<18446744073709551616→y<18446744073709551616→f x y<18446744073709551616) (n:Nat) (us vs:List Nat) (h1:rightB n us=true) (h2:rightB n vs=true)
  (hu:∀ j,us.getD j 0<18446744073709551616) (hv:∀ j,vs.getD j 0<18446744073709551616) :
  fromL (bitsOf (bitSums g us vs n)) (nw n)=List.zipWith f us vs:=by
 have l1:=right_len_eq h1
 have l2:=right_len_eq h2
 rw [Int.toNat_natCast] at l1 l2
 apply List.ext_getElem
 ·rw [fromL_len];simp;omega
 ·intro i hi1 hi2
  have hi:i<nw n:=by rw [fromL_len] at hi1;exact hi1
  have iu:i<us.length:=by omega
  have iv:i<vs.length:=by omega
  simp only [fromL,List.getElem_map,List.getElem_range,List.getElem_zipWith]
  have eu:us[i]=us.getD i 0:=by simp [List.getD,iu]
  have ev:vs[i]=vs.getD i 0:=by simp [List.getD,iv]
  rw [eu,ev]
  apply Nat.eq_of_testBit_eq
  intro j
  rw [accM_bit _ _ _ _ (Nat.le_refl _)]
  by_cases hj:j<64
  ·have e0:64*i+(64-64+j)=64*i+j:=by omega
   have ed:(64*i+j) / 64=i:=by omega
   have em:(64*i+j)%64=j:=by omega
   have bu:(if (us.getD i 0).testBit j then 1 else 0)=bitAt us (64*i+j):=by
    have:=bitAt_test us (64*i+j)
    rw [ed,em] at this
    rw [← this]
    rcases bitAt_le us (64*i+j) with h | h<;>rw [h]<;>rfl
   have bv:(if (vs.getD i 0).testBit j then 1 else 0)=bitAt vs (64*i+j):=by
    have:=bitAt_test vs (64*i+j)
    rw [ed,em] at this
    rw [← this]
    rcases bitAt_le vs (64*i+j) with h | h<;>rw [h]<;>rfl
   rw [e0,hgf,bu,bv]
   have hd:decide (j<64)=true:=by simpa using hj
   rw [hd,Bool.true_and]
   unfold bitsOf
   rw [bitSums_len]
   by_cases hn:64*i+j<n
   ·rw [bitSums_get g us vs n _ hn]
    have:decide (64*i+j<n)=true:=by simpa using hn
    rw [this,Bool.true_and]
    rw [Bool.eq_iff_iff]
    simp only [beq_iff_eq]
    omega
   ·have z1:=right_bits h1 (64*i+j) (by omega) (by omega)
    have z2:=right_bits h2 (64*i+j) (by omega) (by omega)
    have:decide (64*i+j<n)=false:=by simpa using hn
    rw [this,Bool.false_and,z1,z2,h00];rfl
  ·have hd:decide (j<64)=false:=by simpa using hj
   rw [hd,Bool.false_and]
   symm
   exact Nat.testBit_lt_two_pow (Nat.lt_of_lt_of_le (hf _ _ (hu i) (hv i)) (show 2 ^ 64≤2 ^ j from Nat.pow_le_pow_right (by omega) (by omega)))
theorem from_xor (n:Nat) (us vs:List Nat) (h1:rightB n us=true) (h2:rightB n vs=true) (hu:∀ j,us.getD j 0<18446744073709551616) (hv:∀ j,vs.getD j 0<18446744073709551616) :
  fromL (bitsOf (bitSums (fun x y=>(x+y)%2) us vs n)) (nw n)=xorL us vs:=by
 refine from_zip _ _ ?_ rfl (fun x y hx hy=>Nat.xor_lt_two_pow (n:=64) hx hy) n us vs h1 h2 hu hv
 intro x y k
 rw [Nat.testBit_xor]
 cases x.testBit k<;>cases y.testBit k<;>rfl
end
section
/- Contracts of the reference's In, There and Of. -/
open Go.RowKit
def hasB (zs:List Int) (x:Int):Bool:=zs.contains x
theorem in_any (A:Option Addr) (l c:Nat) (zs:List Int) (x:Int) (w:World) (hz:Ints w A l zs) (hl:l≤9223372036854775807) :
  Calls Tryz.prog 136 #[.slice A l c,.int .i64 x] w fun e w'=>e=.returned (.bool (hasB zs x))∧w=w':=by
 have HZ:=hZ hz
 clear hz
 go_enter Tryz.func136,Tryz.ntmps136
 go_wp2
 go_loop [9] (fun i=>∃ j:Nat,j≤l∧i=.int .i64 j∧hasB (zs.take j) x=false) (fun i=>l-(intOf i).toNat)
 case atStart=>exact⟨0,by omega,rfl,rfl⟩
 case round=>
  obtain⟨j,hj,rfl,heq⟩:=hrel
  have HE:=hZ heq
  clear heq
  by_cases hlt:j<l
  ·obtain⟨b,o,rfl,hlb,hc⟩:=HZ.out.2.2 (by omega)
   have cz:=hc j hlt
   obtain⟨y,ey⟩:∃ y,y=zs.getD j 0:=⟨_,rfl⟩
   rw [← ey] at cz
   have htk:=take_one zs j 0 (by rw [HZ.out.1];exact hlt)
   rw [← ey] at htk
   have HT:=hZ htk
   clear ey hc htk
   by_cases h:y=x
   ·have t:(y==x)=true:=by simpa using h
    have HF:Hid (hasB zs x=true):=by
     show hasB zs x=true
     unfold hasB
     rw [← List.take_append_drop (j+1) zs,HT.out,h]
     simp
    clear h
    go_wp2
    go_ret
    exact⟨by rw [HF.out];rfl,rfl⟩
   ·have t:(y==x)=false:=by simpa using h
    have HF:Hid (hasB (zs.take (j+1)) x=false):=by
     show hasB (zs.take (j+1)) x=false
     have:=HE.out
     unfold hasB at this ⊢
     rw [HT.out]
     simp at this ⊢
     exact⟨this,fun e=>h e.symm⟩
    clear h
    go_wp2
    go_round
    case rel=>exact⟨j+1,by omega,by go_num,HF.out⟩
    case measure=>simp [intOf];omega
  ·have HF:Hid (hasB zs x=false):=by
    show hasB zs x=false
    unfold hasB
    have:=HE.out
    unfold hasB at this
    rw [List.take_of_length_le (by rw [HZ.out.1];omega)] at this
    exact this
   go_wp2
   go_ret
   exact⟨by rw [HF.out];rfl,rfl⟩
def ofInts (zs:List Int) (n:Nat):List Int:=(List.range n).map fun (j:Nat)=>if hasB zs (j:Int) then 1 else 0
theorem ofInts_succ (zs:List Int) (n:Nat):ofInts zs (n+1)=ofInts zs n++[if hasB zs (n:Int) then 1 else 0]:=by simp [ofInts,List.range_succ]
theorem ofInts_len (zs:List Int) (n:Nat):(ofInts zs n).length=n:=by simp [ofInts]
theorem ofInts_get (zs:List Int) (n j:Nat) (h:j<n):(ofInts zs n).getD j 0=if hasB zs (j:Int) then 1 else 0:=by simp [ofInts,List.getD,h]
theorem ofInts_lt (zs:List Int) (n j:Nat):-9223372036854775808≤(ofInts zs n).getD j 0∧(ofInts zs n).getD j 0≤9223372036854775807:=by
 by_cases h:j<n
 ·rw [ofInts_get zs n j h]
  split<;>omega
 ·have hn:(ofInts zs n)[j]?=none:=List.getElem?_eq_none (by rw [ofInts_len];omega)
  simp only [List.getD,hn,Option.getD_none]
  omega
theorem orBit_test (ws:List Nat) (p i j:Nat) (hi:i<ws.length):((orBit ws p).getD i 0).testBit j=((ws.getD i 0).testBit j||(p / 64==i&&p%64==j)):=by
 unfold orBit
 by_cases h:p / 64=i
 ·subst h
  have e:(ws.set (p / 64) (ws.getD (p / 64) 0 ||| 2 ^ (p%64))).getD (p / 64) 0=ws.getD (p / 64) 0 ||| 2 ^ (p%64):=by
   simp [List.getD,hi]
  rw [e,Nat.testBit_or,Nat.testBit_two_pow]
  simp
  rfl
 ·have e:(ws.set (p / 64) (ws.getD (p / 64) 0 ||| 2 ^ (p%64))).getD i 0=ws.getD i 0:=by
   simp [List.getD,List.getElem?_set,h]
  have h':(p / 64==i)=false:=by simpa using h
  rw [e,h'];simp
theorem foldl_test (ps:List Int) (ws:List Nat) (i j:Nat) (hi:i<ws.length):((ps.foldl (fun ws p=>orBit ws p.toNat) ws).getD i 0).testBit j=((ws.getD i 0).testBit j||ps.any fun p=>p.toNat / 64==i&&p.toNat%64==j):=by
 induction ps generalizing ws with
 | nil=>simp
 | cons p ps ih=>
   rw [List.foldl_cons,ih (orBit ws p.toNat) (by rw [orBit_length];exact hi),orBit_test ws p.toNat i j hi,List.any_cons,Bool.or_assoc]
theorem ofBits_test (n:Nat) (ps:List Int) (i j:Nat) (hi:i<nw n):((ofBits n ps).getD i 0).testBit j=ps.any fun p=>p.toNat / 64==i&&p.toNat%64==j:=by
 unfold ofBits
 rw [foldl_test ps _ i j (by simpa using hi)]
 have e:(List.replicate (nw n) 0).getD i 0=0:=by simp [List.getD,hi]
 rw [e];simp
theorem from_of (n:Nat) (zs:List Int) (ht:there n zs=true):fromL (bitsOf (ofInts zs n)) (nw n)=ofBits n zs:=by
 apply List.ext_getElem
 ·rw [fromL_len,ofBits_len]
 ·intro i hi1 hi2
  have hi:i<nw n:=by rw [fromL_len] at hi1;exact hi1
  have eo:(ofBits n zs)[i]=(ofBits n zs).getD i 0:=by simp [List.getD,hi2]
  simp only [fromL,List.getElem_map,List.getElem_range]
  rw [eo]
  apply Nat.eq_of_testBit_eq
  intro j
  rw [accM_bit _ _ _ _ (Nat.le_refl _),ofBits_test n zs i j hi]
  have hall:∀ p∈zs,0≤p∧p<n:=by
   intro p hp
   have:=(List.all_eq_true.1 ht) p hp
   simpa using this
  by_cases hj:j<64
  ·have hd:decide (j<64)=true:=by simpa using hj
   rw [hd,Bool.true_and,show 64*i+(64-64+j)=64*i+j by omega]
   rw [Bool.eq_iff_iff,List.any_eq_true]
   unfold bitsOf
   rw [ofInts_len,Bool.and_eq_true]
   constructor
   ·rintro ⟨h1,h2⟩
    have h1':64*i+j<n:=by simpa using h1
    rw [ofInts_get zs n _ h1'] at h2
    by_cases hc:hasB zs ((64*i+j:Nat):Int)=true
    ·refine⟨((64*i+j:Nat):Int),by simpa [hasB] using hc,?_⟩
     rw [Int.toNat_natCast]
     simp
     omega
    ·rw [if_neg hc] at h2
     simp at h2
   ·rintro ⟨p,hp,hb⟩
    have hr:=hall p hp
    obtain⟨q,rfl⟩:=Int.eq_ofNat_of_zero_le hr.1
    rw [Int.toNat_natCast] at hb
    simp at hb
    have e:64*i+j=q:=by omega
    have hq:q<n:=by omega
    rw [e]
    refine⟨by simpa using hq,?_⟩
    rw [ofInts_get zs n q hq]
    have hc:hasB zs (q:Int)=true:=by simpa [hasB] using hp
    rw [if_pos hc];rfl
  ·have hd:decide (j<64)=false:=by simpa using hj
   rw [hd,Bool.false_and]
   symm
   rw [List.any_eq_false]
   intro p _
   simp
   intro _
   omega
end
section
/- Contracts of the reference's layer 8: Places, Row. -/
open Go.RowKit
def RPlOut (k id:Nat) (w:World) (e:Ending) (w':World):Prop:=
 ∃ v,e=.returned v∧w'.ownsRow w.heap.size 3 1 v (nbMany k id) ((nbL k id).map natV)∧Below w.heap.size w w'
set_option maxRecDepth 100000 in
set_option maxHeartbeats 1000000 in
theorem refPlaces_any (k id:Nat) (h1:1≤k) (h2:k≤64) (hi:id<18446744073709551616) (w:World):Calls Tryz.prog 123 #[.int .i64 k,.int .u64 id] w (RPlOut k id w):=by
 have HST:=hZ (refMixed_any id hi)
 have HTB:=hZ (refTable_any k h1 h2)
 have HR:=hZ (nbMany_range k id h1 h2)
 have HTK:=hZ (tab_k k h1 h2)
 have HTL:=hZ (show (tbl (wgts k k)).length=k by rw [tbl_len,wgts_len])
 have HTW:=hZ (tbl_lt (wgts k k))
 have HSM:=hZ (refSome_any (nbState id) k (nbMany k id) (nbState_lt id) h1 (by omega) HR.out.2)
 have HX:=hZ (refMixed_any (nbState id) (nbState_lt id))
 have HXL:=hZ (mixN_lt (nbState id))
 have HNL:=hZ (nb_len k id h1 h2)
 have HPK:=hZ (show nbMany k id=pickD (tbl (wgts k k)) (mixN (nbState id)) from rfl)
 have HE:=hZ (show IntKind.u64.wrap (((mixN id:Nat):Int)+11400714819323198485)=((nbState id:Nat):Int) by rw [IntKind.wrap_u64,nbState,nextS];rfl)
 have HF:∀ (x v:Value) (w:World),(Instr.field 184 (.agg #[x,v]) 1).run Tryz.prog w=.ok v w:=fun _ _ _=>by kernel_rfl
 go_enter Tryz.func123,Tryz.ntmps123
 go_wp2_with fail
 refine (HST.out _).mono ?_
 rintro e w1 ⟨rfl,rfl⟩
 go_wp2_with fail
 refine (HTB.out _).mono ?_
 rintro e w1 ⟨v,rfl,hown,hb⟩
 rw [HTL.out] at hown
 obtain⟨A,c,rfl,hlc,hcm,hw⟩:=own_slice hown HTW.out
 have HW:=hZ hw
 have B:=hZ hb
 clear hown hw hb HST HTB
 go_wp2_with fail
 try rw [HE.out]
 refine (HX.out _).mono ?_
 rintro e w2 ⟨rfl,rfl⟩
 go_wp2_with fail
 refine (refPick_any A k c _ _ _ HW.out (by unfold maxLen;omega) hlc HXL.out HTK.out).mono ?_
 rintro e w2 ⟨rfl,q,rfl⟩
 rw [← HPK.out]
 have B:=hZ (bdN B.out q)
 clear HW
 go_wp2_with fail
 try rw [HE.out]
 refine (HSM.out _).mono ?_
 rintro e w3 ⟨v,rfl,hown,hb⟩
 have B3:=hZ (chain B.out hb)
 have hsz:=B.out.size
 have hf:=HF (.int .u64 ((shufN k (nbState id)).1:Nat)) v
 go_wp2_with fail
 go_ret
 refine⟨v,rfl,?_,B3.out⟩
 have h:=own_low hown hsz
 rw [show (someN k (nbMany k id) (nbState id)).length=nbMany k id from HNL.out] at h
 exact h
end
section
/- The reference's From and Of: rows of words of the call's own. -/
open Go.RowKit
set_option maxHeartbeats 1000000 in
theorem from_own (A:Option Addr) (l c:Nat) (zs:List Int) (w:World) (hz:Ints w A l zs) (hl:l≤10000) :
  Calls Tryz.prog 126 #[.slice A l c] w (OneOwn l (fromL (bitsOf zs) (nw l)) w):=by
 obtain⟨i0,hi,hz0,hz1,hz2⟩:=info_parts u64_info
 have hnw:nw l≤1000:=by unfold nw;omega
 have Q0:=hZ ((Box.new w 139 #[.int .i64 0,.slice none 0 0]).alloc (.cells #[.int .i64 l,.slice none 0 0] 139))
 have q1:=Box.new (w.alloc (.cells #[.int .i64 0,.slice none 0 0] 139)) 139 #[.int .i64 l,.slice none 0 0]
 simp only [World.size_alloc] at q1
 have Q1:=hZ q1
 have HW:=hZ (show Below w.heap.size w ((w.alloc (.cells #[.int .i64 0,.slice none 0 0] 139)).alloc (.cells #[.int .i64 l,.slice none 0 0] 139)) from ((Below.refl _ _).alloc (Nat.le_refl _) _).alloc (by simp) _)
 have HZ:=hZ hz
 clear hz q1
 have HI:=hZ hi
 have HZ0:=hZ hz0
 have HZ1:=hZ hz1
 have HZ2:=hZ hz2
 clear hi hz0 hz1 hz2
 go_enter Tryz.func126,Tryz.ntmps126
 go_wp2
 go_loopw [4] (fun t wr=>∃ (i:Nat) (v:Value),i≤nw l∧t=.int .i64 i∧Box wr (w.heap.size+1) 139 #[.int .i64 l,v]∧wr.ownsRow w.heap.size 22 1 v i ((fromL (bitsOf zs) i).map fun (x:Nat)=>Value.int .u64 (x:Int))∧Box wr w.heap.size 139 #[.int .i64 0,.slice none 0 0]∧Below w.heap.size w wr)
  (fun t _=>nw l-(intOf t).toNat)
 case atStart=>exact⟨0,_,by omega,rfl,Q1.out,World.ownsRow_nil _ _ _ _,Q0.out,HW.out⟩
 case round=>
  obtain⟨i,v,hi,rfl,B1,hown,B0,hbel⟩:=hrel
  have R1:=hZ B1
  have R0:=hZ B0
  have HO:=hZ hown
  have HB:=hZ hbel
  clear B1 B0 hown hbel Q0 Q1 HW
  by_cases hlt:i<nw l
  ·go_wp2_with fail
   refine (refWords_any l (by omega) _).mono ?_
   rintro e w' ⟨rfl,rfl⟩
   go_wp2
   go_loop [6,5] (fun s x=>∃ k:Nat,k≤64∧s=.int .i64 ((k:Int)-1)∧x=.int .u64 (accM (bitsOf zs) i (64-k):Nat)) (fun s _=>(intOf s+1).toNat)
   case atStart=>exact⟨64,by omega,rfl,rfl⟩
   case round=>
    obtain⟨k,hk,rfl,rfl⟩:=hrel
    cases k with
    | zero=>
      obtain⟨A',c',rfl,hA'⟩:=own_form HO.out
      obtain⟨a0,a1,f0,f1⟩:=R1.out.two
      have hz:=R1.out.lt
      have hacc:=accM_lt (bitsOf zs) i 64
      generalize hX:accM (bitsOf zs) i (64-0)=x at *
      have HX:=hZ hX
      clear hX
      have hi':=HI.out
      have hz0':=HZ0.out
      have hz1':=HZ1.out
      have hz2':=HZ2.out
      have hne:(22:TypeId)≠139:=by decide
      have X1:=hZ (R1.out.alloc (.cells #[.int .u64 (x:Int)] 22))
      have X0:=hZ (R0.out.alloc (.cells #[.int .u64 (x:Int)] 22))
      have XO:=hZ (HO.out.alloc (.cells #[.int .u64 (x:Int)] 22))
      have XB:=hZ (HB.out.alloc HB.out.size (.cells #[.int .u64 (x:Int)] 22))
      have N1:=hZ (own_ne XO.out X1.out hne)
      have N0:=hZ (own_ne XO.out X0.out hne)
      have hsz:w.heap.size≤(wr.alloc (.cells #[.int .u64 (x:Int)] 22)).heap.size:=XB.out.size
      have HSZ:=hZ hsz
      have N2:=hZ (fun k hk=>(HO.out.lt k hk).1)
      clear hsz hne
      go_wp2_with (at_builtin;refine wpList_append_own _ rfl _ _ 137 rfl w.heap.size 22 i0 (.int .u64 0) 1 8 Tryz.underlying137 hi' hz0' hz1' hz2' rfl (by decide) _ _ _ rfl XO.out ⟨wr.heap.size,0,none⟩ 1 1 [.int .u64 (x:Int)] rfl rfl (cell_one_new _ _ _) (by simp [Value.oneCell']) (by simp [maxLen];omega) (by omega) HSZ.out ?_;intro v' w1 hown' hgrow _;obtain⟨A2,c2,rfl,hA2⟩:=own_form hown';have S1:=hZ (X1.out.grown hgrow N1.out);have S0:=hZ (X0.out.grown hgrow N0.out);have HC:=hZ (XB.out.grown hgrow HSZ.out N2.out);have HO2:=hZ hown';clear hown' hgrow hA2;obtain⟨e0,e1,g0,g1⟩:=S1.out.two)
      go_roundw
      case rel=>
       refine⟨i+1,_,by omega,by go_num,S1.out.put 1 _,?_,S0.out.far (p:=⟨w.heap.size+1,1,none⟩) (by simp) _,HC.out.setCell (p:=⟨w.heap.size+1,1,none⟩) (by simp) _⟩
       have h1:=HO2.out
       rw [fromL_succ,List.map_append]
       have h2:(accM (bitsOf zs) i 64)=x:=HX.out
       rw [List.map_cons,List.map_nil,h2]
       exact own_far h1 S1.out (by decide) 1 _
      case measure=>simp [intOf]<;>omega
    | succ j=>
      rw [show (((j+1:Nat):Int)-1)=(j:Int) by omega]
      have hx:=accM_lt (bitsOf zs) i (64-(j+1))
      have hp:2 ^ (64-(j+1))≤2 ^ 63:=Nat.pow_le_pow_right (by omega) (by omega)
      have hx2:accM (bitsOf zs) i (64-(j+1))<9223372036854775808:=by omega
      have HS:Hid (accM (bitsOf zs) i (64-j)=2*accM (bitsOf zs) i (64-(j+1))+if bitsOf zs (64*i+j) then 1 else 0):=by
       show _=_
       rw [show 64-j=(64-(j+1))+1 by omega]
       simp only [accM]
       rw [show 63-(64-(j+1))=j by omega]
      clear hx hp
      generalize accM (bitsOf zs) i (64-(j+1))=x at *
      by_cases hin:64*i+j<l
      ·obtain⟨b,o,rfl,hlb,hc⟩:=HZ.out.2.2 (by omega)
       have cz:=(HB.out.cell (p:=⟨b,o+(64*i+j),none⟩) hlb).trans (hc (64*i+j) hin)
       have hin':64*(i:Int)+j<l:=by omega
       obtain⟨y,ey⟩:∃ y,y=zs.getD (64*i+j) 0:=⟨_,rfl⟩
       rw [← ey] at cz
       have EY:=hZ ey
       clear ey hc
       by_cases hy:y=1
       ·have t1:(y==1)=true:=by simpa using hy
        clear hy
        have HB1:Hid (bitsOf zs (64*i+j)=true):=by
         show bitsOf zs (64*i+j)=true
         unfold bitsOf
         rw [← EY.out,t1,HZ.out.1]
         simpa using hin
        go_wp2
        go_round
        case rel=>exact⟨j,by omega,rfl,by rw [HS.out,HB1.out];first | rfl | go_num⟩
        case measure=>simp [intOf]<;>omega
       ·have t1:(y==1)=false:=by simpa using hy
        clear hy
        have HB1:Hid (bitsOf zs (64*i+j)=false):=by
         show bitsOf zs (64*i+j)=false
         unfold bitsOf
         rw [← EY.out,t1];simp
        go_wp2
        go_round
        case rel=>exact⟨j,by omega,rfl,by rw [HS.out,HB1.out];first | rfl | go_num⟩
        case measure=>simp [intOf]<;>omega
      ·have hin':¬ 64*(i:Int)+j<l:=by omega
       have HB1:Hid (bitsOf zs (64*i+j)=false):=by
        show bitsOf zs (64*i+j)=false
        unfold bitsOf
        rw [HZ.out.1];simp;omega
       go_wp2
       go_round
       case rel=>exact⟨j,by omega,rfl,by rw [HS.out,HB1.out];first | rfl | go_num⟩
       case measure=>simp [intOf]<;>omega
  ·obtain rfl:i=nw l:=by omega
   obtain⟨A',c',rfl,hA'⟩:=own_form HO.out
   obtain⟨a0,a1,-,-⟩:=R1.out.two
   obtain⟨b0,b1,f0,f1⟩:=R0.out.two
   go_wp2_with fail
   refine (refWords_any l (by omega) _).mono ?_
   rintro e w' ⟨rfl,rfl⟩
   go_wp2
   refine close_one Tryz.results126 rfl rfl R0.out.put2 Tryz.underlying139 rfl (by kernel_rfl) ⟨_,_,_,rfl,?_,?_⟩
   ·exact OwnW.put2 (own_low HO.out (Nat.zero_le _)) R0.out _ _
   ·exact (HB.out.setCell (p:=⟨w.heap.size,0,none⟩) (Nat.le_refl _) _).setCell (p:=⟨w.heap.size,1,none⟩) (Nat.le_refl _) _
set_option maxHeartbeats 1000000 in
theorem refOf_own (n:Nat) (A:Option Addr) (l c:Nat) (zs:List Int) (w:World) (hz:Ints w A l zs) (hl:l≤1000000) (hn:n≤512) (ht:there n zs=true) :
  Calls Tryz.prog 122 #[.int .i64 n,.slice A l c] w (OneOwn n (ofBits n zs) w):=by
 obtain⟨i0,hi,hz0,hz1,hz2⟩:=info_parts int_info
 have q0:=Box.new w 139 #[.int .i64 0,.slice none 0 0]
 have hW:Below w.heap.size w (w.alloc (.cells #[.int .i64 0,.slice none 0 0] 139)):=(Below.refl _ _).alloc (Nat.le_refl _) _
 go_enter Tryz.func122,Tryz.ntmps122
 go_wp2
 have how:=own_empty (w.alloc (.cells #[.int .i64 0,.slice none 0 0] 139)) w.heap.size 3 hW.size
 simp only [World.size_alloc] at how
 have HOw:=hZ how
 have Q0:=hZ (q0.alloc (.cells #[] 3))
 have HW:=hZ (hW.alloc hW.size (.cells #[] 3))
 have HZ:=hZ hz
 have HT:=hZ ht
 clear how q0 hW hz ht
 have HI:=hZ hi
 have HZ0:=hZ hz0
 have HZ1:=hZ hz1
 have HZ2:=hZ hz2
 clear hi hz0 hz1 hz2
 have hne:=hZ (show (3:TypeId)≠139 by decide)
 go_loopw [5,6] (fun v t wr=>∃ i:Nat,i≤n∧t=.int .i64 i∧wr.ownsRow w.heap.size 3 1 v i ((ofInts zs i).map (Value.int .i64))∧Box wr w.heap.size 139 #[.int .i64 0,.slice none 0 0]∧Below w.heap.size w wr)
  (fun _ t _=>n-(intOf t).toNat)
 case atStart=>exact⟨0,by omega,rfl,HOw.out,Q0.out,HW.out⟩
 case round=>
  obtain⟨i,hi,rfl,hown,B0,hbel⟩:=hrel
  have R0:=hZ B0
  have HO:=hZ hown
  have HB:=hZ hbel
  clear B0 hown hbel Q0 HW HOw
  by_cases hlt:i<n
  ·have hlt':(i:Int)<(n:Int):=by omega
   go_wp2_with fail
   refine (in_any A l c zs i _ (HZ.out.below HB.out) (by omega)).mono ?_
   rintro e w' ⟨rfl,rfl⟩
   have hi':=HI.out
   have hz0':=HZ0.out
   have hz1':=HZ1.out
   have hz2':=HZ2.out
   cases hc:hasB zs (i:Int) with
   | true=>
     have HS:Hid (ofInts zs (i+1)=ofInts zs i++[1]):=by
      show _=_
      rw [ofInts_succ,hc];rfl
     clear hc
     have X0:=hZ (R0.out.alloc (.cells #[.int .i64 1] 3))
     have XO:=hZ (HO.out.alloc (.cells #[.int .i64 1] 3))
     have XB:=hZ (HB.out.alloc HB.out.size (.cells #[.int .i64 1] 3))
     have N0:=hZ (own_ne XO.out X0.out hne.out)
     have N2:=hZ (fun k hk=>(HO.out.lt k hk).1)
     go_wp2_with (at_builtin;refine wpList_append_own _ rfl _ _ 106 rfl w.heap.size 3 i0 (.int .i64 0) 1 8 Tryz.underlying106 hi' hz0' hz1' hz2' rfl (by decide) _ _ _ rfl XO.out ⟨wr.heap.size,0,none⟩ 1 1 [.int .i64 1] rfl rfl (cell_one_new _ _ _) (by simp [Value.oneCell']) (by simp [maxLen];omega) (by omega) XB.out.size ?_;intro v' w1 hown' hgrow _;have S0:=hZ (X0.out.grown hgrow N0.out);have HC:=hZ (XB.out.grown hgrow XB.out.size N2.out);have HO2:=hZ hown';clear hown' hgrow)
     go_roundw
     case rel=>
      refine⟨i+1,by omega,by go_num,?_,S0.out,HC.out⟩
      rw [HS.out,List.map_append]
      exact HO2.out
     case measure=>simp [intOf]<;>omega
   | false=>
     have HS:Hid (ofInts zs (i+1)=ofInts zs i++[0]):=by
      show _=_
      rw [ofInts_succ,hc];rfl
     clear hc
     have X0:=hZ (R0.out.alloc (.cells #[.int .i64 0] 3))
     have XO:=hZ (HO.out.alloc (.cells #[.int .i64 0] 3))
     have XB:=hZ (HB.out.alloc HB.out.size (.cells #[.int .i64 0] 3))
     have N0:=hZ (own_ne XO.out X0.out hne.out)
     have N2:=hZ (fun k hk=>(HO.out.lt k hk).1)
     go_wp2_with (at_builtin;refine wpList_append_own _ rfl _ _ 106 rfl w.heap.size 3 i0 (.int .i64 0) 1 8 Tryz.underlying106 hi' hz0' hz1' hz2' rfl (by decide) _ _ _ rfl XO.out ⟨wr.heap.size,0,none⟩ 1 1 [.int .i64 0] rfl rfl (cell_one_new _ _ _) (by simp [Value.oneCell']) (by simp [maxLen];omega) (by omega) XB.out.size ?_;intro v' w1 hown' hgrow _;have S0:=hZ (X0.out.grown hgrow N0.out);have HC:=hZ (XB.out.grown hgrow XB.out.size N2.out);have HO2:=hZ hown';clear hown' hgrow)
     go_roundw
     case rel=>
      refine⟨i+1,by omega,by go_num,?_,S0.out,HC.out⟩
      rw [HS.out,List.map_append]
      exact HO2.out
     case measure=>simp [intOf]<;>omega
  ·obtain rfl:i=n:=by omega
   have hlt':¬ (i:Int)<(i:Int):=by omega
   obtain⟨A',c',rfl,hA'⟩:=own_form HO.out
   go_wp2_with fail
   refine (from_own A' i c' _ _ (own_ints HO.out (ofInts_lt zs i)) (by omega)).mono ?_
   rintro e x1 ⟨A1,l1,c1,rfl,hw,hb⟩
   have P0:=hZ (R0.out.keep hb)
   have T1:=hZ (chain HB.out hb)
   have HWo:=hZ hw
   clear hw hb
   obtain⟨r0,r1,r2,r3⟩:=P0.out.two
   go_wp2
   refine close_one Tryz.results122 rfl rfl P0.out.put2 Tryz.underlying139 rfl (by kernel_rfl) ⟨_,_,_,rfl,?_,?_⟩
   ·have h:=HWo.out
    rw [from_of i zs HT.out] at h
    exact h.put2 P0.out _ _
   ·exact (T1.out.setCell (p:=⟨w.heap.size,0,none⟩) (Nat.le_refl _) _).setCell (p:=⟨w.heap.size,1,none⟩) (Nat.le_refl _) _
end
section
/- The reference's From, Of, Row: rows of words of the call's own. -/
open Go.RowKit
set_option maxHeartbeats 1000000 in
theorem refRow_own (k id:Nat) (h1:1≤k) (h2:k≤64) (hi:id<18446744073709551616) (w:World):Calls Tryz.prog 99 #[.int .i64 k,.int .u64 id] w (OneOwn k (nbRow k id) w):=by
 have HS:=hZ (refPlaces_any k id h1 h2 hi)
 have HM:=hZ (nbMany_range k id h1 h2)
 have HT:=hZ (nb_there k id)
 have q0:=Box.new w 139 #[.int .i64 0,.slice none 0 0]
 have Q0:=hZ q0
 have HW:=hZ (show Below w.heap.size w (w.alloc (.cells #[.int .i64 0,.slice none 0 0] 139)) from (Below.refl _ _).alloc (Nat.le_refl _) _)
 clear q0
 go_enter Tryz.func99,Tryz.ntmps99
 go_wp2_with fail
 refine (HS.out _).mono ?_
 rintro e w1 ⟨v,rfl,hown,hb⟩
 obtain⟨A,c,rfl,hA⟩:=own_form hown
 have Q0:=hZ (Q0.out.keep hb)
 have HW:=hZ (chain HW.out hb)
 have HI:=hZ (own_natInts hown (some_bound k _ _ (by omega)))
 clear hown hb
 go_wp2_with fail
 refine (refOf_own k A (nbMany k id) c _ _ HI.out (by have:=HM.out.2;omega) (by omega) HT.out).mono ?_
 rintro e w2 ⟨A2,l,c2,rfl,hw,hb⟩
 have P0:=hZ (Q0.out.keep hb)
 have T1:=hZ (chain HW.out hb)
 have HWo:=hZ hw
 clear hw hb
 obtain⟨r0,r1,r2,r3⟩:=P0.out.two
 go_wp2
 refine close_one Tryz.results99 rfl rfl P0.out.put2 Tryz.underlying139 rfl (by kernel_rfl) ⟨_,_,_,rfl,HWo.out.put2 P0.out _ _,?_⟩
 exact (T1.out.setCell (p:=⟨w.heap.size,0,none⟩) (Nat.le_refl _) _).setCell (p:=⟨w.heap.size,1,none⟩) (Nat.le_refl _) _
end
section
/- The reference's Rows. -/
open Go.RowKit
end
section
/- The reference's Same of two matrices. -/
open Go.RowKit
end
section
/- NeighboursTell: the walk. -/
open Go.RowKit
end
section
/- NeighboursRows: the walk. -/
open Go.RowKit
theorem nbRow_lt (k id j:Nat):(nbRow k id).getD j 0<18446744073709551616:=ofBits_lt k _ j
theorem rowsRows_lt (k:Nat) (zs:List Nat) (j i:Nat):((zs.map (nbRow k)).getD j []).getD i 0<18446744073709551616:=by
 by_cases h:j<zs.length
 ·have e:(zs.map (nbRow k)).getD j []=nbRow k (zs.getD j 0):=by simp [List.getD,h]
  rw [e];exact nbRow_lt _ _ _
 ·have e:(zs.map (nbRow k)).getD j []=[]:=by simp [List.getD,List.getElem?_eq_none (Nat.le_of_not_lt h)]
  rw [e];simp
theorem rows_yes (k:Nat) (h1:1≤k) (h2:k≤64) (A:Option Addr) (l c:Nat) (zs:List Nat) (w:World) (hz:Words w A l zs) (hl:l≤64) :
  Calls Tryz.prog 134 #[.int .i64 k,.slice A l c] w (MatOut k (nbRow k) zs w):=by
 have HM:=srcMay_any k
 rw [kmb_yes (n:=k) (by omega)] at HM
 exact rows_gen k (nbRow k) ⟨h1,h2⟩ HM (fun id hi w=>srcRow_own k id h1 h2 hi w) A l c zs w hz hl
theorem MatW.form {w:World} {base:Nat} {k:Int} {v:Value} {ls:List (List Nat)} {n:Nat} (h:MatW w base k v ls) (hn:ls.length=n):∃ A c,v=.slice A n c:=by
 obtain⟨rs,-,h2,-⟩:=h
 obtain⟨A,c,h,-⟩:=own_form h2
 exact⟨A,c,by rw [h,hn]⟩
end
section
/- Rows that are numbers: what some of them span, by xor; reduced rows, and that they are one. No program. -/
def xs (S:List Nat):Nat:=S.foldr (·^^^·) 0
theorem xs_cons (a:Nat) (S:List Nat):xs (a::S)=a^^^xs S:=rfl
theorem xs_append (S T:List Nat):xs (S++T)=xs S^^^xs T:=by
 induction S with
 | nil=>simp [xs]
 | cons a S ih=>rw [List.cons_append,xs_cons,xs_cons,ih,Nat.xor_assoc]
def Sp (L:List Nat) (v:Nat):Prop:=∃ S:List Nat,(∀ x∈S,x∈L)∧v=xs S
theorem sp_zero (L:List Nat):Sp L 0:=⟨[],(fun _ h=>by cases h),rfl⟩
theorem sp_mem {L:List Nat} {r:Nat} (h:r∈L):Sp L r:=⟨[r],fun x hx=>by simp at hx;subst hx;exact h,by simp [xs]⟩
theorem sp_xor {L:List Nat} {v u:Nat} (hv:Sp L v) (hu:Sp L u):Sp L (v^^^u):=by
 obtain⟨S,h1,rfl⟩:=hv
 obtain⟨T,h2,rfl⟩:=hu
 exact⟨S++T,fun x hx=>by rcases List.mem_append.1 hx with h | h;exact h1 x h;exact h2 x h,(xs_append S T).symm⟩
theorem sp_ind {L:List Nat} {P:Nat→Prop} (h0:P 0) (hs:∀ r u,r∈L→P u→P (r^^^u)) {v:Nat} (h:Sp L v):P v:=by
 obtain⟨S,h1,rfl⟩:=h
 induction S with
 | nil=>exact h0
 | cons a S ih=>exact hs a _ (h1 a (by simp)) (ih (fun x hx=>h1 x (by simp [hx])))
theorem sp_sub {L M:List Nat} (h:∀ r∈L,Sp M r) {v:Nat} (hv:Sp L v):Sp M v:=
 sp_ind (sp_zero M) (fun r u hr hu=>sp_xor (h r hr) hu) hv
def SameSp (L M:List Nat):Prop:=∀ v,Sp L v↔Sp M v
theorem SameSp.of {L M:List Nat} (h1:∀ r∈L,Sp M r) (h2:∀ r∈M,Sp L r):SameSp L M:=fun _=>⟨sp_sub h1,sp_sub h2⟩
theorem SameSp.refl (L:List Nat):SameSp L L:=fun _=>Iff.rfl
theorem SameSp.trans {L M K:List Nat} (h:SameSp L M) (k:SameSp M K):SameSp L K:=fun v=>(h v).trans (k v)
theorem SameSp.symm {L M:List Nat} (h:SameSp L M):SameSp M L:=fun v=>(h v).symm
theorem xor_cancel {a b:Nat} (h:a^^^b=0):a=b:=by
 apply Nat.eq_of_testBit_eq
 intro i
 have:=congrArg (fun x=>x.testBit i) h
 simp only [Nat.testBit_xor,Nat.zero_testBit] at this
 revert this
 cases a.testBit i<;>cases b.testBit i<;>simp
theorem xor_back (a b:Nat):a^^^b^^^b=a:=by rw [Nat.xor_assoc,Nat.xor_self,Nat.xor_zero]
def IsLow (v p:Nat):Prop:=v.testBit p=true∧∀ q,q<p→v.testBit q=false
theorem IsLow.uniq {v p q:Nat} (h:IsLow v p) (k:IsLow v q):p=q:=by
 rcases Nat.lt_trichotomy p q with hl | hl | hl
 ·have:=k.2 p hl;rw [h.1] at this;cases this
 ·exact hl
 ·have:=h.2 q hl;rw [k.1] at this;cases this
theorem low_exists {v:Nat} (h:v≠0):∃ p,IsLow v p:=by
 have ex:∃ p,v.testBit p=true:=by
  by_cases hn:∃ p,v.testBit p=true
  ·exact hn
  ·exact absurd (Nat.eq_of_testBit_eq (fun i=>by
    rw [Nat.zero_testBit]
    cases hb:v.testBit i with
    | false=>rfl
    | true=>exact absurd ⟨i,hb⟩ hn)) h
 obtain⟨p,hp⟩:=ex
 induction p using Nat.strongRecOn with
 | _ p ih=>
   by_cases hq:∃ q,q<p∧v.testBit q=true
   ·obtain⟨q,hl,hb⟩:=hq;exact ih q hl hb
   ·exact⟨p,hp,fun q hl=>by
     cases hb:v.testBit q with
     | false=>rfl
     | true=>exact absurd ⟨q,hl,hb⟩ hq⟩
structure Rref (L P:List Nat):Prop where
 len:L.length=P.length
 low:∀ i,i<L.length→IsLow (L.getD i 0) (P.getD i 0)
 one:∀ i j,i<L.length→j<L.length→(L.getD i 0).testBit (P.getD j 0)=decide (i=j)
 rise:∀ i j,i<j→j<L.length→P.getD i 0<P.getD j 0
def comb (L P:List Nat) (v:Nat):Nat→Nat
 | 0=>0
 | k+1=>comb L P v k^^^(if v.testBit (P.getD k 0) then L.getD k 0 else 0)
theorem comb_xor (L P:List Nat) (v u k:Nat):comb L P (v^^^u) k=comb L P v k^^^comb L P u k:=by
 induction k with
 | zero=>simp [comb]
 | succ k ih=>
   simp only [comb,ih,Nat.testBit_xor]
   generalize comb L P v k=a
   generalize comb L P u k=b
   generalize L.getD k 0=c
   cases v.testBit (P.getD k 0)<;>cases u.testBit (P.getD k 0)<;>simp
   ·rw [Nat.xor_assoc]
   ·rw [Nat.xor_assoc,Nat.xor_assoc,Nat.xor_comm c b]
   ·rw [Nat.xor_assoc,Nat.xor_comm c,Nat.xor_assoc,Nat.xor_self,Nat.xor_zero]
theorem comb_zero (L P:List Nat) (v k:Nat) (h:∀ j,j<k→v.testBit (P.getD j 0)=false):comb L P v k=0:=by
 induction k with
 | zero=>rfl
 | succ k ih=>rw [comb,ih (fun j hj=>h j (by omega)),h k (by omega)];simp
theorem comb_row {L P:List Nat} (h:Rref L P) (i:Nat) (hi:i<L.length):∀ k,k≤L.length→comb L P (L.getD i 0) k=if i<k then L.getD i 0 else 0
 | 0,_=>by simp [comb]
 | k+1,hk=>by
   rw [comb,comb_row h i hi k (by omega),h.one i k hi (by omega)]
   by_cases e:i=k
   ·subst e;simp
   ·by_cases hl:i<k
    ·simp [e,hl,show i<k+1 by omega]
    ·simp [e,hl,show ¬ i<k+1 by omega]
theorem mem_getD {L:List Nat} {r:Nat} (h:r∈L):∃ i,i<L.length∧L.getD i 0=r:=by
 obtain⟨i,hi,rfl⟩:=List.getElem_of_mem h
 exact⟨i,hi,by simp [List.getD,hi]⟩
theorem getD_mem {L:List Nat} {i:Nat} (h:i<L.length):L.getD i 0∈L:=by
 have:L.getD i 0=L[i]:=by simp [List.getD,h]
 rw [this];exact List.getElem_mem _
theorem Rref.comb {L P:List Nat} (h:Rref L P) {v:Nat} (hv:Sp L v):v=comb L P v L.length:=by
 refine sp_ind (P:=fun v=>v=YtcikoaeiopbbbaaGreat.comb L P v L.length) ?_ ?_ hv
 ·exact (comb_zero L P 0 _ (fun _ _=>by simp)).symm
 ·intro r u hr hu
  obtain⟨i,hi,rfl⟩:=mem_getD hr
  rw [comb_xor,← hu,comb_row h i hi _ (Nat.le_refl _),if_pos hi]
theorem Rref.zero {L P:List Nat} (h:Rref L P) {v:Nat} (hv:Sp L v) (hz:∀ j,j<L.length→v.testBit (P.getD j 0)=false):v=0:=by
 rw [h.comb hv];exact comb_zero L P v _ hz
theorem comb_below {L P:List Nat} (h:Rref L P) (v q i:Nat) (hi:∀ j,j<i→v.testBit (P.getD j 0)=false) (hq:i<L.length→q<P.getD i 0):∀ k,k≤L.length→(YtcikoaeiopbbbaaGreat.comb L P v k).testBit q=false
 | 0,_=>by simp [YtcikoaeiopbbbaaGreat.comb]
 | k+1,hk=>by
   rw [YtcikoaeiopbbbaaGreat.comb,Nat.testBit_xor,comb_below h v q i hi hq k (by omega)]
   by_cases hl:k<i
   ·rw [hi k hl];simp
   ·cases v.testBit (P.getD k 0) with
    | false=>simp
    | true=>
      have hr:P.getD i 0≤P.getD k 0:=by
       rcases Nat.lt_or_ge i k with h1 | h1
       ·exact Nat.le_of_lt (h.rise i k h1 (by omega))
       ·obtain rfl:i=k:=by omega
        exact Nat.le_refl _
      have:=(h.low k (by omega)).2 q (by have:=hq (by omega);omega)
      rw [if_pos rfl,this];rfl
theorem Rref.place {L P:List Nat} (h:Rref L P) (p:Nat):(p∈P)↔∃ v,Sp L v∧IsLow v p:=by
 constructor
 ·intro hp
  obtain⟨i,hi,rfl⟩:=mem_getD hp
  have hi':i<L.length:=by rw [h.len];exact hi
  exact⟨_,sp_mem (getD_mem hi'),h.low i hi'⟩
 ·rintro ⟨v,hv,hl⟩
  have ex:∃ i,i<L.length∧v.testBit (P.getD i 0)=true:=by
   by_cases hn:∃ i,i<L.length∧v.testBit (P.getD i 0)=true
   ·exact hn
   ·have:=h.zero hv (fun j hj=>by
     cases hb:v.testBit (P.getD j 0) with
     | false=>rfl
     | true=>exact absurd ⟨j,hj,hb⟩ hn)
    rw [this] at hl
    have h1:=hl.1
    simp at h1
  obtain⟨i,hi,hb,hmin⟩:∃ i,i<L.length∧v.testBit (P.getD i 0)=true∧∀ j,j<i→v.testBit (P.getD j 0)=false:=by
   obtain⟨i,hi,hb⟩:=ex
   induction i using Nat.strongRecOn with
   | _ i ih=>
     by_cases hq:∃ q,q<i∧v.testBit (P.getD q 0)=true
     ·obtain⟨q,hl,hb⟩:=hq;exact ih q hl (by omega) hb
     ·exact⟨i,hi,hb,fun q hl=>by
       cases hb:v.testBit (P.getD q 0) with
       | false=>rfl
       | true=>exact absurd ⟨q,hl,hb⟩ hq⟩
  have hlow:IsLow v (P.getD i 0):=⟨hb,fun q hq=>by rw [h.comb hv];exact comb_below h v q i hmin (fun _=>hq) _ (Nat.le_refl _)⟩
  rw [hl.uniq hlow]
  exact getD_mem (by rw [← h.len];exact hi)
theorem rising_uniq:∀ (P Q:List Nat),P.Pairwise (· < ·)→Q.Pairwise (· < ·)→(∀ x,x∈P↔x∈Q)→P=Q
 | [],[],_,_,_=>rfl
 | [],q::Q,_,_,h=>by have:=(h q).2 (by simp);cases this
 | p::P,[],_,_,h=>by have:=(h p).1 (by simp);cases this
 | p::P,q::Q,hp,hq,h=>by
   have hp':=List.pairwise_cons.1 hp
   have hq':=List.pairwise_cons.1 hq
   have e:p=q:=by
    have h1:=(h p).1 (by simp)
    have h2:=(h q).2 (by simp)
    rcases List.mem_cons.1 h1 with h1 | h1
    ·exact h1
    ·rcases List.mem_cons.1 h2 with h2 | h2
     ·exact h2.symm
     ·have:=hp'.1 q h2;have:=hq'.1 p h1;omega
   subst e
   congr 1
   refine rising_uniq P Q hp'.2 hq'.2 fun x=>⟨fun hx=>?_,fun hx=>?_⟩
   ·rcases List.mem_cons.1 ((h x).1 (by simp [hx])) with h1 | h1
    ·have:=hp'.1 x hx;omega
    ·exact h1
   ·rcases List.mem_cons.1 ((h x).2 (by simp [hx])) with h1 | h1
    ·have:=hq'.1 x hx;omega
    ·exact h1
theorem Rref.pairwise {L P:List Nat} (h:Rref L P):P.Pairwise (· < ·):=by
 rw [List.pairwise_iff_getElem]
 intro i j hi hj hij
 have:=h.rise i j hij (by rw [h.len];exact hj)
 simpa [List.getD,hi,hj] using this
theorem rref_uniq {L P M Q:List Nat} (h:Rref L P) (k:Rref M Q) (hs:SameSp L M):L=M∧P=Q:=by
 have hP:P=Q:=rising_uniq P Q h.pairwise k.pairwise fun x=>by
  rw [h.place,k.place]
  exact⟨fun ⟨v,a,b⟩=>⟨v,(hs v).1 a,b⟩,fun ⟨v,a,b⟩=>⟨v,(hs v).2 a,b⟩⟩
 subst hP
 have hl:L.length=M.length:=h.len.trans k.len.symm
 refine⟨List.ext_getElem hl fun i h1 h2=>?_,rfl⟩
 have hz:L.getD i 0^^^M.getD i 0=0:=h.zero (sp_xor (sp_mem (getD_mem h1)) ((hs _).2 (sp_mem (getD_mem h2)))) fun j hj=>by
  rw [Nat.testBit_xor,h.one i j h1 hj,k.one i j h2 (by omega)];simp
 have:=xor_cancel hz
 simpa [List.getD,h1,h2] using this
end
section
/- Rows reduced column by column. No program. -/
def swapL (L:List Nat) (d i:Nat):List Nat:=(L.set d (L.getD i 0)).set i (L.getD d 0)
def clearL (L:List Nat) (d c:Nat):List Nat:=(List.range L.length).map fun j=>if j≠d∧(L.getD j 0).testBit c=true then L.getD j 0^^^L.getD d 0 else L.getD j 0
theorem swapL_len (L:List Nat) (d i:Nat):(swapL L d i).length=L.length:=by simp [swapL]
theorem clearL_len (L:List Nat) (d c:Nat):(clearL L d c).length=L.length:=by simp [clearL]
theorem swapL_at (L:List Nat) (d i j:Nat) (hd:d<L.length) (hi:i<L.length):(swapL L d i).getD j 0=if j=i then L.getD d 0 else if j=d then L.getD i 0 else L.getD j 0:=by
 unfold swapL
 simp only [List.getD,List.getElem?_set,List.length_set]
 by_cases h1:j=i
 ·subst h1;simp [hi]
 ·by_cases h2:j=d
  ·subst h2;simp [h1,Ne.symm h1,hd]
  ·simp [h1,h2,Ne.symm h1,Ne.symm h2]
theorem clearL_at (L:List Nat) (d c j:Nat) (hj:j<L.length):(clearL L d c).getD j 0=if j≠d∧(L.getD j 0).testBit c=true then L.getD j 0^^^L.getD d 0 else L.getD j 0:=by
 simp [clearL,List.getD,hj]
structure Work (orig L:List Nat) (d c:Nat) (P:List Nat):Prop where
 span:SameSp orig L
 size:L.length=orig.length
 dp:P.length=d
 dl:d≤L.length
 low:∀ i,i<d→IsLow (L.getD i 0) (P.getD i 0)
 lt:∀ i,i<d→P.getD i 0<c
 rise:∀ i j,i<j→j<d→P.getD i 0<P.getD j 0
 one:∀ i j,i<L.length→j<d→(L.getD i 0).testBit (P.getD j 0)=decide (i=j)
 zero:∀ i,d≤i→i<L.length→∀ q,q<c→(L.getD i 0).testBit q=false
theorem work_start (orig:List Nat):Work orig orig 0 0 []:=
 ⟨SameSp.refl _,rfl,rfl,Nat.zero_le _,fun _ h=>absurd h (Nat.not_lt_zero _),fun _ h=>absurd h (Nat.not_lt_zero _),fun _ _ _ h=>absurd h (Nat.not_lt_zero _),fun _ _ _ h=>absurd h (Nat.not_lt_zero _),fun _ _ _ _ h=>absurd h (Nat.not_lt_zero _)⟩
theorem work_none {orig L P:List Nat} {d c:Nat} (h:Work orig L d c P) (hn:∀ i,d≤i→i<L.length→(L.getD i 0).testBit c=false):Work orig L d (c+1) P:=
 ⟨h.span,h.size,h.dp,h.dl,h.low,fun i hi=>by have:=h.lt i hi;omega,h.rise,h.one,fun i h1 h2 q hq=>by
  by_cases e:q=c
  ·subst e;exact hn i h1 h2
  ·exact h.zero i h1 h2 q (by omega)⟩
theorem swap_span (L:List Nat) (d i:Nat) (hd:d<L.length) (hi:i<L.length):SameSp L (swapL L d i):=by
 refine SameSp.of (fun r hr=>?_) (fun r hr=>?_)
 ·obtain⟨j,hj,rfl⟩:=mem_getD hr
  by_cases h1:j=i
  ·subst h1
   have e:=swapL_at L d j d hd hi
   by_cases h2:d=j
   ·subst h2;rw [if_pos rfl] at e;rw [← e];exact sp_mem (getD_mem (by rw [swapL_len];exact hd))
   ·rw [if_neg h2,if_pos rfl] at e;rw [← e];exact sp_mem (getD_mem (by rw [swapL_len];exact hd))
  ·by_cases h2:j=d
   ·subst h2
    have e:=swapL_at L j i i hd hi
    rw [if_pos rfl] at e;rw [← e];exact sp_mem (getD_mem (by rw [swapL_len];exact hi))
   ·have e:=swapL_at L d i j hd hi
    rw [if_neg h1,if_neg h2] at e;rw [← e];exact sp_mem (getD_mem (by rw [swapL_len];exact hj))
 ·obtain⟨j,hj,rfl⟩:=mem_getD hr
  rw [swapL_len] at hj
  rw [swapL_at L d i j hd hi]
  split
  ·exact sp_mem (getD_mem hd)
  ·split
   ·exact sp_mem (getD_mem hi)
   ·exact sp_mem (getD_mem hj)
theorem clear_span (L:List Nat) (d c:Nat) (hd:d<L.length):SameSp L (clearL L d c):=by
 have own:Sp (clearL L d c) (L.getD d 0):=by
  have e:=clearL_at L d c d hd
  simp only [ne_eq,not_true_eq_false,false_and,if_false] at e
  rw [← e];exact sp_mem (getD_mem (by rw [clearL_len];exact hd))
 refine SameSp.of (fun r hr=>?_) (fun r hr=>?_)
 ·obtain⟨j,hj,rfl⟩:=mem_getD hr
  have m:Sp (clearL L d c) ((clearL L d c).getD j 0):=sp_mem (getD_mem (by rw [clearL_len];exact hj))
  rw [clearL_at L d c j hj] at m
  split at m
  ·have:=sp_xor m own
   rw [xor_back] at this;exact this
  ·exact m
 ·obtain⟨j,hj,rfl⟩:=mem_getD hr
  rw [clearL_len] at hj
  rw [clearL_at L d c j hj]
  split
  ·exact sp_xor (sp_mem (getD_mem hj)) (sp_mem (getD_mem hd))
  ·exact sp_mem (getD_mem hj)
theorem getD_snoc (P:List Nat) (c j:Nat):(P++[c]).getD j 0=if j<P.length then P.getD j 0 else if j=P.length then c else 0:=by
 by_cases h:j<P.length
 ·rw [if_pos h];simp only [List.getD,List.getElem?_append_left h]
 ·by_cases e:j=P.length
  ·subst e;simp [List.getD]
  ·rw [if_neg h,if_neg e]
   have:(P++[c])[j]?=none:=List.getElem?_eq_none (by simp;omega)
   simp [List.getD,this]
theorem work_swap {orig L P:List Nat} {d c i:Nat} (h:Work orig L d c P) (h1:d≤i) (h2:i<L.length):Work orig (swapL L d i) d c P:=by
 have hd:d<L.length:=by omega
 refine⟨h.span.trans (swap_span L d i hd h2),(swapL_len _ _ _).trans h.size,h.dp,by rw [swapL_len];exact h.dl,fun j hj=>?_,h.lt,h.rise,fun j k hj hk=>?_,fun j hj1 hj2 q hq=>?_⟩
 ·rw [swapL_at L d i j hd h2,if_neg (by omega),if_neg (by omega)];exact h.low j hj
 ·rw [swapL_len] at hj
  rw [swapL_at L d i j hd h2]
  split
  ·rename_i e;subst e;rw [h.one d k hd hk];simp;omega
  ·split
   ·rename_i e;subst e;rw [h.one i k h2 hk];simp;omega
   ·exact h.one j k hj hk
 ·rw [swapL_len] at hj2
  rw [swapL_at L d i j hd h2]
  split
  ·exact h.zero d (Nat.le_refl _) hd q hq
  ·split
   ·exact h.zero i h1 h2 q hq
   ·exact h.zero j hj1 hj2 q hq
theorem work_clear {orig L P:List Nat} {d c:Nat} (h:Work orig L d c P) (hd:d<L.length) (hb:(L.getD d 0).testBit c=true):Work orig (clearL L d c) (d+1) (c+1) (P++[c]):=by
 have hz:=h.zero d (Nat.le_refl _) hd
 have low0:∀ j,j<L.length→∀ q,q<c→((clearL L d c).getD j 0).testBit q=(L.getD j 0).testBit q:=fun j hj q hq=>by
  rw [clearL_at L d c j hj]
  split
  ·rw [Nat.testBit_xor,hz q hq];simp
  ·rfl
 have atc:∀ j,j<L.length→((clearL L d c).getD j 0).testBit c=decide (j=d):=fun j hj=>by
  rw [clearL_at L d c j hj]
  by_cases e:j=d
  ·subst e;rw [if_neg (fun k=>k.1 rfl),hb];simp
  ·by_cases b:(L.getD j 0).testBit c=true
   ·rw [if_pos ⟨e,b⟩,Nat.testBit_xor,b,hb];simp [e]
   ·rw [if_neg (fun k=>b k.2),Bool.eq_false_iff.2 b];simp [e]
 refine⟨h.span.trans (clear_span L d c hd),(clearL_len _ _ _).trans h.size,by rw [List.length_append,h.dp];rfl,by rw [clearL_len];omega,fun j hj=>?_,fun j hj=>?_,fun j k hjk hk=>?_,fun j k hj hk=>?_,fun j h1 h2 q hq=>?_⟩
 ·rw [getD_snoc,h.dp]
  by_cases hjd:j<d
  ·rw [if_pos hjd]
   have hp:=h.lt j hjd
   have hl:=h.low j hjd
   exact⟨by rw [low0 j (by omega) _ hp];exact hl.1,fun q hq=>by rw [low0 j (by omega) q (by omega)];exact hl.2 q hq⟩
  ·obtain rfl:j=d:=by omega
   rw [if_neg (by omega),if_pos rfl]
   exact⟨by rw [atc j hd];simp,fun q hq=>by rw [low0 j hd q hq];exact hz q hq⟩
 ·rw [getD_snoc,h.dp]
  by_cases hjd:j<d
  ·rw [if_pos hjd];have:=h.lt j hjd;omega
  ·rw [if_neg hjd,if_pos (by omega)];omega
 ·rw [getD_snoc,getD_snoc,h.dp]
  rw [if_pos (show j<d by omega)]
  by_cases hkd:k<d
  ·rw [if_pos hkd];exact h.rise j k hjk hkd
  ·rw [if_neg hkd,if_pos (by omega)];exact h.lt j (by omega)
 ·rw [clearL_len] at hj
  rw [getD_snoc,h.dp]
  by_cases hkd:k<d
  ·rw [if_pos hkd,low0 j hj _ (h.lt k hkd)];exact h.one j k hj hkd
  ·obtain rfl:k=d:=by omega
   rw [if_neg (by omega),if_pos rfl];exact atc j hj
 ·rw [clearL_len] at h2
  by_cases e:q=c
  ·subst e;rw [atc j h2];simp;omega
  ·rw [low0 j h2 q (by omega)];exact h.zero j (by omega) h2 q (by omega)
theorem sp_lt {L:List Nat} {n:Nat} (h:∀ r∈L,r<2 ^ n) {v:Nat} (hv:Sp L v):v<2 ^ n:=
 sp_ind (P:=fun v=>v<2 ^ n) (Nat.two_pow_pos n) (fun r u hr hu=>Nat.xor_lt_two_pow (h r hr) hu) hv
theorem getD_take (L:List Nat) (d i:Nat) (h:i<d):(L.take d).getD i 0=L.getD i 0:=by simp [List.getD,List.getElem?_take,h]
theorem work_end {orig L P:List Nat} {d n:Nat} (h:Work orig L d n P) (hl:∀ r∈orig,r<2 ^ n):Rref (L.take d) P∧SameSp orig (L.take d):=by
 have hlen:(L.take d).length=d:=by rw [List.length_take];have:=h.dl;omega
 have hzero:∀ i,d≤i→i<L.length→L.getD i 0=0:=fun i h1 h2=>by
  apply Nat.eq_of_testBit_eq
  intro q
  rw [Nat.zero_testBit]
  by_cases hq:q<n
  ·exact h.zero i h1 h2 q hq
  ·have hlt:L.getD i 0<2 ^ n:=sp_lt hl ((h.span _).2 (sp_mem (getD_mem h2)))
   exact Nat.testBit_lt_two_pow (Nat.lt_of_lt_of_le hlt (Nat.pow_le_pow_right (by omega) (by omega)))
 refine⟨⟨by rw [hlen,h.dp],fun i hi=>?_,fun i j hi hj=>?_,fun i j hij hj=>?_⟩,h.span.trans (SameSp.of (fun r hr=>?_) (fun r hr=>?_))⟩
 ·rw [hlen] at hi;rw [getD_take L d i hi];exact h.low i hi
 ·rw [hlen] at hi hj;rw [getD_take L d i hi];exact h.one i j (by have:=h.dl;omega) hj
 ·rw [hlen] at hj;exact h.rise i j hij hj
 ·obtain⟨i,hi,rfl⟩:=mem_getD hr
  by_cases hd:i<d
  ·rw [← getD_take L d i hd];exact sp_mem (getD_mem (by rw [hlen];exact hd))
  ·rw [hzero i (by omega) hi];exact sp_zero _
 ·obtain⟨i,hi,rfl⟩:=mem_getD hr
  rw [hlen] at hi
  rw [getD_take L d i hi];exact sp_mem (getD_mem (by have:=h.dl;omega))
end
section
/- Rows reduced one behind the other: what is left of a row, and where it is put. No program. -/
def leftN (L P:List Nat) (r:Nat):Nat→Nat
 | 0=>r
 | k+1=>if (leftN L P r k).testBit (P.getD k 0) then leftN L P r k^^^L.getD k 0 else leftN L P r k
theorem leftN_bits {L P:List Nat} (h:Rref L P) (r:Nat):∀ k,k≤L.length→∀ j,j<L.length→(leftN L P r k).testBit (P.getD j 0)=if j<k then false else r.testBit (P.getD j 0)
 | 0,_,j,_=>by simp [leftN]
 | k+1,hk,j,hj=>by
   have ih:=leftN_bits h r k (by omega)
   rw [leftN]
   have hkk:=ih k (by omega)
   rw [if_neg (by omega)] at hkk
   by_cases hb:(leftN L P r k).testBit (P.getD k 0)=true
   ·rw [if_pos hb,Nat.testBit_xor,h.one k j (by omega) hj,ih j hj]
    by_cases e:k=j
    ·subst e
     rw [if_neg (by omega),← hkk,hb];simp
    ·by_cases hl:j<k
     ·simp [e,hl,show j<k+1 by omega]
     ·simp [e,hl,show ¬ j<k+1 by omega]
   ·rw [if_neg hb,ih j hj]
    by_cases e:k=j
    ·subst e
     rw [if_neg (by omega),if_pos (by omega),← hkk]
     simpa using hb
    ·by_cases hl:j<k
     ·simp [hl,show j<k+1 by omega]
     ·simp [hl,show ¬ j<k+1 by omega]
theorem leftN_span (L P:List Nat) (r:Nat):∀ k,k≤L.length→Sp L (r^^^leftN L P r k)
 | 0,_=>by simp only [leftN,Nat.xor_self];exact sp_zero L
 | k+1,hk=>by
   have ih:=leftN_span L P r k (by omega)
   rw [leftN]
   split
   ·rw [← Nat.xor_assoc];exact sp_xor ih (sp_mem (getD_mem (by omega)))
   ·exact ih
theorem left_zero {L P:List Nat} (h:Rref L P) (r:Nat):leftN L P r L.length=0↔Sp L r:=by
 have hs:=leftN_span L P r L.length (Nat.le_refl _)
 constructor
 ·intro h0
  rw [h0,Nat.xor_zero] at hs;exact hs
 ·intro hr
  refine h.zero ?_ fun j hj=>?_
  ·have:=sp_xor hr hs
   rw [← Nat.xor_assoc,Nat.xor_self,Nat.zero_xor] at this;exact this
  ·rw [leftN_bits h r _ (Nat.le_refl _) j hj,if_pos hj]
theorem cut_place {L P:List Nat} (h:Rref L P) (a:Nat) (hn:a ∉ P):∃ m,m≤L.length∧(∀ i,i<m→P.getD i 0<a)∧(∀ i,m≤i→i<L.length→a<P.getD i 0):=by
 have step:∀ k,k≤L.length→∃ m,m≤k∧(∀ i,i<m→P.getD i 0<a)∧(∀ i,m≤i→i<k→a<P.getD i 0):=by
  intro k
  induction k with
  | zero=>exact fun _=>⟨0,Nat.le_refl _,fun i hi=>absurd hi (Nat.not_lt_zero _),fun i _ hi=>absurd hi (Nat.not_lt_zero _)⟩
  | succ k ih=>
    intro hk
    obtain⟨m,h1,h2,h3⟩:=ih (by omega)
    have hne:P.getD k 0≠a:=fun e=>hn (e ▸ getD_mem (by rw [← h.len];omega))
    by_cases hlt:P.getD k 0<a
    ·refine⟨k+1,Nat.le_refl _,fun i hi=>?_,fun i h4 h5=>by omega⟩
     by_cases e:i=k
     ·subst e;exact hlt
     ·have:=h.rise i k (by omega) (by omega);omega
    ·refine⟨m,by omega,h2,fun i h4 h5=>?_⟩
     by_cases e:i=k
     ·subst e;omega
     ·exact h3 i h4 (by omega)
 exact step L.length (Nat.le_refl _)
def putW (L:List Nat) (r a m:Nat):List Nat:=(L.take m).map (fun x=>if x.testBit a then x^^^r else x)++r::L.drop m
def putP (P:List Nat) (a m:Nat):List Nat:=P.take m++a::P.drop m
theorem putW_at (L:List Nat) (r a m i:Nat) (hm:m≤L.length) (hi:i<L.length+1):(putW L r a m).getD i 0=if i<m then (if (L.getD i 0).testBit a then L.getD i 0^^^r else L.getD i 0) else if i=m then r else L.getD (i-1) 0:=by
 unfold putW
 by_cases h1:i<m
 ·have hl:i<L.length:=by omega
  rw [if_pos h1]
  simp only [List.getD]
  rw [List.getElem?_append_left (by simp;omega)]
  simp [List.getElem?_take,h1,hl]
 ·rw [if_neg h1]
  simp only [List.getD]
  rw [List.getElem?_append_right (by simp;omega)]
  have e:i-((L.take m).map (fun x=>if x.testBit a then x^^^r else x)).length=i-m:=by simp;omega
  rw [e]
  by_cases h2:i=m
  ·subst h2;simp
  ·rw [if_neg h2]
   obtain⟨d,hd⟩:∃ d,i-m=d+1:=⟨i-m-1,by omega⟩
   rw [hd,List.getElem?_cons_succ,List.getElem?_drop]
   congr 2;omega
theorem putP_at (P:List Nat) (a m i:Nat) (hm:m≤P.length) (hi:i<P.length+1):(putP P a m).getD i 0=if i<m then P.getD i 0 else if i=m then a else P.getD (i-1) 0:=by
 unfold putP
 by_cases h1:i<m
 ·rw [if_pos h1]
  simp only [List.getD]
  rw [List.getElem?_append_left (by simp;omega),List.getElem?_take,if_pos h1]
 ·rw [if_neg h1]
  simp only [List.getD]
  rw [List.getElem?_append_right (by simp;omega)]
  have e:i-(P.take m).length=i-m:=by simp;omega
  rw [e]
  by_cases h2:i=m
  ·subst h2;simp
  ·rw [if_neg h2]
   obtain⟨d,hd⟩:∃ d,i-m=d+1:=⟨i-m-1,by omega⟩
   rw [hd,List.getElem?_cons_succ,List.getElem?_drop]
   congr 2;omega
theorem putW_len (L:List Nat) (r a m:Nat) (hm:m≤L.length):(putW L r a m).length=L.length+1:=by simp [putW];omega
theorem putP_len (P:List Nat) (a m:Nat) (hm:m≤P.length):(putP P a m).length=P.length+1:=by simp [putP];omega
theorem put_rref {L P:List Nat} (h:Rref L P) (r a m:Nat) (hl:IsLow r a) (hz:∀ j,j<L.length→r.testBit (P.getD j 0)=false) (hm:m≤L.length)
  (h1:∀ i,i<m→P.getD i 0<a) (h2:∀ i,m≤i→i<L.length→a<P.getD i 0):Rref (putW L r a m) (putP P a m):=by
 have hmP:m≤P.length:=by rw [← h.len];exact hm
 have hLP:=h.len
 have lw:=putW_len L r a m hm
 have row:∀ i,i<L.length+1→∀ q,(∀ j,j<L.length→q=P.getD j 0→((putW L r a m).getD i 0).testBit q=(if i<m then L.getD i 0 else if i=m then r else L.getD (i-1) 0).testBit q):=fun i hi q j hj e=>by
  rw [putW_at L r a m i hm hi]
  split
  ·split
   ·rw [Nat.testBit_xor,e,hz j hj];simp
   ·rfl
  ·rfl
 have rowa:∀ i,i<L.length+1→((putW L r a m).getD i 0).testBit a=decide (i=m):=fun i hi=>by
  rw [putW_at L r a m i hm hi]
  by_cases e1:i<m
  ·rw [if_pos e1]
   by_cases hb:(L.getD i 0).testBit a=true
   ·rw [if_pos hb,Nat.testBit_xor,hb,hl.1];simp;omega
   ·rw [if_neg hb,Bool.eq_false_iff.2 hb];simp;omega
  ·rw [if_neg e1]
   by_cases e2:i=m
   ·rw [if_pos e2,hl.1];simp [e2]
   ·rw [if_neg e2,(h.low (i-1) (by omega)).2 a (h2 (i-1) (by omega) (by omega))];simp [e2]
 refine⟨by rw [lw,putP_len P a m hmP,h.len],fun i hi=>?_,fun i j hi hj=>?_,fun i j hij hj=>?_⟩
 ·rw [lw] at hi
  rw [putP_at P a m i hmP (by omega)]
  by_cases e1:i<m
  ·rw [if_pos e1,putW_at L r a m i hm hi,if_pos e1]
   have hlo:=h.low i (by omega)
   have hlt:=h1 i e1
   split
   ·exact⟨by rw [Nat.testBit_xor,hlo.1,hl.2 _ hlt];rfl,fun q hq=>by rw [Nat.testBit_xor,hlo.2 q hq,hl.2 q (by omega)];rfl⟩
   ·exact hlo
  ·rw [if_neg e1,putW_at L r a m i hm hi,if_neg e1]
   split
   ·exact hl
   ·exact h.low (i-1) (by omega)
 ·rw [lw] at hi hj
  rw [putP_at P a m j hmP (by omega)]
  by_cases e1:j<m
  ·rw [if_pos e1,row i hi _ j (by omega) rfl]
   by_cases f1:i<m
   ·rw [if_pos f1];exact h.one i j (by omega) (by omega)
   ·rw [if_neg f1]
    by_cases f2:i=m
    ·rw [if_pos f2,hz j (by omega)];simp;omega
    ·rw [if_neg f2,h.one (i-1) j (by omega) (by omega)];congr 1;apply propext;omega
  ·rw [if_neg e1]
   by_cases e2:j=m
   ·rw [if_pos e2,rowa i hi,e2]
   ·rw [if_neg e2,row i hi _ (j-1) (by omega) rfl]
    by_cases f1:i<m
    ·rw [if_pos f1,h.one i (j-1) (by omega) (by omega)];congr 1;apply propext;omega
    ·rw [if_neg f1]
     by_cases f2:i=m
     ·rw [if_pos f2,hz (j-1) (by omega)];simp;omega
     ·rw [if_neg f2,h.one (i-1) (j-1) (by omega) (by omega)];congr 1;apply propext;omega
 ·rw [lw] at hj
  rw [putP_at P a m i hmP (by omega),putP_at P a m j hmP (by omega)]
  by_cases e1:j<m
  ·rw [if_pos (by omega),if_pos e1];exact h.rise i j hij (by omega)
  ·rw [if_neg e1]
   by_cases e2:j=m
   ·rw [if_pos e2,if_pos (by omega)];exact h1 i (by omega)
   ·rw [if_neg e2]
    by_cases f1:i<m
    ·rw [if_pos f1];have:=h1 i f1;have:=h2 (j-1) (by omega) (by omega);omega
    ·rw [if_neg f1]
     by_cases f2:i=m
     ·rw [if_pos f2];exact h2 (j-1) (by omega) (by omega)
     ·rw [if_neg f2];exact h.rise (i-1) (j-1) (by omega) (by omega)
theorem put_span {L:List Nat} (r a m:Nat) (hm:m≤L.length):SameSp (L++[r]) (putW L r a m):=by
 have own:Sp (putW L r a m) r:=by
  have e:=putW_at L r a m m hm (by omega)
  rw [if_neg (by omega),if_pos rfl] at e
  have:=sp_mem (getD_mem (L:=putW L r a m) (i:=m) (by rw [putW_len L r a m hm];omega))
  rw [e] at this;exact this
 have ownL:Sp (L++[r]) r:=sp_mem (by simp)
 have mem:∀ i,i<L.length→Sp (L++[r]) (L.getD i 0):=fun i hi=>sp_mem (List.mem_append.2 (.inl (getD_mem hi)))
 refine SameSp.of (fun x hx=>?_) (fun x hx=>?_)
 ·rcases List.mem_append.1 hx with hx | hx
  ·obtain⟨i,hi,rfl⟩:=mem_getD hx
   by_cases h1:i<m
   ·have e:=putW_at L r a m i hm (by omega)
    rw [if_pos h1] at e
    have:=sp_mem (getD_mem (L:=putW L r a m) (i:=i) (by rw [putW_len L r a m hm];omega))
    rw [e] at this
    split at this
    ·have:=sp_xor this own;rw [xor_back] at this;exact this
    ·exact this
   ·have e:=putW_at L r a m (i+1) hm (by omega)
    rw [if_neg (by omega),if_neg (by omega),Nat.add_sub_cancel] at e
    have:=sp_mem (getD_mem (L:=putW L r a m) (i:=i+1) (by rw [putW_len L r a m hm];omega))
    rw [e] at this;exact this
  ·simp at hx;subst hx;exact own
 ·obtain⟨i,hi,rfl⟩:=mem_getD hx
  rw [putW_len L r a m hm] at hi
  rw [putW_at L r a m i hm hi]
  split
  ·split
   ·exact sp_xor (mem i (by omega)) ownL
   ·exact mem i (by omega)
  ·split
   ·exact ownL
   ·exact mem (i-1) (by omega)
theorem rref_more {L P:List Nat} (h:Rref L P) (r:Nat):∃ M Q,Rref M Q∧SameSp (L++[r]) M∧(Sp L r→M=L)∧(¬ Sp L r→M.length=L.length+1):=by
 by_cases hs:Sp L r
 ·refine⟨L,P,h,SameSp.of (fun x hx=>?_) (fun x hx=>sp_mem (List.mem_append.2 (.inl hx))),fun _=>rfl,fun k=>absurd hs k⟩
  rcases List.mem_append.1 hx with hx | hx
  ·exact sp_mem hx
  ·simp at hx;subst hx;exact hs
 ·have hne:leftN L P r L.length≠0:=fun e=>hs ((left_zero h r).1 e)
  have hsp:=leftN_span L P r L.length (Nat.le_refl _)
  have hz:∀ j,j<L.length→(leftN L P r L.length).testBit (P.getD j 0)=false:=fun j hj=>by rw [leftN_bits h r _ (Nat.le_refl _) j hj,if_pos hj]
  generalize leftN L P r L.length=x at *
  obtain⟨a,ha⟩:=low_exists hne
  have hn:a ∉ P:=fun hp=>by
   obtain⟨j,hj,rfl⟩:=mem_getD hp
   have:=hz j (by rw [h.len];exact hj)
   rw [ha.1] at this;cases this
  obtain⟨m,hm,h1,h2⟩:=cut_place h a hn
  refine⟨putW L x a m,putP P a m,put_rref h x a m ha hz hm h1 h2,SameSp.trans ?_ (put_span x a m hm),fun k=>absurd k hs,fun _=>putW_len L x a m hm⟩
  have liftL:∀ y,∀ v,Sp L v→Sp (L++[y]) v:=fun y v hv=>sp_sub (fun r hr=>sp_mem (List.mem_append.2 (.inl hr))) hv
  refine SameSp.of (fun y hy=>?_) (fun y hy=>?_)
  ·rcases List.mem_append.1 hy with hy | hy
   ·exact sp_mem (List.mem_append.2 (.inl hy))
   ·simp at hy;subst hy
    have:=sp_xor (liftL x _ hsp) (sp_mem (show x∈L++[x] by simp))
    rw [xor_back] at this;exact this
  ·rcases List.mem_append.1 hy with hy | hy
   ·exact sp_mem (List.mem_append.2 (.inl hy))
   ·simp at hy;subst hy
    have:=sp_xor (sp_mem (show r∈L++[r] by simp)) (liftL r _ hsp)
    rw [← Nat.xor_assoc,Nat.xor_self,Nat.zero_xor] at this;exact this
theorem rref_exists (ms:List Nat):∃ L P,Rref L P∧SameSp ms L∧L.length≤ms.length:=by
 have key:∀ k,k≤ms.length→∃ L P,Rref L P∧SameSp (ms.take k) L∧L.length≤k:=by
  intro k
  induction k with
  | zero=>exact fun _=>⟨[],[],⟨rfl,fun _ h=>absurd h (Nat.not_lt_zero _),fun _ _ h=>absurd h (Nat.not_lt_zero _),fun _ _ _ h=>absurd h (Nat.not_lt_zero _)⟩,by simpa using SameSp.refl [],Nat.le_refl _⟩
  | succ k ih=>
    intro hk
    obtain⟨L,P,h,hs,hl⟩:=ih (by omega)
    obtain⟨M,Q,g,gs,g1,g2⟩:=rref_more h (ms.getD k 0)
    refine⟨M,Q,g,SameSp.trans ?_ gs,?_⟩
    ·have e:ms.take (k+1)=ms.take k++[ms.getD k 0]:=by
      rw [List.take_succ_eq_append_getElem (by omega)];simp [List.getD,show k<ms.length by omega]
     rw [e]
     refine SameSp.of (fun y hy=>?_) (fun y hy=>?_)
     ·rcases List.mem_append.1 hy with hy | hy
      ·exact sp_sub (fun r hr=>sp_mem (List.mem_append.2 (.inl hr))) ((hs _).1 (sp_mem hy))
      ·simp at hy;subst hy;exact sp_mem (by simp)
     ·rcases List.mem_append.1 hy with hy | hy
      ·exact sp_sub (fun r hr=>sp_mem (List.mem_append.2 (.inl hr))) ((hs _).2 (sp_mem hy))
      ·simp at hy;subst hy;exact sp_mem (by simp)
    ·by_cases hsp:Sp L (ms.getD k 0)
     ·rw [g1 hsp];omega
     ·rw [g2 hsp];omega
 have:=key ms.length (Nat.le_refl _)
 rwa [List.take_length] at this
end
section
/- bitrow.Xor and New: rows of words of the call's own. -/
open Go.RowKit
set_option maxHeartbeats 400000 in
theorem joined_own (n:Int) (A B:Option Addr) (l c k d:Nat) (us vs:List Nat) (w:World) (hu:Words w A l us) (hv:Words w B k vs) (h1:rightB n us=true) (h2:rightB n vs=true) :
  Calls Tryz.prog 195 #[.agg #[.int .i64 n,.slice A l c],.agg #[.int .i64 n,.slice B k d],.func (.func 196) #[] #[]] w (OwnOut n (List.zipWith (·^^^·) us vs) w):=by
 have hl:l≤8:=rightB_len8 h1 hu.1
 have hkl:k=l:=rightB_len h1 h2 hu.1 hv.1
 subst hkl
 have q0:=((Box.new w 139 #[.int .i64 n,.slice A k c]).alloc (.cells #[.int .i64 n,.slice B k d] 139)).alloc (.cells #[.int .i64 0,.slice none 0 0] 139)
 have q1:=(Box.new (w.alloc (.cells #[.int .i64 n,.slice A k c] 139)) 139 #[.int .i64 n,.slice B k d]).alloc (.cells #[.int .i64 0,.slice none 0 0] 139)
 have q2:=Box.new ((w.alloc (.cells #[.int .i64 n,.slice A k c] 139)).alloc (.cells #[.int .i64 n,.slice B k d] 139)) 139 #[.int .i64 0,.slice none 0 0]
 have hW:Below w.heap.size w (((w.alloc (.cells #[.int .i64 n,.slice A k c] 139)).alloc (.cells #[.int .i64 n,.slice B k d] 139)).alloc (.cells #[.int .i64 0,.slice none 0 0] 139)):=(((Below.refl _ _).alloc (Nat.le_refl _) _).alloc (by simp) _).alloc (by simp;omega) _
 simp only [World.size_alloc] at q1 q2
 have hu1:=hu.below hW
 have hv1:=hv.below hW
 have Q0:=hZ q0
 have Q1:=hZ q1
 have Q2:=hZ q2
 have HW:=hZ hW
 have HU:=hZ hu1
 have HV:=hZ hv1
 have HU0:=hZ hu
 have HV0:=hZ hv
 clear q0 q1 q2 hW hu1 hv1 hu hv
 go_enter Tryz.func195,Tryz.ntmps195
 go_wp2_with fail
 refine (right_any n A k c us _ HU.out).mono ?_
 rintro e x1 ⟨rfl,hb⟩
 have Q0:=hZ (Q0.out.keep hb)
 have Q1:=hZ (Q1.out.keep hb)
 have Q2:=hZ (Q2.out.keep hb)
 have HV:=hZ (HV.out.below hb)
 have HW:=hZ (chain HW.out hb)
 clear HU hb
 obtain⟨c0,c1,-,-⟩:=Q1.out.two
 go_wp2_with fail
 refine (right_any n B k d vs _ HV.out).mono ?_
 rintro e x2 ⟨rfl,hb⟩
 have Q0:=hZ (Q0.out.keep hb)
 have Q1:=hZ (Q1.out.keep hb)
 have Q2:=hZ (Q2.out.keep hb)
 have HW:=hZ (chain HW.out hb)
 clear hb c0 c1 HV
 obtain⟨r0,r1,r2,r3⟩:=Q2.out.two
 obtain⟨a0,a1,-,-⟩:=Q0.out.two
 obtain⟨b0,b1,-,-⟩:=Q1.out.two
 have t:(n != n)=false:=by simp
 have hmk:=make_any k (by omega) x2
 have HX2:=hZ Q2.out.lt
 have Q3:=hZ (Box.new x2 22 (numsA (List.replicate k 0)))
 have Q0:=hZ (Q0.out.alloc (.cells (numsA (List.replicate k 0)) 22))
 have Q1:=hZ (Q1.out.alloc (.cells (numsA (List.replicate k 0)) 22))
 have Q2:=hZ (Q2.out.alloc (.cells (numsA (List.replicate k 0)) 22))
 have HW:=hZ (HW.out.alloc HW.out.size (.cells (numsA (List.replicate k 0)) 22))
 go_wp2
 clear hmk t h1 h2 a0 a1 b0 b1 r0 r1 r2 r3
 go_loopw [31] (fun i wr=>∃ j:Nat,j≤k∧i=.int .i64 j∧Box wr x2.heap.size 22 (numsA (part (·^^^·) us vs j))∧Box wr w.heap.size 139 #[.int .i64 n,.slice A k c]∧Box wr (w.heap.size+1) 139 #[.int .i64 n,.slice B k d]∧Box wr (w.heap.size+1+1) 139 #[.int .i64 0,.slice none 0 0]∧Below w.heap.size w wr)
  (fun i _=>k-(intOf i).toNat)
 case atStart=>exact⟨0,by omega,rfl,by rw [part_zero,HU0.out.1];exact Q3.out,Q0.out,Q1.out,Q2.out,HW.out⟩
 case round=>
  obtain⟨j,hj,rfl,B3,B0,B1,B2,hbel⟩:=hrel
  have R3:=hZ B3
  have R0:=hZ B0
  have R1:=hZ B1
  have R2:=hZ B2
  have HB:=hZ hbel
  clear B3 B0 B1 B2 hbel Q0 Q1 Q2 Q3 HW
  obtain⟨a0,a1,-,-⟩:=R0.out.two
  obtain⟨b0,b1,-,-⟩:=R1.out.two
  by_cases hlt:j<k
  ·obtain⟨p,o,rfl,lt1,hc1⟩:=HU0.out.2.2 (by omega)
   obtain⟨p2,o2,rfl,lt2,hc2⟩:=HV0.out.2.2 (by omega)
   have cu:=(HB.out.cell (p:=⟨p,o+j,none⟩) lt1).trans (hc1 j hlt)
   have cv:=(HB.out.cell (p:=⟨p2,o2+j,none⟩) lt2).trans (hc2 j hlt)
   have hx:=HU0.out.2.1 j
   have hy:=HV0.out.2.1 j
   obtain⟨x,ex⟩:∃ x,x=us.getD j 0:=⟨_,rfl⟩
   obtain⟨y,ey⟩:∃ y,y=vs.getD j 0:=⟨_,rfl⟩
   rw [← ex] at cu hx
   rw [← ey] at cv hy
   have hxy:=hZ (And.intro ex ey)
   clear ex ey
   have cg:wr.cell? ⟨x2.heap.size,j,none⟩=some (.int .u64 0):=by rw [R3.out.cell j];exact part_fresh _ us vs j k HU0.out.1 HV0.out.1 hlt
   have fg:=R3.out.free j
   clear hc1 hc2
   have hz:=HX2.out
   have n1:¬ x2.heap.size=w.heap.size:=by omega
   have n2:¬ x2.heap.size=w.heap.size+1:=by omega
   have n3:¬ x2.heap.size=p:=by omega
   have n4:¬ x2.heap.size=p2:=by omega
   have n1':¬ w.heap.size=x2.heap.size:=by omega
   have n2':¬ w.heap.size+1=x2.heap.size:=by omega
   have n3':¬ p=x2.heap.size:=by omega
   have n4':¬ p2=x2.heap.size:=by omega
   have n5':¬ w.heap.size+1+1=x2.heap.size:=by omega
   go_wp2
   go_region_held3 (fun w'=>w'.cell? ⟨w.heap.size,1,none⟩=some (.slice (some ⟨p,o,none⟩) k c)∧w'.cell? ⟨w.heap.size+1,1,none⟩=some (.slice (some ⟨p2,o2,none⟩) k d)∧w'.cell? ⟨p,o+j,none⟩=some (.int .u64 x)∧w'.cell? ⟨p2,o2+j,none⟩=some (.int .u64 y)) (go_keep) (first | (go_at_call 196;refine (xor1_any x y hx hy _).mono ?_;rintro e w' ⟨rfl,rfl⟩))
   have P1:=hZ ((R3.out.put j (.int .u64 ((x^^^y:Nat):Int))).drew)
   have P0:=hZ ((R0.out.far (p:=⟨x2.heap.size,j,none⟩) n1' (.int .u64 ((x^^^y:Nat):Int))).drew)
   have P2:=hZ ((R1.out.far (p:=⟨x2.heap.size,j,none⟩) n2' (.int .u64 ((x^^^y:Nat):Int))).drew)
   have P3:=hZ ((R2.out.far (p:=⟨x2.heap.size,j,none⟩) n5' (.int .u64 ((x^^^y:Nat):Int))).drew)
   have P4:=hZ ((HB.out.setCell (p:=⟨x2.heap.size,j,none⟩) (by simp;omega) (.int .u64 ((x^^^y:Nat):Int))).drew)
   clear cg fg cu cv n1 n2 n3 n4 n1' n2' n3' n4' a0 a1 b0 b1
   generalize (wr.setCell ⟨x2.heap.size,j,none⟩ (.int .u64 ((x^^^y:Nat):Int))).drew=wn at *
   go_wp2
   go_roundw
   case rel=>exact⟨j+1,by omega,by go_num,by have:=P1.out;rw [numsA_set,hxy.out.1,hxy.out.2,part_set _ us vs j k HU0.out.1 HV0.out.1 hlt] at this;exact this,P0.out,P2.out,P3.out,P4.out⟩
   case measure=>simp [intOf];omega
  ·obtain⟨r0,r1,r2,r3⟩:=R2.out.two
   have hz:=HX2.out
   have n5':¬ w.heap.size+1+1=x2.heap.size:=by omega
   obtain rfl:j=k:=by omega
   go_wp2
   refine close_cell Tryz.results195 rfl rfl rfl R2.out.put2 Tryz.underlying139 rfl (by kernel_rfl) ?_
   have hp:part (·^^^·) us vs j=List.zipWith (·^^^·) us vs:=part_full _ us vs j HU0.out.1 HV0.out.1
   have hw:=Box.ownW ((R3.out.far (p:=⟨w.heap.size+1+1,0,none⟩) (by simp;omega) (.int .i64 n)).far (p:=⟨w.heap.size+1+1,1,none⟩) (by simp;omega) (.slice (some ⟨x2.heap.size,0,none⟩) j j)) (part_len _ us vs j j HU0.out.1 HV0.out.1) (by unfold maxLen;omega)
   rw [hp] at hw
   exact⟨_,_,_,rfl,hw,(HB.out.setCell (p:=⟨w.heap.size+1+1,0,none⟩) (by simp;omega) _).setCell (p:=⟨w.heap.size+1+1,1,none⟩) (by simp;omega) _⟩
set_option maxHeartbeats 400000 in
theorem xor_own (n:Int) (A B:Option Addr) (l c k d:Nat) (us vs:List Nat) (w:World) (hu:Words w A l us) (hv:Words w B k vs) (h1:rightB n us=true) (h2:rightB n vs=true) :
  Calls Tryz.prog 174 #[.agg #[.int .i64 n,.slice A l c],.agg #[.int .i64 n,.slice B k d]] w (OwnOut n (xorL us vs) w):=by
 have q2:=Box.new ((w.alloc (.cells #[.int .i64 n,.slice A l c] 139)).alloc (.cells #[.int .i64 n,.slice B k d] 139)) 139 #[.int .i64 0,.slice none 0 0]
 have hW:Below w.heap.size w (((w.alloc (.cells #[.int .i64 n,.slice A l c] 139)).alloc (.cells #[.int .i64 n,.slice B k d] 139)).alloc (.cells #[.int .i64 0,.slice none 0 0] 139)):=(((Below.refl _ _).alloc (Nat.le_refl _) _).alloc (by simp) _).alloc (by simp;omega) _
 simp only [World.size_alloc] at q2
 have Q2:=hZ q2
 have HW:=hZ hW
 have HU:=hZ (hu.below hW)
 have HV:=hZ (hv.below hW)
 clear q2 hW hu hv
 go_enter Tryz.func174,Tryz.ntmps174
 go_wp2_with fail
 refine (joined_own n A B l c k d us vs _ HU.out HV.out h1 h2).mono ?_
 rintro e x1 ⟨A1,l1,c1,rfl,hw,hb⟩
 have P2:=hZ (Q2.out.keep hb)
 have HB:=hZ (chain HW.out hb)
 have HWo:=hZ hw
 clear hb hw
 obtain⟨r0,r1,r2,r3⟩:=P2.out.two
 go_wp2
 refine close_cell Tryz.results174 rfl rfl rfl P2.out.put2 Tryz.underlying139 rfl (by kernel_rfl) ⟨_,_,_,rfl,?_,?_⟩
 ·exact HWo.out.put2 P2.out _ _
 ·exact (HB.out.setCell (p:=⟨w.heap.size+1+1,0,none⟩) (by simp;omega) _).setCell (p:=⟨w.heap.size+1+1,1,none⟩) (by simp;omega) _
theorem new_own (n:Nat) (h:lmb n=true) (w:World):Calls Tryz.prog 173 #[.int .i64 n] w (OwnOut n (List.replicate (nw n) 0) w):=by
 refine (new_yes n h w).mono ?_
 rintro e w' ⟨g,rfl,hg,-,hb⟩
 have hn:=(lmb_iff n).1 h
 have:=Box.ownW hg (n:=nw n) (by simp) (by unfold maxLen nw;omega)
 rw [List.length_replicate]
 exact⟨_,_,_,rfl,this,hb⟩
end
section
/- Rows of words, as numbers. -/
open Go.RowKit
def rowOf (N x:Nat):List Nat:=(List.range (nw N)).map fun i=>(x>>>(64*i))%2 ^ 64
theorem rowOf_len (N x:Nat):(rowOf N x).length=nw N:=by simp [rowOf]
theorem rowOf_at (N x i:Nat) (h:i<nw N):(rowOf N x).getD i 0=(x>>>(64*i))%2 ^ 64:=by simp [rowOf,List.getD,h]
theorem rowOf_lt (N x i:Nat):(rowOf N x).getD i 0<18446744073709551616:=by
 by_cases h:i<nw N
 ·rw [rowOf_at N x i h];exact Nat.mod_lt _ (by decide)
 ·have:(rowOf N x)[i]?=none:=List.getElem?_eq_none (by rw [rowOf_len];omega)
  simp [List.getD,this]
theorem rowOf_bit (N x p:Nat) (h:p<N):(bitAt (rowOf N x) p==1)=x.testBit p:=by
 rw [bitAt_test,rowOf_at N x (p / 64) (by unfold nw;omega),Nat.testBit_mod_two_pow,Nat.testBit_shiftRight]
 have e:64*(p / 64)+p%64=p:=by omega
 have l:p%64<64:=Nat.mod_lt _ (by omega)
 rw [e];simp [l]
theorem rowOf_bitN (N x p:Nat) (h:p<N):bitAt (rowOf N x) p=if x.testBit p then 1 else 0:=by
 have hb:=rowOf_bit N x p h
 rcases bitAt_le (rowOf N x) p with h0 | h0
 ·rw [h0] at hb ⊢;rw [← hb];rfl
 ·rw [h0] at hb ⊢;rw [← hb];rfl
theorem rowOf_xor (N x y:Nat):xorL (rowOf N x) (rowOf N y)=rowOf N (x^^^y):=by
 unfold xorL rowOf
 rw [List.zipWith_map_left,List.zipWith_map_right]
 simp only [List.zipWith_self,Nat.shiftRight_xor_distrib,Nat.xor_mod_two_pow]
def valW:List Nat→Nat
 | []=>0
 | u::us=>u+2 ^ 64*valW us
theorem valW_at:∀ (us:List Nat) (i:Nat),(∀ j,us.getD j 0<18446744073709551616)→i<us.length→(valW us>>>(64*i))%2 ^ 64=us.getD i 0
 | [],i,_,h=>by cases h
 | u::us,0,hl,_=>by
   have:=hl 0
   simp only [List.getD_cons_zero] at this ⊢
   simp only [valW,Nat.mul_zero,Nat.shiftRight_zero]
   omega
 | u::us,i+1,hl,h=>by
   have h0:=hl 0
   have ih:=valW_at us i (fun j=>by have:=hl (j+1);rwa [List.getD_cons_succ] at this) (by simpa using h)
   rw [List.getD_cons_succ,← ih,show 64*(i+1)=64+64*i by omega,Nat.shiftRight_add]
   congr 2
   simp only [List.getD_cons_zero] at h0
   rw [Nat.shiftRight_eq_div_pow,valW]
   omega
theorem valW_lt:∀ (us:List Nat),(∀ j,us.getD j 0<18446744073709551616)→valW us<2 ^ (64*us.length)
 | [],_=>by simp [valW]
 | u::us,hl=>by
   have h0:=hl 0
   have ih:=valW_lt us (fun j=>by have:=hl (j+1);rwa [List.getD_cons_succ] at this)
   simp only [List.getD_cons_zero] at h0
   rw [valW,List.length_cons,show 64*(us.length+1)=64+64*us.length by omega,Nat.pow_add]
   generalize 2 ^ (64*us.length)=m at *
   have:2 ^ 64*valW us+2 ^ 64≤2 ^ 64*m:=by rw [← Nat.mul_succ];exact Nat.mul_le_mul_left _ ih
   omega
theorem valW_row (N:Nat) (us:List Nat) (hl:∀ j,us.getD j 0<18446744073709551616) (hn:us.length=nw N):us=rowOf N (valW us):=by
 apply List.ext_getElem
 ·rw [rowOf_len,hn]
 ·intro i h1 h2
  have h:=valW_at us i hl h1
  simp only [rowOf,List.getElem_map,List.getElem_range]
  rw [h];simp [List.getD,h1]
theorem valW_bit (us:List Nat) (p:Nat) (hl:∀ j,us.getD j 0<18446744073709551616) (hp:p<64*us.length):(valW us).testBit p=(bitAt us p==1):=by
 rw [bitAt_test,← valW_at us (p / 64) hl (by omega),Nat.testBit_mod_two_pow,Nat.testBit_shiftRight]
 have e:64*(p / 64)+p%64=p:=by omega
 have l:p%64<64:=Nat.mod_lt _ (by omega)
 rw [e];simp [l]
theorem row_of {N:Nat} {us:List Nat} (h:rightB N us=true) (hl:∀ j,us.getD j 0<18446744073709551616):us=rowOf N (valW us)∧valW us<2 ^ N:=by
 have hn:us.length=nw N:=by
  have h':=h
  simp only [rightB,Bool.and_eq_true,beq_iff_eq,Int.toNat_natCast] at h'
  exact h'.1.2
 refine⟨valW_row N us hl hn,?_⟩
 apply Nat.lt_pow_two_of_testBit
 intro p hp
 by_cases hlt:p<64*us.length
 ·rw [valW_bit us p hl hlt,right_bits h p hp hlt];rfl
 ·exact Nat.testBit_lt_two_pow (Nat.lt_of_lt_of_le (valW_lt us hl) (Nat.pow_le_pow_right (by omega) (by omega)))
theorem rowOf_right (N x:Nat) (hN:N≤512) (hx:x<2 ^ N):rightB N (rowOf N x)=true:=by
 have hl:lmb (N:Int)=true:=(lmb_iff N).2 (by omega)
 simp only [rightB,hl,Bool.true_and,Int.toNat_natCast,rowOf_len,Bool.and_eq_true,beq_iff_eq,Bool.or_eq_true]
 refine⟨by simp,?_⟩
 by_cases h0:N%64=0
 ·exact .inl h0
 ·right
  have hnw:nw N-1<nw N:=by unfold nw;omega
  rw [rowOf_at N x _ hnw,Nat.shiftRight_eq_div_pow]
  have e:64*(nw N-1)+N%64=N:=by unfold nw;omega
  have h1:x / 2 ^ (64*(nw N-1))<2 ^ (N%64):=by
   rw [Nat.div_lt_iff_lt_mul (Nat.two_pow_pos _),Nat.mul_comm,← Nat.pow_add,e];exact hx
  rw [Nat.div_eq_zero_iff]
  right
  exact Nat.lt_of_le_of_lt (Nat.mod_le _ _) h1
theorem rowOf_zero (N:Nat):rowOf N 0=List.replicate (nw N) 0:=by
 apply List.ext_getElem
 ·rw [rowOf_len,List.length_replicate]
 ·intro i h1 h2
  simp [rowOf]
end
section
/- bitrow.Get. -/
open Go.RowKit
set_option maxHeartbeats 1000000 in
theorem get_yes (N i:Nat) (A:Option Addr) (len c:Nat) (us:List Nat) (w:World) (hr:rightB N us=true) (hi:i<N) (hW:Words w A len us) :
  Calls Tryz.prog 187 #[.agg #[.int .i64 N,.slice A len c],.int .i64 i] w fun e w'=>e=.returned (.tuple #[.int .i64 (bitAt us i:Nat),.int .i64 0])∧Below w.heap.size w w':=by
 have hl8:=rightB_len8 hr hW.1
 have hnw:i<64*len:=by
  have h:=hr
  simp only [rightB,Bool.and_eq_true,beq_iff_eq,Int.toNat_natCast] at h
  have h1:=h.1.2
  rw [hW.1] at h1
  unfold nw at h1
  omega
 have Q:=hZ (Box.new w 139 #[.int .i64 N,.slice A len c])
 have HB:=hZ (show Below w.heap.size w (w.alloc (.cells #[.int .i64 N,.slice A len c] 139)) from (Below.refl _ _).alloc (Nat.le_refl _) _)
 have HW:=hZ (hW.alloc (.cells #[.int .i64 N,.slice A len c] 139))
 have HR:=hZ (right_any N A len c us _ HW.out)
 rw [hr] at HR
 have HI:=hZ (isPlace_any N A len c i)
 rw [show (decide ((0:Int)≤i)&&decide ((i:Int)<N))=true by simp;omega] at HI
 obtain⟨r0,r1,-,-⟩:=Q.out.two
 clear hW hr
 go_enter Tryz.func187,Tryz.ntmps187
 go_wp2_with fail
 refine HR.out.mono ?_
 rintro e w1 ⟨rfl,hb⟩
 have B:=hZ (chain HB.out hb)
 have Q:=hZ (Q.out.keep hb)
 have HW:=hZ (HW.out.below hb)
 clear hb r0 r1
 obtain⟨r0,r1,-,-⟩:=Q.out.two
 go_wp2_with fail
 refine (HI.out _).mono ?_
 rintro e w2 ⟨rfl,hb⟩
 have B:=hZ (chain B.out hb)
 have Q:=hZ (Q.out.keep hb)
 have HW:=hZ (HW.out.below hb)
 clear hb r0 r1 HI HR HB
 obtain⟨r0,r1,-,-⟩:=Q.out.two
 obtain⟨b,off,rfl,hlb,hc⟩:=HW.out.2.2 (by omega)
 have c1:=hc (i / 64) (by omega)
 have hx:=HW.out.2.1 (i / 64)
 have hv:bits BinOp.and IntKind.u64 (((us.getD (i / 64) 0:Nat):Int) / 2 ^ (i%64)) 1=((bitAt us i:Nat):Int):=by
  have h1:=Nat.div_le_self (us.getD (i / 64) 0) (2 ^ (i%64))
  have:=u64_and_nat (us.getD (i / 64) 0 / 2 ^ (i%64)) 1 (by omega) (by omega)
  rw [show us.getD (i / 64) 0 / 2 ^ (i%64) &&& 1=bitAt us i from Nat.and_one_is_mod _,Int.natCast_ediv] at this
  simpa using this
 have hb1:bitAt us i≤1:=by rcases bitAt_le us i with h | h<;>omega
 clear hc
 generalize hme:bitAt us i=v at *
 have HE:=hZ hme
 clear hme
 generalize us.getD (i / 64) 0=x at *
 have g1:(i:Int).tdiv 64=((i / 64:Nat):Int):=by rw [Int.tdiv_eq_ediv_of_nonneg (by omega)];omega
 have g2:(i:Int).tmod 64=((i%64:Nat):Int):=by rw [Int.tmod_eq_emod_of_nonneg (by omega)];omega
 have g3:((i / 64:Nat):Int)<(len:Int):=by omega
 go_wp2
 go_ret2
 exact⟨by rw [HE.out];rfl,B.out⟩
end
section
/- Matrices in memory: a slice of rows, and what it reads. -/
open Go.RowKit Go.Joins Go.ChangeShapes Go.WideShapes
def RowAt (w:World) (b off:Nat) (r:Int×List Nat):Prop:=
 ∃ B l c,w.cell? ⟨b,off,none⟩=some (.int .i64 r.1)∧w.cell? ⟨b,off+1,none⟩=some (.slice B l c)∧SliceOk B l c∧Words w B l r.2
def MatAt (w:World) (lo:Nat) (A:Option Addr) (len:Nat) (ms:List (Int×List Nat)):Prop:=
 ms.length=len∧(0<len→∃ b off,A=some ⟨b,off,none⟩∧lo≤b∧b<w.heap.size∧∀ j,j<len→RowAt w b (off+j*2) (ms.getD j (0,[])))
section
variable {w w':World} {lo:Nat} {A:Option Addr} {len:Nat} {ms:List (Int×List Nat)}
theorem RowAt.below {b off:Nat} {r:Int×List Nat} (h:RowAt w b off r) (hl:b<w.heap.size) (hb:Below w.heap.size w w'):RowAt w' b off r:=by
 obtain⟨B,l,c,h0,h1,h2,h3⟩:=h
 exact⟨B,l,c,(hb.cell (p:=⟨b,off,none⟩) hl).trans h0,(hb.cell (p:=⟨b,off+1,none⟩) hl).trans h1,h2,h3.below hb⟩
theorem MatAt.below (h:MatAt w lo A len ms) (hb:Below w.heap.size w w'):MatAt w' lo A len ms:=by
 refine⟨h.1,fun hp=>?_⟩
 obtain⟨b,off,rfl,h1,h2,h3⟩:=h.2 hp
 exact⟨b,off,rfl,h1,Nat.lt_of_lt_of_le h2 hb.size,fun j hj=>(h3 j hj).below h2 hb⟩
theorem MatAt.mono (h:MatAt w lo A len ms) {B:Nat} (hB:w.heap.size≤B) (hb:Below B w w'):MatAt w' lo A len ms:=h.below (hb.mono hB)
theorem MatAt.low (h:MatAt w lo A len ms) {l2:Nat} (hl:l2≤lo):MatAt w l2 A len ms:=by
 refine⟨h.1,fun hp=>?_⟩
 obtain⟨b,off,rfl,h1,h2,h3⟩:=h.2 hp
 exact⟨b,off,rfl,by omega,h2,h3⟩
theorem MatAt.nil (w:World) (lo:Nat) (A:Option Addr):MatAt w lo A 0 []:=⟨rfl,fun h=>by omega⟩
theorem MatAt.at (h:MatAt w lo A len ms) (j:Nat) (hj:j<len):∃ b off B l c,A=some ⟨b,off,none⟩∧b<w.heap.size∧w.cell? ⟨b,off+j*2,none⟩=some (.int .i64 (ms.getD j (0,[])).1)∧w.cell? ⟨b,off+j*2+1,none⟩=some (.slice B l c)∧SliceOk B l c∧Words w B l (ms.getD j (0,[])).2:=by
 obtain⟨b,off,rfl,h1,h2,h3⟩:=h.2 (by omega)
 obtain⟨B,l,c,r0,r1,r2,r3⟩:=h3 j hj
 exact⟨b,off,B,l,c,rfl,h2,r0,r1,r2,r3⟩
theorem MatAt.take (h:MatAt w lo A len ms) (k:Nat) (hk:k≤len):MatAt w lo A k (ms.take k):=by
 refine⟨by simp [h.1];omega,fun hp=>?_⟩
 obtain⟨b,off,rfl,h1,h2,h3⟩:=h.2 (by omega)
 refine⟨b,off,rfl,h1,h2,fun j hj=>?_⟩
 have:=h3 j (by omega)
 simpa [List.getD,List.getElem?_take,hj] using this
end
end
section
/- Contracts of layer 3: columnsMayBe, Right, the reference's Right. -/
open Go.RowKit
theorem columnsMayBe_any (n:Int) (w:World):Calls Tryz.prog 171 #[.int .i64 n] w fun e w'=>e=.returned (.bool (smb n))∧w=w':=by
 by_cases h:0≤n
 ·by_cases h2:n≤64
  ·have e:smb n=true:=(smb_iff n).2 ⟨h,h2⟩
   rw [e];clear e
   go_enter Tryz.func171,Tryz.ntmps171
   go_wp2
   go_ret
   exact⟨rfl,rfl⟩
  ·have e:smb n=false:=(smb_no n).2 (by omega)
   rw [e];clear e
   have t:decide (n≤64)=false:=by simpa using h2
   go_enter Tryz.func171,Tryz.ntmps171
   go_wp2
   go_ret
   exact⟨by simp,rfl⟩
 ·have e:smb n=false:=(smb_no n).2 (by omega)
  rw [e];clear e
  have t:decide (0≤n)=false:=by simpa using h
  go_enter Tryz.func171,Tryz.ntmps171
  go_wp2
  go_ret
  exact⟨by simp,rfl⟩
def rowsB (N:Int) (ms:List (Int×List Nat)):Bool:=ms.all fun r=>(r.1==N)&&rightB r.1 r.2
def rightM (N:Int) (ms:List (Int×List Nat)):Bool:=smb N&&decide (ms.length≤64)&&rowsB N ms
theorem rowsB_snoc (N:Int) (ms:List (Int×List Nat)) (j:Nat) (h:j<ms.length):rowsB N (ms.take (j+1))=(rowsB N (ms.take j)&&(((ms.getD j (0,[])).1==N)&&rightB (ms.getD j (0,[])).1 (ms.getD j (0,[])).2)):=by
 unfold rowsB
 rw [List.take_succ_eq_append_getElem h,List.all_append]
 simp [List.getD,h]
theorem rowsB_not (N:Int) (ms:List (Int×List Nat)) (j:Nat) (h:j<ms.length) (hz:(((ms.getD j (0,[])).1==N)&&rightB (ms.getD j (0,[])).1 (ms.getD j (0,[])).2)=false):rowsB N ms=false:=by
 rw [Bool.eq_false_iff]
 intro ha
 have:=List.all_eq_true.1 ha (ms[j]) (List.getElem_mem _)
 rw [show ms.getD j (0,[])=ms[j] by simp [List.getD,h]] at hz
 rw [this] at hz;cases hz
theorem rightM_at {N:Int} {ms:List (Int×List Nat)} (h:rightM N ms=true) (j:Nat) (hj:j<ms.length):(ms.getD j (0,[])).1=N∧rightB N (ms.getD j (0,[])).2=true:=by
 simp only [rightM,Bool.and_eq_true] at h
 have:=List.all_eq_true.1 h.2 (ms[j]) (List.getElem_mem _)
 rw [show ms.getD j (0,[])=ms[j] by simp [List.getD,hj]]
 simp only [Bool.and_eq_true,beq_iff_eq] at this
 exact⟨this.1,this.1 ▸ this.2⟩
theorem rightM_bd {N:Int} {ms:List (Int×List Nat)} (h:rightM N ms=true):0≤N∧N≤64∧ms.length≤64:=by
 simp only [rightM,Bool.and_eq_true,decide_eq_true_eq] at h
 have:=(smb_iff N).1 h.1.1
 exact⟨this.1,this.2,h.1.2⟩
set_option maxHeartbeats 1000000 in
theorem mright_any (N:Int) (A:Option Addr) (l c lo:Nat) (ms:List (Int×List Nat)) (w:World) (hm:MatAt w lo A l ms) (hl:l≤maxLen) :
  Calls Tryz.prog 156 #[.agg #[.int .i64 N,.slice A l c]] w fun e w'=>e=.returned (.bool (rightM N ms))∧Below w.heap.size w w':=by
 unfold maxLen at hl
 have H:=hZ (columnsMayBe_any N)
 have Q:=hZ (Box.new w 102 #[.int .i64 N,.slice A l c])
 have HW:=hZ (show Below w.heap.size w (w.alloc (.cells #[.int .i64 N,.slice A l c] 102)) from (Below.refl _ _).alloc (Nat.le_refl _) _)
 have HM:=hZ hm
 have HL:=hZ hm.1
 clear hm
 obtain⟨r0,r1,-,-⟩:=Q.out.two
 cases h:smb N with
 | false=>
   have HE:=hZ (show rightM N ms=false by simp [rightM,h])
   go_enter Tryz.func156,Tryz.ntmps156
   go_wp2_with fail
   refine (H.out _).mono ?_
   rintro e w1 ⟨rfl,rfl⟩
   go_wp2_with fail
   go_ret
   exact⟨by rw [HE.out];rfl,HW.out⟩
 | true=>
   by_cases h64:l≤64
   ·have g1:¬ (64:Int)<l:=by omega
    go_enter Tryz.func156,Tryz.ntmps156
    go_wp2_with fail
    refine (H.out _).mono ?_
    rintro e w1 ⟨rfl,rfl⟩
    go_wp2_with fail
    have HSM:=hZ h
    clear h r0 r1 H
    go_loopw [18] (fun i wr=>∃ k:Nat,k≤l∧i=.int .i64 k∧Hid (rowsB N (ms.take k)=true)∧Box wr w.heap.size 102 #[.int .i64 N,.slice A l c]∧Below w.heap.size w wr) (fun i _=>l-(intOf i).toNat)
    case atStart=>exact⟨0,by omega,rfl,hZ (by simp [rowsB]),Q.out,HW.out⟩
    case round=>
     obtain⟨k,hk,rfl,HN,hbx,hbel⟩:=hrel
     have R:=hZ hbx
     have B:=hZ hbel
     clear hbx hbel Q HW
     obtain⟨r0,r1,-,-⟩:=R.out.two
     by_cases hlt:k<l
     ·have hlt':(k:Int)<(l:Int):=by omega
      obtain⟨b,off,B1,l1,c1,rfl,hb,x0,x1,hs,hw⟩:=(HM.out.mono (Nat.le_refl _) B.out).at k hlt
      have HS:=hZ (rowsB_snoc N ms k (by rw [HL.out];exact hlt))
      have HNO:=hZ (rowsB_not N ms k (by rw [HL.out];exact hlt))
      generalize (ms.getD k (0,[])).1=n at *
      generalize (ms.getD k (0,[])).2=us at *
      have R2:=hZ (R.out.alloc (.cells #[.int .i64 n,.slice B1 l1 c1] 139))
      have B2:=hZ (B.out.alloc B.out.size (.cells #[.int .i64 n,.slice B1 l1 c1] 139))
      have HW1:=hZ (hw.alloc (.cells #[.int .i64 n,.slice B1 l1 c1] 139))
      have HR:=hZ (right_any n B1 l1 c1 us _ HW1.out)
      clear hw hs
      obtain⟨r0,r1,-,-⟩:=R2.out.two
      by_cases hn:n=N
      ·subst hn
       have t:(n != n)=false:=by simp
       cases hr:rightB n us with
       | true=>
         rw [hr] at HR HS
         go_wp2_with fail
         refine HR.out.mono ?_
         rintro e w2 ⟨rfl,hb2⟩
         have B3:=hZ (chain B2.out hb2)
         have R3:=hZ (R2.out.keep hb2)
         clear hb2
         go_wp2_with fail
         go_roundw
         case rel=>exact⟨k+1,by omega,by go_num,hZ (by rw [HS.out,HN.out];simp),R3.out,B3.out⟩
         case measure=>simp [intOf];omega
       | false=>
         rw [hr] at HR
         have HE:=hZ (show rightM n ms=false by rw [rightM,HNO.out (by simp [hr])];simp)
         clear hr
         go_wp2_with fail
         refine HR.out.mono ?_
         rintro e w2 ⟨rfl,hb2⟩
         have B3:=hZ (chain B2.out hb2)
         clear hb2
         go_wp2_with fail
         go_ret
         exact⟨by rw [HE.out];rfl,B3.out⟩
      ·have t:(n != N)=true:=by simpa using hn
       have t2:(n==N)=false:=by simpa using hn
       have HE:=hZ (show rightM N ms=false by rw [rightM,HNO.out (by simp [t2])];simp)
       clear hn t2
       go_wp2_with fail
       go_ret
       exact⟨by rw [HE.out];rfl,B2.out⟩
     ·obtain rfl:k=l:=by omega
      have hlt':¬ (k:Int)<(k:Int):=by omega
      have HE:=hZ (show rightM N ms=true by
       have:=HN.out
       rw [List.take_of_length_le (by rw [HL.out];omega)] at this
       simp [rightM,HSM.out,this,HL.out,h64])
      go_wp2_with fail
      go_ret
      exact⟨by rw [HE.out];rfl,B.out⟩
   ·have g1:(64:Int)<l:=by omega
    have HE:=hZ (show rightM N ms=false by simp [rightM,HL.out,h64])
    go_enter Tryz.func156,Tryz.ntmps156
    go_wp2_with fail
    refine (H.out _).mono ?_
    rintro e w1 ⟨rfl,rfl⟩
    go_wp2_with fail
    go_ret
    exact⟨by rw [HE.out];rfl,HW.out⟩
end
section
/- Contracts of slices.Equal at words and of bitrow.Like. -/
open Go.RowKit
end
section
/- Contracts of layer 3's reference: Right, Same; matrix.Like. -/
open Go.RowKit
end
section
/- Contracts of layer 3: slices.EqualFunc at rows, Like, rowsBy. -/
open Go.RowKit
abbrev RowV:=Int×Option Addr×Nat×Nat
def rowCells (rs:List RowV):List Value:=rs.flatMap fun r=>[.int .i64 r.1,.slice r.2.1 r.2.2.1 r.2.2.2]
theorem rowCells_cons (r:RowV) (rs:List RowV):rowCells (r::rs)=.int .i64 r.1::.slice r.2.1 r.2.2.1 r.2.2.2::rowCells rs:=rfl
theorem rowCells_snoc (rs:List RowV) (r:RowV):rowCells (rs++[r])=rowCells rs++[.int .i64 r.1,.slice r.2.1 r.2.2.1 r.2.2.2]:=by simp [rowCells]
theorem rowCells_at (rs:List RowV) (j:Nat) (hj:j<rs.length):(rowCells rs)[j*2]?=some (.int .i64 (rs.getD j (0,none,0,0)).1)∧(rowCells rs)[j*2+1]?=some (.slice (rs.getD j (0,none,0,0)).2.1 (rs.getD j (0,none,0,0)).2.2.1 (rs.getD j (0,none,0,0)).2.2.2):=by
 induction rs generalizing j with
 | nil=>cases hj
 | cons r rs ih=>
   cases j with
   | zero=>rw [rowCells_cons];exact⟨rfl,rfl⟩
   | succ j=>
     have h:=ih j (by simpa using hj)
     rw [rowCells_cons,show (j+1)*2=j*2+1+1 by omega]
     exact h
theorem rowCells_set (rs:List RowV) (j:Nat) (r:RowV):((rowCells rs).set (j*2) (.int .i64 r.1)).set (j*2+1) (.slice r.2.1 r.2.2.1 r.2.2.2)=rowCells (rs.set j r):=by
 induction rs generalizing j with
 | nil=>simp [rowCells]
 | cons q rs ih=>
   cases j with
   | zero=>rw [rowCells_cons];rfl
   | succ j=>
     rw [rowCells_cons,List.set_cons_succ,rowCells_cons,← ih j,show (j+1)*2=j*2+1+1 by omega]
     rfl
theorem row_infoM:(Tryz.prog.info? 139).map (fun i=>(i.zero,i.size,i.bytes))=some (some (.agg #[.int .i64 0,.slice none 0 0]),2,32):=by kernel_rfl
theorem OwnW.ok {w:World} {A:Option Addr} {l c:Nat} {zs:List Nat} (h:OwnW w A l c zs):SliceOk A l c:=by
 rcases h.2 with ⟨hv,h0⟩ |⟨g,cap,cur,hv,hb,hh,hn,hm,hs,hx⟩
 ·injection hv with e1 e2 e3
  subst e1 e2 e3
  exact⟨Nat.le_refl _,Nat.zero_le _,fun _=>⟨rfl,rfl⟩⟩
 ·injection hv with e1 e2 e3
  subst e1 e3
  exact⟨hn,hm,fun h=>by cases h⟩
end
section
/- A chain of worlds that keep what was below. No program. -/
open Go.RowKit
theorem chainN {w w1 w2:World} {B:Nat} (h:Below B w w1) (hB:B≤w1.heap.size) (h2:Below w1.heap.size w1 w2):Below B w w2:=h.trans (h2.mono hB)
end
section
/- Mathematics of matrices: columns. -/
open Go.RowKit
def mbit (ms:List (Int×List Nat)) (j i:Nat):Nat:=bitAt (ms.getD j (0,[])).2 i
def castP (l:List Nat):List Int:=l.map fun (x:Nat)=>(x:Int)
end
section
/- Contracts of layer 3: alone, One. -/
open Go.RowKit
def oneL (n:Nat):List (Int×List Nat):=(List.range n).map fun (i:Nat)=>((n:Int),ofBits n [(i:Int)])
theorem oneL_len (n:Nat):(oneL n).length=n:=by simp [oneL]
end
section
/- Contracts of layer 3: column, Turn. -/
open Go.RowKit
end
section
/- Contract of law 03's few: a matrix of at most 66 rows, of three words each. -/
open Go.RowKit
theorem add_zeroM (g j:Nat):(⟨g,0,none⟩:Addr).add j=⟨g,j,none⟩:=by unfold Addr.add;split<;>simp_all
theorem own_mat {w:World} {base n:Nat} {v:Value} {rs:List RowV} (h:w.ownsRow base 139 2 v n (rowCells rs)) (hn:rs.length=n) (ms:List (Int×List Nat)) (hl:ms.length=n)
  (hf:∀ j,j<n→(rs.getD j (0,none,0,0)).1=(ms.getD j (0,[])).1∧SliceOk (rs.getD j (0,none,0,0)).2.1 (rs.getD j (0,none,0,0)).2.2.1 (rs.getD j (0,none,0,0)).2.2.2∧Words w (rs.getD j (0,none,0,0)).2.1 (rs.getD j (0,none,0,0)).2.2.1 (ms.getD j (0,[])).2) :
  ∃ A c,v=.slice A n c∧n≤c∧MatAt w base A n ms:=by
 rcases h.2 with ⟨hv,h0⟩ |⟨g,cap,cur,hv,hb,hh,hc,-⟩
 ·subst h0
  obtain rfl:ms=[]:=List.length_eq_zero_iff.1 hl
  exact⟨none,0,hv,Nat.le_refl _,MatAt.nil _ _ _⟩
 ·refine⟨some ⟨g,0,none⟩,cap,hv,hc,hl,fun hp=>⟨g,0,rfl,hb,(h.lt g (by rw [hv];rfl)).2,fun j hj=>?_⟩⟩
  obtain⟨f1,f2⟩:=rowCells_at rs j (by omega)
  obtain⟨a1,a2,a3⟩:=hf j hj
  have hc:=World.ownsRow.cells h (g:=g) (by rw [hv];rfl)
  have c1:=hc _ _ f1
  have c2:=hc _ _ f2
  rw [add_zeroM] at c1 c2
  refine⟨_,_,_,?_,?_,a2,a3⟩
  ·rw [Nat.zero_add,c1,a1]
  ·rw [Nat.zero_add,c2]
end
section
/- Layer 3's reference: One. -/
open Go.RowKit
theorem own_drewM {w:World} {base e size n:Nat} {v:Value} {xs:List Value} (h:w.ownsRow base e size v n xs):w.drew.ownsRow base e size v n xs:=h
theorem one_ints (w:World) (t:TypeId) (i:Nat) (hi:i≤1000000):Ints (w.alloc (.cells #[.int .i64 i] t)) (some ⟨w.heap.size,0,none⟩) 1 [(i:Int)]:=by
 have bx:=Box.new w t #[.int .i64 (i:Int)]
 refine⟨rfl,fun j=>?_,fun _=>⟨w.heap.size,0,rfl,bx.lt,fun j hj=>?_⟩⟩
 ·match j with
  | 0=>simp;omega
  | k+1=>simp
 ·rw [Nat.zero_add,bx.cell]
  match j,hj with
  | 0,_=>rfl
def RowsW (w:World) (base:Nat) (v:Value) (ms:List (Int×List Nat)):Prop:=
 ∃ rs:List RowV,rs.length=ms.length∧w.ownsRow base 139 2 v ms.length (rowCells rs)∧∀ j,j<ms.length→(rs.getD j (0,none,0,0)).1=(ms.getD j (0,[])).1∧OwnW w (rs.getD j (0,none,0,0)).2.1 (rs.getD j (0,none,0,0)).2.2.1 (rs.getD j (0,none,0,0)).2.2.2 (ms.getD j (0,[])).2
theorem RowsW.nil (w:World) (base:Nat):RowsW w base (.slice none 0 0) []:=⟨[],rfl,World.ownsRow_nil _ _ _ _,fun j hj=>by cases hj⟩
theorem RowsW.below {w w':World} {base:Nat} {v:Value} {ms:List (Int×List Nat)} (h:RowsW w base v ms) (hb:Below w.heap.size w w'):RowsW w' base v ms:=by
 obtain⟨rs,h1,h2,h3⟩:=h
 exact⟨rs,h1,own_keep h2 hb,fun j hj=>⟨(h3 j hj).1,(h3 j hj).2.below hb⟩⟩
theorem RowsW.far {w:World} {base:Nat} {v:Value} {ms:List (Int×List Nat)} (h:RowsW w base v ms) {g:Nat} {t:TypeId} {cs:Array Value} (hb:Box w g t cs) (hne:22≠t) (hne2:139≠t) (i:Nat) (u:Value):RowsW (w.setCell ⟨g,i,none⟩ u) base v ms:=by
 obtain⟨rs,h1,h2,h3⟩:=h
 exact⟨rs,h1,own_far h2 hb hne2 i u,fun j hj=>⟨(h3 j hj).1,(h3 j hj).2.far hb hne i u⟩⟩
theorem RowsW.snoc {w:World} {base n:Nat} {v:Value} {rs:List RowV} {ms:List (Int×List Nat)} {N:Int} {A:Option Addr} {l c:Nat} {z:List Nat} (hn:ms.length=n) (h1:rs.length=n) (h2:w.ownsRow base 139 2 v (n+1) (rowCells rs++[.int .i64 N,.slice A l c]))
  (h3:∀ j,j<n→(rs.getD j (0,none,0,0)).1=(ms.getD j (0,[])).1∧OwnW w (rs.getD j (0,none,0,0)).2.1 (rs.getD j (0,none,0,0)).2.2.1 (rs.getD j (0,none,0,0)).2.2.2 (ms.getD j (0,[])).2) (h4:OwnW w A l c z):RowsW w base v (ms++[(N,z)]):=by
 subst hn
 refine⟨rs++[(N,A,l,c)],by simp [h1],?_,fun j hj=>?_⟩
 ·rw [rowCells_snoc,List.length_append];exact h2
 ·rw [List.length_append] at hj
  simp only [List.length_cons,List.length_nil] at hj
  by_cases h:j<ms.length
  ·have:=h3 j h
   simp only [List.getD,List.getElem?_append_left h,List.getElem?_append_left (h1 ▸ h)] at this ⊢
   exact this
  ·obtain rfl:j=ms.length:=by omega
   have e1:(rs++[(N,A,l,c)]).getD ms.length (0,none,0,0)=(N,A,l,c):=by rw [← h1];simp [List.getD]
   have e2:(ms++[(N,z)]).getD ms.length (0,[])=(N,z):=by simp [List.getD]
   rw [e1,e2];exact⟨rfl,h4⟩
theorem RowsW.mat {w:World} {base:Nat} {v:Value} {ms:List (Int×List Nat)} (h:RowsW w base v ms) (hz:∀ i j,((ms.getD i (0,[])).2).getD j 0<18446744073709551616):∃ A c,v=.slice A ms.length c∧ms.length≤c∧MatAt w base A ms.length ms:=by
 obtain⟨rs,h1,h2,h3⟩:=h
 exact own_mat h2 h1 ms rfl (fun j hj=>⟨(h3 j hj).1,(h3 j hj).2.ok,(h3 j hj).2.words (hz j)⟩)
theorem oneL_lt (n i j:Nat):(((oneL n).getD i (0,[])).2).getD j 0<18446744073709551616:=by
 by_cases h:i<n
 ·have e:(oneL n).getD i (0,[])=((n:Int),ofBits n [(i:Int)]):=by simp [oneL,List.getD,h]
  rw [e];exact ofBits_lt n _ j
 ·have e:(oneL n)[i]?=none:=List.getElem?_eq_none (by rw [oneL_len];omega)
  simp [List.getD,e]
end
section
/- Layer 4: rows of rows as numbers; has, find. -/
open Go.RowKit
set_option maxRecDepth 100000
def mkR (N x:Nat):Int×List Nat:=((N:Int),rowOf N x)
def mkM (N:Nat) (L:List Nat):List (Int×List Nat):=L.map (mkR N)
theorem mkM_len (N:Nat) (L:List Nat):(mkM N L).length=L.length:=by simp [mkM]
theorem mkM_at (N:Nat) (L:List Nat) (i:Nat) (h:i<L.length):(mkM N L).getD i (0,[])=mkR N (L.getD i 0):=by simp [mkM,List.getD,h]
def RowsN (w:World) (base:Nat) (v:Value) (N:Nat) (L:List Nat):Prop:=RowsW w base v (mkM N L)
section
variable {w w':World} {base:Nat} {v:Value} {N:Nat} {L:List Nat}
theorem RowsN.below (h:RowsN w base v N L) (hb:Below w.heap.size w w'):RowsN w' base v N L:=RowsW.below h hb
theorem RowsN.far (h:RowsN w base v N L) {g:Nat} {t:TypeId} {cs:Array Value} (hb:Box w g t cs) (hne:22≠t) (hne2:139≠t) (i:Nat) (u:Value):RowsN (w.setCell ⟨g,i,none⟩ u) base v N L:=RowsW.far h hb hne hne2 i u
theorem RowsN.form (h:RowsN w base v N L) (h0:0<L.length):∃ g cap,v=.slice (some ⟨g,0,none⟩) L.length cap∧base≤g∧g<w.heap.size∧L.length≤cap∧cap≤maxLen:=by
 obtain⟨rs,h1,h2,-⟩:=h
 rw [mkM_len] at h2
 rcases h2.2 with ⟨hv,hz⟩ |⟨g,cap,cur,hv,hb,hh,hc,hm,-⟩
 ·omega
 ·exact⟨g,cap,hv,hb,(show Box w g _ cur from hh).lt,hc,hm⟩
theorem RowsN.at (h:RowsN w base v N L) {g cap:Nat} (hv:v=.slice (some ⟨g,0,none⟩) L.length cap) (i:Nat) (hi:i<L.length) :
  ∃ A l c,w.cell? ⟨g,i*2,none⟩=some (.int .i64 N)∧w.cell? ⟨g,i*2+1,none⟩=some (.slice A l c)∧OwnW w A l c (rowOf N (L.getD i 0))∧w.frozen? ⟨g,i*2,none⟩=false∧w.frozen? ⟨g,i*2+1,none⟩=false:=by
 obtain⟨rs,h1,h2,h3⟩:=h
 rw [mkM_len] at h1 h2 h3
 obtain⟨e1,e2⟩:=h3 i hi
 rw [mkM_at N L i hi] at e1 e2
 obtain⟨r1,r2⟩:=rowCells_at rs i (by omega)
 have hc:=World.ownsRow.cells h2 (g:=g) (by rw [hv];rfl)
 have c1:=hc _ _ r1
 have c2:=hc _ _ r2
 rw [add_zeroM] at c1 c2
 rw [e1] at c1
 rw [hv] at h2
 exact⟨_,_,_,c1,c2,e2,h2.frozenAt _,h2.frozenAt _⟩
theorem RowsN.put {g cap:Nat} (h:RowsN w base (.slice (some ⟨g,0,none⟩) L.length cap) N L) (i:Nat) (hi:i<L.length) (x:Nat) {A:Option Addr} {l c:Nat} (hw:OwnW w A l c (rowOf N x)) :
  RowsN ((w.setCell ⟨g,i*2,none⟩ (.int .i64 N)).setCell ⟨g,i*2+1,none⟩ (.slice A l c)) base (.slice (some ⟨g,0,none⟩) L.length cap) N (L.set i x):=by
 obtain⟨rs,h1,h2,h3⟩:=h
 rw [mkM_len] at h1 h2 h3
 have hbox:∃ cur,Box w g 139 cur:=by
  rcases h2.2 with ⟨hv,_⟩ |⟨g',cap',cur,hv,hb,hh,-⟩
  ·cases hv
  ·injection hv with e1;injection e1 with e1;injection e1 with e1;subst e1;exact⟨cur,hh⟩
 obtain⟨cur,hbx⟩:=hbox
 have s1:=(h2.stored (i*2) (.int .i64 N)).1
 have s2:=(s1.stored (i*2+1) (.slice A l c)).1
 rw [show ((rowCells rs).set (i*2) (.int .i64 (N:Int))).set (i*2+1) (.slice A l c)=rowCells (rs.set i ((N:Int),A,l,c)) from rowCells_set rs i ((N:Int),A,l,c)] at s2
 refine⟨rs.set i ((N:Int),A,l,c),by simp [h1,mkM],by rw [mkM_len,List.length_set];exact s2,fun j hj=>?_⟩
 rw [mkM_len,List.length_set] at hj
 rw [mkM_at N _ j (by rw [List.length_set];exact hj)]
 have far:∀ {A:Option Addr} {l c:Nat} {zs:List Nat},OwnW w A l c zs→OwnW ((w.setCell ⟨g,i*2,none⟩ (.int .i64 N)).setCell ⟨g,i*2+1,none⟩ (.slice A l c)) A l c zs:=fun ho=>(ho.far hbx (by decide) _ _).far (hbx.put _ _) (by decide) _ _
 have far2:∀ {B:Option Addr} {m d:Nat} {zs:List Nat},OwnW w B m d zs→OwnW ((w.setCell ⟨g,i*2,none⟩ (.int .i64 N)).setCell ⟨g,i*2+1,none⟩ (.slice A l c)) B m d zs:=fun ho=>(ho.far hbx (by decide) _ _).far (hbx.put _ _) (by decide) _ _
 by_cases e:j=i
 ·subst e
  have e1:(rs.set j ((N:Int),A,l,c)).getD j (0,none,0,0)=((N:Int),A,l,c):=by simp [List.getD,h1,hi]
  have e2:(L.set j x).getD j 0=x:=by simp [List.getD,hi]
  rw [e1,e2]
  exact⟨rfl,far2 hw⟩
 ·have e1:(rs.set i ((N:Int),A,l,c)).getD j (0,none,0,0)=rs.getD j (0,none,0,0):=by simp only [List.getD];rw [List.getElem?_set_ne (by omega)]
  have e2:(L.set i x).getD j 0=L.getD j 0:=by simp only [List.getD];rw [List.getElem?_set_ne (by omega)]
  obtain⟨f1,f2⟩:=h3 j hj
  rw [mkM_at N L j hj] at f1 f2
  rw [e1,e2]
  exact⟨f1,far2 f2⟩
end
theorem has_any (N x:Nat) (hN:N≤512) (hx:x<2 ^ N) (A:Option Addr) (l c p:Nat) (hp:p<N) (w:World) (hw:Words w A l (rowOf N x)) :
  Calls Tryz.prog 176 #[.agg #[.int .i64 N,.slice A l c],.int .i64 (p:Int)] w fun e w'=>e=.returned (.bool (x.testBit p))∧Below w.heap.size w w':=by
 have hW:Below w.heap.size w (w.alloc (.cells #[.int .i64 N,.slice A l c] 139)):=(Below.refl _ _).alloc (Nat.le_refl _) _
 have Q:=Box.new w 139 #[.int .i64 (N:Int),.slice A l c]
 have HG:=hZ (get_yes N p A l c (rowOf N x) _ (rowOf_right N x hN hx) hp (hw.below hW))
 rw [rowOf_bitN N x p hp] at HG
 have HW:=hZ hW
 obtain⟨q0,q1,-,-⟩:=Q.two
 clear hw hW Q
 cases hb:x.testBit p with
 | true=>
   rw [hb] at HG
   clear hb
   go_enter Tryz.func176,Tryz.ntmps176
   go_wp2_with fail
   refine HG.out.mono ?_
   rintro e w1 ⟨rfl,hb⟩
   have B:=hZ (chainN HW.out HW.out.size hb)
   clear hb
   go_wp2_with fail
   go_ret
   exact⟨by simp,B.out⟩
 | false=>
   rw [hb] at HG
   clear hb
   go_enter Tryz.func176,Tryz.ntmps176
   go_wp2_with fail
   refine HG.out.mono ?_
   rintro e w1 ⟨rfl,hb⟩
   have B:=hZ (chainN HW.out HW.out.size hb)
   clear hb
   go_wp2_with fail
   go_ret
   exact⟨by simp,B.out⟩
theorem RowsN.keepW {w:World} {base:Nat} {N:Nat} {L:List Nat} {g n cap:Nat} (h:RowsN w base (.slice (some ⟨g,0,none⟩) n cap) N L) {B:Option Addr} {m k:Nat} {zs:List Nat} (ho:OwnW w B m k zs) (i j:Nat) (u v:Value) :
  OwnW ((w.setCell ⟨g,i,none⟩ u).setCell ⟨g,j,none⟩ v) B m k zs:=by
 obtain⟨rs,h1,h2,h3⟩:=h
 rcases h2.2 with ⟨hv,_⟩ |⟨g',cap',cur,hv,hb,hh,-⟩
 ·cases hv
 ·injection hv with e1;injection e1 with e1;injection e1 with e1
  subst e1
  have hbx:Box w g 139 cur:=hh
  exact (ho.far hbx (by decide) _ _).far (hbx.put _ _) (by decide) _ _
theorem Box.three {w:World} {g:Nat} {t:TypeId} {a b d:Value} (h:Box w g t #[a,b,d]):w.cell? ⟨g,0,none⟩=some a∧w.cell? ⟨g,1,none⟩=some b∧w.cell? ⟨g,2,none⟩=some d∧w.frozen? ⟨g,0,none⟩=false∧w.frozen? ⟨g,1,none⟩=false∧w.frozen? ⟨g,2,none⟩=false:=
 ⟨h.cell 0,h.cell 1,h.cell 2,h.free 0,h.free 1,h.free 2⟩
def FindOut (L:List Nat) (d c:Nat) (w:World) (e:Ending) (w':World):Prop:=
 ∃ i:Nat,e=.returned (.int .i64 (i:Int))∧d≤i∧i≤L.length∧(∀ j,d≤j→j<i→(L.getD j 0).testBit c=false)∧(i<L.length→(L.getD i 0).testBit c=true)∧Below w.heap.size w w'
set_option maxHeartbeats 2000000 in
theorem find_any (N:Nat) (hN:N≤512) (L:List Nat) (hL:∀ i,L.getD i 0<2 ^ N) (hlen:L.length≤64) (v:Value) (base wb d c:Nat) (hd:d≤L.length) (hc:c<N) (w:World) (hb:Box w wb 213 #[.int .i64 (N:Int),v,.int .i64 (d:Int)]) (hr:RowsN w base v N L) :
  Calls Tryz.prog 175 #[.pointer (some ⟨wb,0,none⟩),.int .i64 (c:Int)] w (FindOut L d c w):=by
 have HBX:=hZ hb
 have HR:=hZ hr
 obtain⟨A0,c0,hv,-⟩:=own_form hr.choose_spec.2.1
 rw [mkM_len] at hv
 subst hv
 obtain⟨b0,b1,b2,-,-,-⟩:=hb.three
 clear hb hr
 go_enter Tryz.func175,Tryz.ntmps175
 go_wp2_with fail
 clear b0 b1 b2
 go_loopw [5] (fun t wr=>∃ i:Nat,d≤i∧i≤L.length∧t=.int .i64 (i:Int)∧Hid (∀ j,d≤j→j<i→(L.getD j 0).testBit c=false)∧Hid (Below w.heap.size w wr)) (fun t _=>L.length-(intOf t).toNat)
 case atStart=>exact⟨d,Nat.le_refl _,hd,rfl,hZ (fun j h1 h2=>by omega),hZ (Below.refl _ _)⟩
 case round=>
  obtain⟨i,h1,h2,rfl,HF,HB⟩:=hrel
  obtain⟨b0,b1,b2,-,-,-⟩:=(HBX.out.keep HB.out).three
  by_cases hlt:i<L.length
  ·have hlt':(i:Int)<(L.length:Int):=by omega
   have hr1:=HR.out.below HB.out
   obtain⟨g,cap,hv,-,-,hcap,hcm⟩:=hr1.form (by omega)
   injection hv with e1 e2 e3
   subst e1
   obtain⟨A,l,cc,x0,x1,ow,-,-⟩:=hr1.at rfl i hlt
   have HH:=hZ (has_any N (L.getD i 0) hN (hL i) A l cc c hc _ (ow.words (rowOf_lt N _)))
   clear hr1 e3 ow
   cases hbit:(L.getD i 0).testBit c with
   | true=>
     rw [hbit] at HH
     have HBt:=hZ hbit
     clear hbit
     go_wp2_with fail
     refine HH.out.mono ?_
     rintro e w1 ⟨rfl,hb⟩
     have HB2:=hZ (chain HB.out hb)
     clear hb
     go_wp2_with fail
     go_ret
     exact⟨i,rfl,h1,by omega,HF.out,fun _=>HBt.out,HB2.out⟩
   | false=>
     rw [hbit] at HH
     have HBt:=hZ hbit
     clear hbit
     go_wp2_with fail
     refine HH.out.mono ?_
     rintro e w1 ⟨rfl,hb⟩
     have HB2:=hZ (chain HB.out hb)
     clear hb
     go_wp2_with fail
     go_roundw
     case rel=>exact⟨i+1,by omega,by omega,by go_num,hZ (fun j k1 k2=>by
      by_cases e:j=i
      ·subst e;exact HBt.out
      ·exact HF.out j k1 (by omega)),HB2⟩
     case measure=>simp [intOf];omega
  ·obtain rfl:i=L.length:=by omega
   have hlt':¬ (L.length:Int)<(L.length:Int):=by omega
   go_wp2_with fail
   go_ret
   exact⟨L.length,rfl,h1,Nat.le_refl _,HF.out,fun h=>absurd h (Nat.lt_irrefl _),HB.out⟩
end
section
/- Layer 4: clear: a column is put out of all rows but one. -/
open Go.RowKit
set_option maxRecDepth 100000
theorem gk_trans {w w1 w2:World} {g:Nat} (h:w.grownBy w1 (some g)) (k:w1.grownBy w2 (some g)):w.grownBy w2 (some g):=
 ⟨k.os.trans h.os,k.tape.trans h.tape,k.output.trans h.output,Nat.le_trans h.size k.size,fun b hb hne=>(k.block b (Nat.lt_of_lt_of_le hb h.size) hne).trans (h.block b hb hne)⟩
theorem gk_below {w w1:World} {r:Option Nat} (h:Below w.heap.size w w1):w.grownBy w1 r:=⟨h.os,h.tape,h.output,h.size,fun b hb _=>h.block b hb⟩
theorem gk_set (w:World) (g i:Nat) (u:Value):w.grownBy (w.setCell ⟨g,i,none⟩ u) (some g):=
 ⟨rfl,rfl,rfl,by simp [World.setCell],fun b _ hne=>Below.heap_setCell _ _ _ _ (fun e=>hne (by rw [e]))⟩
theorem gk_drew {w w1:World} {r:Option Nat} (h:w.grownBy w1 r):w.grownBy w1.drew r:=⟨h.os,h.tape,h.output,h.size,h.block⟩
theorem RowsN.drew {w:World} {base:Nat} {v:Value} {N:Nat} {L:List Nat} (h:RowsN w base v N L):RowsN w.drew base v N L:=h
theorem gk_refl (w:World) (r:Option Nat):w.grownBy w r:=⟨rfl,rfl,rfl,Nat.le_refl _,fun _ _ _=>rfl⟩
theorem gk_box {w w1:World} {g b:Nat} {t:TypeId} {cs:Array Value} (h:Box w b t cs) (k:w.grownBy w1 (some g)) (hne:b≠g):Box w1 b t cs:=(k.block b h.lt (fun e=>hne (Option.some.inj e))).trans h
def clearP (L:List Nat) (d c i:Nat):List Nat:=(List.range L.length).map fun j=>if j<i∧j≠d∧(L.getD j 0).testBit c=true then L.getD j 0^^^L.getD d 0 else L.getD j 0
theorem clearP_len (L:List Nat) (d c i:Nat):(clearP L d c i).length=L.length:=by simp [clearP]
theorem clearP_at (L:List Nat) (d c i j:Nat) (hj:j<L.length):(clearP L d c i).getD j 0=if j<i∧j≠d∧(L.getD j 0).testBit c=true then L.getD j 0^^^L.getD d 0 else L.getD j 0:=by simp [clearP,List.getD,hj]
theorem clearP_zero (L:List Nat) (d c:Nat):clearP L d c 0=L:=by
 apply List.ext_getElem (clearP_len _ _ _ _)
 intro j h1 h2
 simp [clearP,List.getD,h2]
theorem clearP_all (L:List Nat) (d c:Nat):clearP L d c L.length=clearL L d c:=by
 unfold clearP clearL
 apply List.map_congr_left
 intro j hj
 have:j<L.length:=by simpa using hj
 simp [this]
theorem clearP_yes (L:List Nat) (d c i:Nat) (hi:i<L.length) (hd:i≠d) (hb:(L.getD i 0).testBit c=true):clearP L d c (i+1)=(clearP L d c i).set i (L.getD i 0^^^L.getD d 0):=by
 apply List.ext_getElem (by simp [clearP])
 intro j h1 h2
 have hj:j<L.length:=by rw [clearP_len] at h1;exact h1
 have a:=clearP_at L d c (i+1) j hj
 have b:=clearP_at L d c i j hj
 rw [List.getElem_set]
 have e1:(clearP L d c (i+1)).getD j 0=(clearP L d c (i+1))[j]:=by simp only [List.getD,List.getElem?_eq_getElem h1,Option.getD_some]
 have h3:j<(clearP L d c i).length:=by rw [clearP_len];exact hj
 have e2:(clearP L d c i).getD j 0=(clearP L d c i)[j]:=by simp only [List.getD,List.getElem?_eq_getElem h3,Option.getD_some]
 rw [← e1,a]
 by_cases e:i=j
 ·subst e;rw [if_pos rfl,if_pos ⟨by omega,hd,hb⟩]
 ·rw [if_neg e,← e2,b]
  by_cases hl:j<i
  ·simp only [hl,show j<i+1 by omega]
  ·simp only [hl,show ¬ j<i+1 by omega]
theorem clearP_no (L:List Nat) (d c i:Nat) (h:¬ (i≠d∧(L.getD i 0).testBit c=true)):clearP L d c (i+1)=clearP L d c i:=by
 unfold clearP
 apply List.map_congr_left
 intro j hj
 by_cases e:j=i
 ·subst e;rw [if_neg (fun k=>h k.2),if_neg (fun k=>h k.2)]
 ·by_cases hl:j<i
  ·simp only [hl,show j<i+1 by omega]
  ·simp only [hl,show ¬ j<i+1 by omega]
theorem lt_all {N:Nat} {L:List Nat} (h:∀ r∈L,r<2 ^ N) (i:Nat):L.getD i 0<2 ^ N:=by
 by_cases hi:i<L.length
 ·exact h _ (getD_mem hi)
 ·have:L[i]?=none:=List.getElem?_eq_none (by omega)
  simp only [List.getD,this,Option.getD_none];exact Nat.two_pow_pos N
theorem xor_num (N x y:Nat) (hN:N≤512) (hx:x<2 ^ N) (hy:y<2 ^ N) (A B:Option Addr) (l c k d:Nat) (w:World) (hu:Words w A l (rowOf N x)) (hv:Words w B k (rowOf N y)) :
  Calls Tryz.prog 174 #[.agg #[.int .i64 (N:Int),.slice A l c],.agg #[.int .i64 (N:Int),.slice B k d]] w (OwnOut N (rowOf N (x^^^y)) w):=by
 have h:=xor_own (N:Int) A B l c k d (rowOf N x) (rowOf N y) w hu hv (rowOf_right N x hN hx) (rowOf_right N y hN hy)
 rw [rowOf_xor] at h
 exact h
theorem set2_cell {w:World} {g i j:Nat} {x:Value} (h:w.cell? ⟨g,j,none⟩=some x) (h1:¬ j=i) (h2:¬ j=i+1) (u v:Value):((w.setCell ⟨g,i,none⟩ u).setCell ⟨g,i+1,none⟩ v).cell? ⟨g,j,none⟩=some x:=by
 rw [World.cell?_setCell_other _ _ _ _ (by intro e;injection e;omega),World.cell?_setCell_other _ _ _ _ (by intro e;injection e;omega)]
 exact h
def ClearOut (N base wb g cap:Nat) (L:List Nat) (d c:Nat) (w:World) (e:Ending) (w':World):Prop:=
 (∃ v,e=.returned v)∧Box w' wb 213 #[.int .i64 (N:Int),.slice (some ⟨g,0,none⟩) L.length cap,.int .i64 ((d:Int)+1)]∧RowsN w' base (.slice (some ⟨g,0,none⟩) L.length cap) N (clearL L d c)∧w.grownBy w' (some g)
set_option maxHeartbeats 4000000 in
theorem clear_any (N:Nat) (hN:N≤512) (L:List Nat) (hL:∀ i,L.getD i 0<2 ^ N) (hlen:L.length≤64) (base wb g cap d c:Nat) (hd:d<L.length) (hc:c<N) (hwg:wb≠g) (w:World)
  (hb:Box w wb 213 #[.int .i64 (N:Int),.slice (some ⟨g,0,none⟩) L.length cap,.int .i64 ((d:Int)+1)]) (hr:RowsN w base (.slice (some ⟨g,0,none⟩) L.length cap) N L) (hg:g<w.heap.size) :
  Calls Tryz.prog 159 #[.pointer (some ⟨wb,0,none⟩),.int .i64 (c:Int)] w (ClearOut N base wb g cap L d c w):=by
 have HBX:=hZ hb
 have HR:=hZ hr
 obtain⟨b0,b1,b2,-,-,-⟩:=hb.three
 obtain⟨-,-,-,-,-,hcap,hcm⟩:∃ (_ _:Nat),True∧True∧True∧L.length≤cap∧cap≤maxLen:=by
  obtain⟨g',cap',hv,-,-,h1,h2⟩:=hr.form (by omega)
  injection hv with _ _ e3
  subst e3
  exact⟨0,0,trivial,trivial,trivial,h1,h2⟩
 unfold maxLen at hcm
 clear hb hr
 go_enter Tryz.func159,Tryz.ntmps159
 go_wp2_with fail
 clear b0 b1 b2
 go_loopw [17] (fun t wr=>∃ i:Nat,i≤L.length∧t=.int .i64 (i:Int)∧Box wr wb 213 #[.int .i64 (N:Int),.slice (some ⟨g,0,none⟩) L.length cap,.int .i64 ((d:Int)+1)]∧RowsN wr base (.slice (some ⟨g,0,none⟩) L.length cap) N (clearP L d c i)∧Hid (w.grownBy wr (some g))) (fun t _=>L.length-(intOf t).toNat)
 case atStart=>exact⟨0,Nat.zero_le _,rfl,HBX.out,by rw [clearP_zero];exact HR.out,hZ (gk_refl _ _)⟩
 case round=>
  obtain⟨i,hi,rfl,hbx,hrw,HG⟩:=hrel
  have HB:=hZ hbx
  have HRw:=hZ hrw
  clear hbx hrw HBX HR
  have HCL:=hZ (clearP_len L d c i)
  by_cases hlt:i<L.length
  ·have hlt':(i:Int)<(L.length:Int):=by omega
   obtain⟨A,l,cc,x0,x1,ow,-,-⟩:=HRw.out.at (by rw [HCL.out]) i (by rw [HCL.out];exact hlt)
   have hx:=clearP_at L d c i i hlt
   rw [if_neg (fun k=>Nat.lt_irrefl _ k.1)] at hx
   rw [hx] at ow
   clear hx
   -- the row's own variable
   have hal:Below wr.heap.size wr (wr.alloc (.cells #[.int .i64 (N:Int),.slice A l cc] 139)):=(Below.refl _ _).alloc (Nat.le_refl _) _
   have RB:=hZ (Box.new wr 139 #[.int .i64 (N:Int),.slice A l cc])
   have HB1:=hZ (HB.out.keep hal)
   have HRw1:=hZ (HRw.out.below hal)
   have HG1:=hZ (gk_trans HG.out (gk_below hal))
   have OW1:=hZ (ow.below hal)
   have hgs:wb<wr.heap.size:=HB.out.lt
   clear ow
   obtain⟨r0,r1,-,-⟩:=RB.out.two
   have HH:=hZ (has_any N (L.getD i 0) hN (hL i) A l cc c hc _ (OW1.out.words (rowOf_lt N _)))
   by_cases hid:i=d
   ·have t1:((i:Int) != (d:Int))=false:=by simp [hid]
    have HNo:=hZ (clearP_no L d c i (fun k=>k.1 hid))
    clear hid
    go_wp2_with fail
    go_roundw
    case rel=>exact⟨i+1,by omega,by go_num,HB1.out,by rw [HNo.out];exact HRw1.out,HG1⟩
    case measure=>simp [intOf];omega
   ·have t1:((i:Int) != (d:Int))=true:=by simp;omega
    have HNE:=hZ hid
    clear hid
    cases hbit:(L.getD i 0).testBit c with
    | false=>
      rw [hbit] at HH
      have HNo:=hZ (clearP_no L d c i (fun k=>by rw [hbit] at k;cases k.2))
      clear hbit
      go_wp2_with fail
      refine HH.out.mono ?_
      rintro e w1 ⟨rfl,hb⟩
      have HB2:=hZ (HB1.out.keep hb)
      have HRw2:=hZ (HRw1.out.below hb)
      have HG2:=hZ (gk_trans HG1.out (gk_below hb))
      clear hb
      go_wp2_with fail
      go_roundw
      case rel=>exact⟨i+1,by omega,by go_num,HB2.out,by rw [HNo.out];exact HRw2.out,HG2⟩
      case measure=>simp [intOf];omega
    | true=>
      rw [hbit] at HH
      have HYes:=hZ (clearP_yes L d c i hlt HNE.out hbit)
      clear hbit
      go_wp2_with fail
      refine HH.out.mono ?_
      rintro e w1 ⟨rfl,hb⟩
      have HB2:=hZ (HB1.out.keep hb)
      have HRw2:=hZ (HRw1.out.below hb)
      have HG2:=hZ (gk_trans HG1.out (gk_below hb))
      have RB2:=hZ (RB.out.keep hb)
      have OW2:=hZ (OW1.out.below hb)
      clear hb r0 r1 x0 x1
      obtain⟨A2,l2,c2,y0,y1,ow2,-,-⟩:=HRw2.out.at (by rw [HCL.out]) d (by rw [HCL.out];exact hd)
      have hx:=clearP_at L d c i d hd
      rw [if_neg (fun k=>k.2.1 rfl)] at hx
      rw [hx] at ow2
      clear hx
      have OW3:=hZ ow2
      clear ow2
      obtain⟨r0,r1,-,-⟩:=RB2.out.two
      obtain⟨b0,b1,b2,-,-,-⟩:=HB2.out.three
      have HX:=hZ (fun W (h1:Words W A l (rowOf N (L.getD i 0))) (h2:Words W A2 l2 (rowOf N (L.getD d 0)))=>xor_num N (L.getD i 0) (L.getD d 0) hN (hL i) (hL d) A A2 l cc l2 c2 W h1 h2)
      have WD1:=hZ (show Words w1.drew A l (rowOf N (L.getD i 0)) from OW2.out.words (rowOf_lt N _))
      have WD2:=hZ (show Words w1.drew A2 l2 (rowOf N (L.getD d 0)) from OW3.out.words (rowOf_lt N _))
      have HV:=hZ (show Value.slice (some ⟨g,0,none⟩) L.length cap=.slice (some ⟨g,0,none⟩) (clearP L d c i).length cap by rw [HCL.out])
      have HGl:=hZ (show g<w1.drew.heap.size from Nat.lt_of_lt_of_le hg HG2.out.size)
      have HI1:=hZ (show i<(clearP L d c i).length by rw [HCL.out];exact hlt)
      have hdc:(d:Int)<(L.length:Int):=by omega
      have hgr:g<wr.heap.size:=Nat.lt_of_lt_of_le hg HG.out.size
      have n1:¬ d*2=i*2:=by have:=HNE.out;omega
      have n2:¬ d*2=i*2+1:=by omega
      have n3:¬ d*2+1=i*2:=by omega
      have n4:¬ d*2+1=i*2+1:=by have:=HNE.out;omega
      have n5:¬ wb=g:=hwg
      have n6:¬ wr.heap.size=g:=by omega
      have m1:¬ i*2=d*2:=by have:=HNE.out;omega
      have m2:¬ i*2+1=d*2:=by omega
      have m3:¬ i*2=d*2+1:=by omega
      have m4:¬ i*2+1=d*2+1:=by have:=HNE.out;omega
      have m5:¬ g=wb:=fun e=>hwg e.symm
      have m6:¬ g=wr.heap.size:=by omega
      go_wp2_with fail
      go_region_held3 (fun w'=>w'.cell? ⟨wb,1,none⟩=some (.slice (some ⟨g,0,none⟩) L.length cap)∧w'.cell? ⟨wr.heap.size,0,none⟩=some (.int .i64 (N:Int))∧w'.cell? ⟨wr.heap.size,1,none⟩=some (.slice A l cc)∧w'.cell? ⟨g,d*2,none⟩=some (.int .i64 (N:Int))∧w'.cell? ⟨g,d*2+1,none⟩=some (.slice A2 l2 c2)) (go_keep)
       (first | (go_at_call 174;refine (HX.out _ WD1.out WD2.out).mono ?_;rintro f1 y1' ⟨A3,l3,c3,rfl,ow3,hb⟩;have HB3:=hZ (HB2.out.drew.keep hb);have HRw3:=hZ (HRw2.out.drew.below hb);have HG3:=hZ (gk_trans (gk_drew HG2.out) (gk_below hb));have RB3:=hZ (RB2.out.drew.keep hb);have OW4:=hZ ow3;have q0:=(hb.cell (p:=⟨g,d*2,none⟩) HGl.out).trans y0;have q1:=(hb.cell (p:=⟨g,d*2+1,none⟩) HGl.out).trans y1;clear ow3 hb;obtain⟨s0,s1,-,-⟩:=RB3.out.two;obtain⟨p0,p1,p2,-,-,-⟩:=HB3.out.three;obtain⟨A5,l5,c5,z0,z1,-,zf0,zf1⟩:=HRw3.out.at HV.out i HI1.out;have k0:=set2_cell q0 n1 n2 (.int .i64 (N:Int)) (.slice A3 l3 c3);have k1:=set2_cell q1 n3 n4 (.int .i64 (N:Int)) (.slice A3 l3 c3)))
      clear k0 k1 q0 q1
      go_wp2_with fail
      go_roundw
      case rel=>
       have hput:=RowsN.put (L:=clearP L d c i) (by rw [HCL.out];exact HRw3.out) i HI1.out (L.getD i 0^^^L.getD d 0) OW4.out
       rw [← HYes.out,HCL.out] at hput
       exact⟨i+1,by omega,by go_num,(HB3.out.far (p:=⟨g,i*2,none⟩) hwg _).far (p:=⟨g,i*2+1,none⟩) hwg _,hput,hZ (gk_trans (gk_trans HG3.out (gk_set _ g (i*2) _)) (gk_set _ g (i*2+1) _))⟩
      case measure=>simp [intOf];omega
  ·obtain rfl:i=L.length:=by omega
   have hlt':¬ (L.length:Int)<(L.length:Int):=by omega
   have hrw:=HRw.out
   rw [clearP_all] at hrw
   go_wp2_with fail
   go_end0
   exact⟨⟨_,rfl⟩,HB.out,hrw,HG.out⟩
end
section
/- A law of one's own for 'for .. := range seq' where the iterator (a function or a method's value) and the body share a state: what holds at a round's head, and what holds where the round is handed over. No program. -/
open Go.RowKit
variable {F:Fence} {n:Nat} {P:Program}
def postS {σ:Type} (I:σ→World→Prop) (s:σ) (W:World):Exit→Act→World→Prop
 | .normal,_,W'=>KeepsOthers W W'∧I s W'
 | .ret,_,_=>False
 | .exit _,_,_=>False
 | .goto _,_,_=>False
 | .panic _,_,_=>False
 | .outgrown,_,_=>False
theorem range_state {σ:Type} {g:Operand} {ps:Array Tmp} {assign body:Code} {Q:Exit→Act→World→Prop} {a:Act} {w:World}
  (hro:F.round=none) (h1:1≤n) {gf:Nat} {la lb:Array Value} (hg:a.eval g=.func (.func gf) la lb) (hFg:F.fn gf) (eg:∀ args w,(callFunc gf args).run P w=.ok (.enter gf args) w)
  {encs:σ→Array Value} (next:σ→σ) (Fin:σ→Prop) (hps:∀ x,(encs x).size=ps.size)
  (s₀:σ) (I M:σ→World→Prop) (hI:OwnFrom w.heap.size I) (hM:OwnFrom w.heap.size M)
  (hseq:∀ (l:Nat) (T:World→Prop),(∀ W W',T W→KeepsOthers W W'→T W') →
   (∀ s W,M s W→T W→YieldAt F (n-1-1) P l (encs s) W fun e W'=>e=.returned (.bool true)∧I (next s) W'∧T W') →
   ∀ s W1,I s W1→T W1→s=s₀→CallsIn F (n-1) P gf (la++#[.func (.yield l) #[] #[]]++lb) W1 fun e W'=>(∃ v,e=.returned v)∧∃ s,Fin s∧I s W'∧T W')
  (h0:I s₀ w) (a₁:σ→Act)
  (hassign:∀ (l:Nat) (x:σ) (W:World) (K:Act→World→Prop),K (a₁ x) W →
   assign.wpIn (F.inRound l) (n-1-1) P (Exit.then K (fun _ _ _=>False)) { tmps:=(ps.zip (encs x)).foldl (fun t (p,v)=>t.setIfInBounds p v) a.tmps,defers:=[] } W)
  (hbody:∀ (l:Nat) (s:σ) (W:World),M s W→body.wpIn (F.inRound l) (n-1-1) P (postS I (next s) W) (a₁ s) W)
  (hdone:∀ (D:Nat) (s:σ) (W:World),w.heap.size≤D→Fin s→I s W→W.heap[D]?=some (.deferred (some []))→Q .normal { a with defers:={ target:=.collected D,args:=#[] }::a.defers } W) :
  (Code.rangeFunc g ps assign body).wpIn F n P Q a w:=by
 refine wpIn_rangeFunc ?_
 intro fn hfn
 rw [hro]
 obtain⟨rc,hrc⟩:∃ rc:LoopState→Option Code→Loop,rc=fun st pe=>{ state:=st,pending:=pe,fn,tmps:=a.tmps,params:=ps,assign,body,defers:=w.heap.size }:=⟨_,rfl⟩
 obtain⟨W1,hW1⟩:∃ W1,(w.alloc (.deferred (some []))).alloc (.loop (rc .ready none))=W1:=⟨_,rfl⟩
 have hL1:W1.heap[w.heap.size+1]?=some (.loop (rc .ready none)):=by
  rw [← hW1];have:=World.alloc_heap_new (w.alloc (.deferred (some []))) (.loop (rc .ready none));rwa [World.size_alloc] at this
 have hK1:W1.heap[w.heap.size]?=some (.deferred (some [])):=by
  rw [← hW1];exact (Below.heap_alloc _ _ _ (by simp)).trans (World.alloc_heap_new w _)
 have hI1:I s₀ W1:=by rw [← hW1];exact hI.alloc _ (hI.alloc _ h0)
 refine⟨w.heap.size+1,[{ target:=.collected w.heap.size,args:=#[] }],W1,{ target:=.fn (.func gf) lb,args:=la++#[.func (.yield (w.heap.size+1)) #[] #[]] },W1,gf,
  la++#[.func (.yield (w.heap.size+1)) #[] #[]]++lb,W1,?_,?_,?_,?_,fun _=>h1,?_⟩
 ·rw [← hW1,hrc];exact run_enterLoop_outer _ _ _ _ _
 ·simp only [resolve,hg]
  simp [go_sem]
 ·intro f' hf';simp [Target.leads] at hf';subst hf';exact hFg
 ·simp [invoke,go_sem,eg]
 ·refine (hseq (w.heap.size+1)
   (fun W=>W.heap[w.heap.size+1]?=some (.loop (rc .ready none))∧W.heap[w.heap.size]?=some (.deferred (some [])))
   (fun W W' hs hk=>⟨hk.same _ _ hs.1 rfl,hk.same _ _ hs.2 rfl⟩) ?_ s₀ W1 hI1 ⟨hL1,hK1⟩ rfl).mono ?_
  ·rintro s W hm ⟨hl,hk⟩
   have hlt:w.heap.size+1<W.heap.size:=(Array.getElem?_eq_some_iff.1 hl).1
   have hy:=run_yield (P:=P) (args:=encs s) hl (by rw [hrc];exact hps _)
   rw [hrc] at hy
   refine⟨fn,_,assign,body,hy,roundIn_of_wpIn hfn (hassign _ s W _ ⟨_,run_beginRound hl (by rw [hrc]),?_⟩)⟩
   have hl2:(W.putObj (w.heap.size+1) (.loop { rc .ready none with state:=.busy })).heap[w.heap.size+1]?=some (.loop { rc .ready none with state:=.busy }):=World.putObj_heap_same hlt
   have hk2:(W.putObj (w.heap.size+1) (.loop { rc .ready none with state:=.busy })).heap[w.heap.size]?=some (.deferred (some [])):=(World.putObj_heap_other (by omega)).trans hk
   refine wpIn_mono (hbody _ s _ (hM.putObj _ hm (by omega) hl rfl)) ?_
   rintro e a3 W3 hp
   cases e with
   | normal=>
     obtain⟨hk3,hi3⟩:=hp
     have hl3:=hk3.same _ _ hl2 rfl
     have hr:=run_endRound (P:=P) none hl3
     have hl4:(W3.putObj (w.heap.size+1) (.loop (rc .ready none))).heap[w.heap.size+1]?=some (.loop (rc .ready none)):=World.putObj_heap_same (Array.getElem?_eq_some_iff.1 hl3).1
     have hk4:(W3.putObj (w.heap.size+1) (.loop (rc .ready none))).heap[w.heap.size]?=some (.deferred (some [])):=(World.putObj_heap_other (by omega)).trans (hk3.same _ _ hk2 rfl)
     have hi4:=hI.putObj (.loop (rc .ready none)) hi3 (by omega) hl3 rfl
     rw [hrc] at hr hl4 hk4 hi4 ⊢
     exact⟨_,_,hr,rfl,hi4,hl4,hk4⟩
   | ret=>exact hp.elim
   | exit id=>exact hp.elim
   | goto t=>exact hp.elim
   | panic ch=>exact hp.elim
   | outgrown=>exact hp.elim
  ·rintro e W2 ⟨⟨v,rfl⟩,s,hf,hi,hl,hk⟩
   exact⟨none,_,by have:=run_endLoop (P:=P) hl (by rw [hrc];simp);rw [hrc] at this;exact this,hdone _ s _ (Nat.le_refl _) hf (hI.putObj _ hi (by omega) hl rfl) ((World.putObj_heap_other (by omega)).trans hk)⟩
end
section
/- As QTail, where one operation of the head (a plain move, say) is waited for by none of the first ones of the tail: it is taken at first. No program. -/
section
variable {F:Fence} {n:Nat} {P:Program} {ops:Array Oper} {md:Region.Mode} {C:World→Prop}
def sinkS (md:Region.Mode) (ops:Array Oper) (s m:Nat):Bool:=(List.range m).all fun i=>decide (i=s)||(List.range (m+1)).any fun j=>decide (i<j)&&Region.waitsFor md ops j i
theorem waitsS {s m:Nat} {listed:Array Bool} (hs:sinkS md ops s m=true) (hc:Region.chainB md ops m=true) (hm:m<ops.size) (inv:HeadInv md ops m listed) (hl:listed.getD s false=true) :
  ∀ (d i:Nat),m-i=d→i<m→listed.getD i true=false→∀ t,m≤t→t ∉ Region.ready md ops listed:=by
 intro d
 induction d using Nat.strongRecOn with
 | _ d ih=>
   intro i hd hi hun t ht hr
   obtain⟨_,ot,hot,hall⟩:=mem_ready.1 hr
   have htlt:t<ops.size:=(Array.getElem?_eq_some_iff.1 hot).1
   rcases Nat.lt_or_ge m t with hgt | hle
   ·have hch:=List.all_eq_true.1 hc t (List.mem_range.2 htlt)
    simp only [Bool.or_eq_true,decide_eq_true_eq] at hch
    rcases hch with h0 | h0
    ·omega
    ·obtain⟨o',ho',e,he,hb,hon⟩:=Region.waitsFor_spec h0
     obtain rfl:o'=ot:=Option.some.inj (ho'.symm.trans hot)
     have:=hall e he hb
     rw [hon,getD_both (inv.tail (t-1) (by omega) (by omega))] at this
     cases this
   ·obtain rfl:t=m:=by omega
    have hsi:=List.all_eq_true.1 hs i (List.mem_range.2 hi)
    simp only [Bool.or_eq_true,decide_eq_true_eq] at hsi
    rcases hsi with rfl | hsi
    ·rw [getD_both hun] at hl;cases hl
    ·obtain⟨j,hj,hj2⟩:=List.any_eq_true.1 hsi
     simp only [Bool.and_eq_true,decide_eq_true_eq] at hj2
     obtain⟨oj,hoj,e,he,hb,hon⟩:=Region.waitsFor_spec hj2.2
     have hjt:=List.mem_range.1 hj
     by_cases hjm:j=t
     ·subst hjm
      obtain rfl:oj=ot:=Option.some.inj (hoj.symm.trans hot)
      have:=hall e he hb
      rw [hon,getD_both hun] at this
      cases this
     ·cases hlj:listed.getD j false with
      | true=>
        have:=inv.closed j oj hoj hlj e he hb
        rw [hon,getD_both hun] at this
        cases this
      | false=>exact ih (t-j) (by omega) j rfl (by omega) (getD_in (by rw [inv.size];omega) hlj) t (Nat.le_refl _) hr
theorem head_firstS {s m i:Nat} {oi:Oper} {v:Value} {L:Array Bool→Act→Prop} (hi:ops[i]?=some oi) (hsel:∀ (j:Nat) (o:Oper) cs b,ops[j]?=some o→o.op≠.select cs b)
  (hs:sinkS md ops s m=true) (hc:Region.chainB md ops m=true) (hm:m<ops.size) (him:i<m) (hdone:∀ listed a,L listed a→∀ j∈Region.ready md ops listed,m≤j) :
  ∀ (f:Nat) (listed:Array Bool) (a:Act),HeadInv md ops m listed→listed.getD s false=true →
   (∀ j oj,ops[j]?=some oj→j≠i→listed.getD j true=false→(∀ e∈oj.after,Region.binds md e=true→e.on≠i)→oi.apart ops oj=true) →
   i∈Region.ready md ops listed→YieldsQuiet F n P ops C oi v a →
   headIn F n P md ops C m L f (listed.setIfInBounds i true) (a.put oi.dst v)→headIn F n P md ops C m L (f+1) listed a:=by
 intro f
 induction f with
 | zero=>
   intro listed a inv hls _ hr hy H
   have hun:=(mem_ready.1 hr).1
   refine⟨fun h=>(by rw [h] at hr;cases hr),fun j hj=>?_⟩
   have hjm:j<m:=by
    rcases Nat.lt_or_ge j m with h | h
    ·exact h
    ·exact absurd hj (waitsS hs hc hm inv hls _ i rfl him hun j h)
   refine⟨hjm,?_⟩
   by_cases hji:j=i
   ·subst hji;exact hy.qOpIn hi H
   ·have:=hdone _ _ H j (ready_mono hj hji)
    omega
 | succ f ih=>
   intro listed a inv hls hfree hr hy H
   have hun:=(mem_ready.1 hr).1
   refine⟨fun h=>(by rw [h] at hr;cases hr),fun j hj=>?_⟩
   have hjm:j<m:=by
    rcases Nat.lt_or_ge j m with h | h
    ·exact h
    ·exact absurd hj (waitsS hs hc hm inv hls _ i rfl him hun j h)
   refine⟨hjm,?_⟩
   by_cases hji:j=i
   ·subst hji;exact hy.qOpIn hi H
   ·have h1:=(H.2 j (ready_mono hj hji)).2
    obtain⟨hjun,oj,hoj,hall⟩:=mem_ready.1 hj
    have hnot:∀ e∈oj.after,Region.binds md e=true→e.on≠i:=fun e he hb heq=>by
     have h1:=hall e he hb
     rw [heq,getD_both hun] at h1
     cases h1
    have h2:=qOpIn_put hoj (hfree j oj hoj hji hjun hnot) (fun cs b=>hsel i oi cs b hi) (fun cs b=>hsel j oj cs b hoj) hy h1
    have hfree':∀ k ok,ops[k]?=some ok→k≠i→(listed.setIfInBounds j true).getD k true=false →
      (∀ e∈ok.after,Region.binds md e=true→e.on≠i)→oi.apart ops ok=true:=fun k ok hk hki hun hno=>by
     refine hfree k ok hk hki ?_ hno
     by_cases hjk:j=k
     ·subst hjk;exact hjun
     ·rw [getD_set_ne true hjk] at hun;exact hun
    refine qOpIn_mono (fun a' h3=>ih (listed.setIfInBounds j true) a' (inv.set hj hjm) (getD_set_true hls) hfree' (ready_mono hr (Ne.symm hji)) h3.1 ?_) h2
    rw [Array.setIfInBounds_comm _ _ hji]
    exact h3.2
def lexS (md:Region.Mode) (ops:Array Oper) (g m:Nat):List Nat→Array Bool→Bool
 | [],listed=>Region.seqB md ops g m listed
 | k::ks,listed=>(Region.ready md ops listed).contains k&&Region.free md ops listed k&&decide (k<m)&&lexS md ops g m ks (listed.setIfInBounds k true)
theorem head_lexS {s m g:Nat} {Lq:Act→Prop} (hsel:Region.noSelect ops=true) (hs:sinkS md ops s m=true) (hc:Region.chainB md ops m=true) (hm:m<ops.size) :
  ∀ (ks:List Nat) (os:List Oper) (listed:Array Bool) (a:Act),ks.map (fun k=>ops[k]?)=os.map some→HeadInv md ops m listed→listed.getD s false=true →
  lexS md ops g m ks listed=true→wpQuietIn F n P ops C Lq os a →
  headIn F n P md ops C m (fun listed' a'=>Region.seqB md ops g m listed'=true∧Lq a') ks.length listed a
 | [],[],_,_,_,_,_,hB,h=>⟨hB,h⟩
 | [],_::_,_,_,he,_,_,_,_=>by cases he
 | _::_,[],_,_,he,_,_,_,_=>by cases he
 | k::ks,o::os,listed,a,he,inv,hls,hB,h=>by
   rw [List.map_cons,List.map_cons] at he
   injection he with h0 he
   simp only [lexS,Bool.and_eq_true,decide_eq_true_eq] at hB
   obtain⟨⟨⟨hr,hf⟩,hkm⟩,hB'⟩:=hB
   have hr':k∈Region.ready md ops listed:=by simpa using hr
   have hst:qOpIn F n P ops C k (wpQuietIn F n P ops C Lq os) a:=by unfold qOpIn;simp only [h0];exact h
   obtain⟨v,hy,hK⟩:=yieldsQuiet_of_qOpIn h0 hst
   exact head_firstS h0 (Region.noSelect_spec hsel) hs hc hm hkm (fun listed' a' hL=>seqB_ready hL.1) ks.length listed a inv hls (Region.free_spec h0 hf) hr' hy
    (head_lexS hsel hs hc hm ks os _ _ he (inv.set hr' hkm) (getD_set_true hls) hB' hK)
theorem wpIn_quiet_tailS {id:Nat} {Q:Exit→Act→World→Prop} {a:Act} {w:World} {l:List Oper} (s m:Nat) (ks:List Nat) (os:List Oper) (o:Oper) (v:Value) (hro:F.round=none) (hmx:P.follows .mixedOrders=true)
  (ho:l.toArray[s]?=some o) (hks:ks.map (fun k=>l.toArray[k]?)=os.map some)
  (hB:(Region.noSelect l.toArray&&decide (m<l.toArray.size)&&sinkS .any l.toArray s m&&Region.chainB .any l.toArray m&&Region.free .any l.toArray (Array.replicate l.toArray.size false) s&&(Region.ready .any l.toArray (Array.replicate l.toArray.size false)).contains s&&decide (s<m)&&decide (ks.length+1=m)&&lexS .any l.toArray (l.toArray.size-m) m ks ((Array.replicate l.toArray.size false).setIfInBounds s true))=true)
  (hQ:∀ c a w,Q (.panic c) (a.put o.dst v) w→Q (.panic c) a w) (hy:YieldsFenced P l.toArray o v a)
  (h:wpQuietIn F n P l.toArray (fun w'=>∃ d,w'=w.drewN d) (fun a'=>∀ w',(∃ d,w'=w.drewN d)→wpListIn F n P l.toArray Q (l.drop m) a' w') os (a.put o.dst v)):(Code.region id l.toArray true).wpIn F n P Q a w:=by
 simp only [Bool.and_eq_true,decide_eq_true_eq] at hB
 obtain⟨⟨⟨⟨⟨⟨⟨⟨hsel,hm⟩,hs⟩,hc⟩,hf⟩,hr⟩,hsm⟩,hlen⟩,hlex⟩:=hB
 have hdl:(l.drop m).length=l.toArray.size-m:=by simp
 have hr':s∈Region.ready .any l.toArray (Array.replicate l.toArray.size false):=by simpa using hr
 have inv0:HeadInv .any l.toArray m (Array.replicate l.toArray.size false):=
  ⟨by simp,fun j oj _ hl=>(by rw [getD_replicate_false] at hl;cases hl),fun t _ ht=>getD_in (by simpa using ht) (getD_replicate_false _ _)⟩
 have hls:((Array.replicate l.toArray.size false).setIfInBounds s true).getD s false=true:=by
  have:s<l.toArray.size:=by omega
  simp only [Array.getD_eq_getD_getElem?,Array.getElem?_setIfInBounds,Array.size_replicate]
  have this':s<l.length:=by simpa using this
  simp [this']
 have H:=head_lexS (F:=F) (n:=n) (P:=P) (C:=fun w'=>∃ d,w'=w.drewN d) (md:=.any) (g:=l.toArray.size-m) hsel hs hc hm ks os _ _ hks (inv0.set hr' hsm) hls hlex h
 refine wpIn_region_any hmx ?_
 have:=any_of_head (Q:=Q) (g:=l.toArray.size-m) hro (fun listed a' w' hw' hL=>by
  have:=any_of_list (F:=F) (n:=n) (md:=.any) (Q:=Q) (l.drop m) m listed a' w' (fun j=>by simp [List.getElem?_drop]) (by rw [hdl];exact hL.1) (hL.2 w' hw')
  rwa [hdl] at this) _ _ _ { w with drawn:=w.drawn+1 } ⟨1,rfl⟩ H
 have h2:=wpAnyIn_take hro ho hsel hf hr hQ hy this
 rw [show ks.length+(l.toArray.size-m)+1=l.toArray.size by omega] at h2
 exact h2
theorem wpIn_quiet_skip {id:Nat} {Q:Exit→Act→World→Prop} {a:Act} {w:World} {l:List Oper} {o:Oper} {v:Value} (s m:Nat) (hro:F.round=none) (hmx:P.follows .mixedOrders=true)
  (ho:l.toArray[s]?=some o) (hks:(List.range s++(List.range (m-s-1)).map (·+(s+1))).map (fun k=>l.toArray[k]?)=(l.take s++(l.drop (s+1)).take (m-s-1)).map some)
  (hB:(Region.noSelect l.toArray&&decide (m<l.toArray.size)&&sinkS .any l.toArray s m&&Region.chainB .any l.toArray m&&Region.free .any l.toArray (Array.replicate l.toArray.size false) s&&(Region.ready .any l.toArray (Array.replicate l.toArray.size false)).contains s&&decide (s<m)&&decide ((List.range s++(List.range (m-s-1)).map (·+(s+1))).length+1=m)&&lexS .any l.toArray (l.toArray.size-m) m (List.range s++(List.range (m-s-1)).map (·+(s+1))) ((Array.replicate l.toArray.size false).setIfInBounds s true))=true)
  (hQ:∀ c a w,Q (.panic c) (a.put o.dst v) w→Q (.panic c) a w) (hy:YieldsFenced P l.toArray o v a)
  (h:wpQuietIn F n P l.toArray (fun w'=>∃ d,w'=w.drewN d) (fun a'=>∀ w',(∃ d,w'=w.drewN d)→wpListIn F n P l.toArray Q (l.drop m) a' w') (l.take s++(l.drop (s+1)).take (m-s-1)) (a.put o.dst v)):(Code.region id l.toArray true).wpIn F n P Q a w:=
 wpIn_quiet_tailS s m _ _ o v hro hmx ho hks hB hQ hy h
end
end
end Go.Proofs.YtcikoaeiopbbbaaGreat
