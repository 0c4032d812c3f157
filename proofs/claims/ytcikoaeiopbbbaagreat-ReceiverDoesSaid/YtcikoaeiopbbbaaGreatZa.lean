/- Parts: Words, AppO, Rec, Eq1, Eq2, SymE, Eq4, Eq5, Eq6, Eq3, Eq7, Eq8, Eq9, HTail, GTail, GTail2, Bitrow1, Few, EaX, OpenV, EqO, Open, Block1, Block2, OpenT, Hi1, ObA, RvA. -/
import Derived.ArgAppend
import Derived.BigQuiet
import Derived.Deep.AppendLies
import Derived.Deep.DeepCutAuto
import Derived.Deep.Draws
import Derived.Deep.QuietTactic
import Derived.Deep.RegionHeld
import Derived.Deep.RegionHeld3
import Derived.Deep.RegionLaw
import Derived.Deep.RegionWith
import Derived.Deep.SlicePairs
import Derived.Deep.Slices
import Derived.Laws.BitsAllLaws
import Derived.Laws.IdiomStrings
import Derived.Laws.StructEq
import Derived.Lib.Hide
import Derived.Lib.SmallJoins
import Derived.OpenShut
import Derived.OrdersHeld
import Derived.Outline
import Derived.ProofKit
import Derived.RegionTactic
import Derived.Shelf.Abstract
import Derived.ShutString
import Derived.SliceStrings
import Derived.StillTail
import Derived.Test.YtcikoaeiopbbbaaGreatRows
import Derived.WalkKit
namespace Go.Proofs.YtcikoaeiopbbbaaGreat
set_option linter.unusedVariables false
set_option linter.unusedSimpArgs false
set_option linter.unusedSectionVars false
section
open Go.RowKit
theorem hZ {p:Prop} (h:p):Hid p:=Lib.hid h
theorem nZ {p:Prop} (h:true=false):p:=Bool.noConfusion h
theorem pZa (a:Act) (d:Option Tmp) (v:Value):a.put d v=(match d with | some d=>{a with tmps:=a.tmps.setIfInBounds d v} | none=>a):=rfl
theorem pZb {α:Type _} (l:List α) (i:Nat) (a:α):l.toArray.setIfInBounds i a=(l.set i a).toArray:=List.setIfInBounds_toArray l i a
theorem pZc {α:Type _} (x:α) (xs:List α) (b:α):(x::xs).set 0 b=b::xs:=rfl
theorem pZd {α:Type _} (x:α) (xs:List α) (n:Nat) (b:α):(x::xs).set (n+1) b=x::xs.set n b:=rfl
end
section
/- Rows of 64-bit words in memory: what a slice of words reads, kept while old memory is kept. No program. -/
open Go.RowKit
def Words (w:World) (A:Option Addr) (len:Nat) (ws:List Nat):Prop:=
 ws.length=len∧(∀ j,ws.getD j 0<18446744073709551616) ∧
  (0<len→∃ b off,A=some ⟨b,off,none⟩∧b<w.heap.size∧∀ j,j<len→w.cell? ⟨b,off+j,none⟩=some (.int .u64 (ws.getD j 0:Nat)))
theorem Words.below {w w':World} {A:Option Addr} {len:Nat} {ws:List Nat} (h:Words w A len ws) (hb:Below w.heap.size w w'):Words w' A len ws:=by
 refine⟨h.1,h.2.1,fun hp=>?_⟩
 obtain⟨b,off,rfl,hlt,hc⟩:=h.2.2 hp
 exact⟨b,off,rfl,Nat.lt_of_lt_of_le hlt hb.size,fun j hj=>(hb.cell (p:=⟨b,off+j,none⟩) hlt).trans (hc j hj)⟩
theorem Words.nil (w:World) (A:Option Addr):Words w A 0 []:=⟨rfl,by simp,fun h=>by omega⟩
theorem Words.drew {w:World} {A:Option Addr} {len:Nat} {ws:List Nat} (h:Words w A len ws):Words w.drew A len ws:=h
theorem Words.alloc {w:World} {A:Option Addr} {len:Nat} {ws:List Nat} (h:Words w A len ws) (o:Obj):Words (w.alloc o) A len ws:=
 h.below ((Below.refl _ _).alloc (Nat.le_refl _) _)
theorem Words.mono {w w':World} {A:Option Addr} {len:Nat} {ws:List Nat} (h:Words w A len ws) {B:Nat} (hB:w.heap.size≤B) (hb:Below B w w'):Words w' A len ws:=
 h.below (hb.mono hB)
theorem bdN {B:Nat} {a w:World} (h:Below B a w) (n:Nat):Below B a (w.drewN n):=⟨h.os,h.tape,h.output,h.size,h.block⟩
theorem chain {w w1 w2:World} (h:Below w.heap.size w w1) (h2:Below w1.heap.size w1 w2):Below w.heap.size w w2:=h.trans (h2.mono h.size)
def Box (w:World) (g:Nat) (t:TypeId) (cs:Array Value):Prop:=w.heap[g]?=some (.cells cs t (0,0))
section
variable {w w':World} {g:Nat} {t:TypeId} {cs:Array Value}
theorem Box.lt (h:Box w g t cs):g<w.heap.size:=by
 rcases Nat.lt_or_ge g w.heap.size with hl | hg
 ·exact hl
 ·unfold Box at h;rw [Array.getElem?_eq_none hg] at h;cases h
theorem Box.cell (h:Box w g t cs) (i:Nat):w.cell? ⟨g,i,none⟩=cs[i]?:=cell_of_row w g i cs t (0,0) h
theorem Box.free (h:Box w g t cs) (i:Nat):w.frozen? ⟨g,i,none⟩=false:=frozen_of_row w g i cs t h
theorem Box.new (w:World) (t:TypeId) (cs:Array Value):Box (w.alloc (.cells cs t)) w.heap.size t cs:=heap_alloc_new w _
theorem Box.alloc (h:Box w g t cs) (o:Obj):Box (w.alloc o) g t cs:=(Below.heap_alloc w o g h.lt).trans h
theorem Box.drew (h:Box w g t cs):Box w.drew g t cs:=h
theorem Box.below {B:Nat} (h:Box w g t cs) (hb:Below B w w') (hg:g<B):Box w' g t cs:=(hb.block g hg).trans h
theorem Box.keep (h:Box w g t cs) (hb:Below w.heap.size w w'):Box w' g t cs:=h.below hb h.lt
theorem Box.far (h:Box w g t cs) {p:Addr} (hp:g≠p.block) (u:Value):Box (w.setCell p u) g t cs:=(heap_setCell_other w p g u hp).trans h
theorem Box.put (h:Box w g t cs) (i:Nat) (u:Value):Box (w.setCell ⟨g,i,none⟩ u) g t (cs.setIfInBounds i u):=heap_setCell_same w g i cs t u h
theorem Box.two {a b:Value} (h:Box w g t #[a,b]):w.cell? ⟨g,0,none⟩=some a∧w.cell? ⟨g,1,none⟩=some b∧w.frozen? ⟨g,0,none⟩=false∧w.frozen? ⟨g,1,none⟩=false:=
 ⟨h.cell 0,h.cell 1,h.free 0,h.free 1⟩
theorem Box.put2 {a b u v:Value} (h:Box w g t #[a,b]):Box ((w.setCell ⟨g,0,none⟩ u).setCell ⟨g,1,none⟩ v) g t #[u,v]:=(h.put 0 u).put 1 v
end
def numsA (zs:List Nat):Array Value:=(zs.map fun (x:Nat)=>Value.int .u64 (x:Int)).toArray
theorem numsA_get (zs:List Nat) (j:Nat) (h:j<zs.length):(numsA zs)[j]?=some (.int .u64 (zs.getD j 0:Nat)):=by
 simp [numsA,List.getD,h]
theorem numsA_set (zs:List Nat) (k x:Nat):(numsA zs).setIfInBounds k (.int .u64 (x:Int))=numsA (zs.set k x):=by
 simp [numsA,List.map_set]
theorem numsA_zero (n:Nat):Array.replicate n (Value.int .u64 0)=numsA (List.replicate n 0):=by
 simp [numsA]
theorem make_words {P:Program} (t e:TypeId) (i:TypeInfo) (ht:P.underlying t=some (.slice e)) (hi:P.info? e=some i) (hz:i.zero=some (.int .u64 0)) (hs:i.size=1) (hb:i.bytes=8) (n:Nat) (hn:n≤1000000) (w:World) :
  (Instr.makeSlice t (.int .i64 (n:Int)) (.int .i64 (n:Int))).run P w=.ok (.slice (some ⟨w.heap.size,0,none⟩) n n) (w.alloc (.cells (numsA (List.replicate n 0)) e)):=by
 have hr:=run_make (P:=P) w t e i _ ht hi hz .i64 .i64 n n (by omega) (by omega) (by rw [hb];omega) (by omega)
 simp only [Int.toNat_natCast,hs,Nat.mul_one] at hr
 rw [hr,← numsA_zero]
 have:madeCells (Value.int .u64 0).cells n=Array.replicate n (Value.int .u64 0):=by
  apply Array.toList_inj.1
  have:=toList_madeCells_one (Value.int .u64 0) n
  simpa [Value.cells] using this
 rw [this]
theorem Words.off {w:World} {A:Option Addr} {len:Nat} {ws:List Nat} {g:Nat} {t:TypeId} {x:Int} {S:Option Addr} {p q:Nat} (h:Words w A len ws) (hb:Box w g t #[.int .i64 x,.slice S p q]) (b off:Nat) (hA:A=some ⟨b,off,none⟩) (hl:0<len):b≠g:=by
 intro e
 obtain⟨b',off',hA',_,hc⟩:=h.2.2 hl
 rw [hA] at hA'
 injection hA' with hA'
 injection hA' with e1 e2
 subst e1 e2 e
 have c:=hc 0 hl
 rw [hb.cell] at c
 match off,c with
 | 0,c=>simp at c
 | 1,c=>simp at c
 | k+2,c=>simp at c
theorem Words.put2 {w:World} {A:Option Addr} {len:Nat} {ws:List Nat} {g:Nat} {t:TypeId} {x:Int} {S:Option Addr} {p q:Nat} (h:Words w A len ws) (hb:Box w g t #[.int .i64 x,.slice S p q]) (u v:Value) :
  Words ((w.setCell ⟨g,0,none⟩ u).setCell ⟨g,1,none⟩ v) A len ws:=by
 refine⟨h.1,h.2.1,fun hp=>?_⟩
 obtain⟨b,off,rfl,hlt,hc⟩:=h.2.2 hp
 have hne:=h.off hb b off rfl hp
 refine⟨b,off,rfl,by simpa [World.setCell] using hlt,fun j hj=>?_⟩
 rw [World.cell?_setCell_other _ _ _ _ (by intro e;injection e;omega),World.cell?_setCell_other _ _ _ _ (by intro e;injection e;omega)]
 exact hc j hj
theorem close_cell {P:Program} {fn:Func} {R:Ending→World→Prop} {a:Act} {W:World} {p q:Tmp} {T:TypeId} {g:Nat} {cs:Array Value} {d:TypeDesc} {v:Value} (hr:fn.results=#[.cell p T,.tmp q])
  (hp:a.tmps.getD p undef=.pointer (some ⟨g,0,none⟩)) (hq:a.tmps.getD q undef=v) (hd:a.defers=[]) (hbox:Box W g T cs) (hu:P.underlying T=some d)
  (hk:(match d with | .struct _ | .array _ _=>true | _=>false)=true) (hi:(P.info? T).map (·.size)=some cs.size)
  (hR:R (.returned (.tuple #[.agg cs,v])) W):bodyPost P fn R .ret a W:=by
 subst hq
 refine bodyPost_ret ?_ hd hR
 have hp':a.tmps[p]?.getD undef=.pointer (some ⟨g,0,none⟩):=by simpa using hp
 simp [results,hr,hp',asAddr,run_loadVar_row W g T T cs (0,0) d hbox hu hk hi]
theorem close_one {P:Program} {fn:Func} {R:Ending→World→Prop} {a:Act} {W:World} {p:Tmp} {T:TypeId} {g:Nat} {cs:Array Value} {d:TypeDesc} (hr:fn.results=#[.cell p T])
  (hp:a.tmps.getD p undef=.pointer (some ⟨g,0,none⟩)) (hd:a.defers=[]) (hbox:Box W g T cs) (hu:P.underlying T=some d)
  (hk:(match d with | .struct _ | .array _ _=>true | _=>false)=true) (hi:(P.info? T).map (·.size)=some cs.size)
  (hR:R (.returned (.agg cs)) W):bodyPost P fn R .ret a W:=
 bodyPost_ret (results_cell_row hr _ _ g T cs (0,0) d hp hbox hu hk hi) hd hR
def Ints (w:World) (A:Option Addr) (len:Nat) (zs:List Int):Prop:=
 zs.length=len∧(∀ j,-9223372036854775808≤zs.getD j 0∧zs.getD j 0≤9223372036854775807) ∧
  (0<len→∃ b off,A=some ⟨b,off,none⟩∧b<w.heap.size∧∀ j,j<len→w.cell? ⟨b,off+j,none⟩=some (.int .i64 (zs.getD j 0)))
theorem Ints.below {w w':World} {A:Option Addr} {len:Nat} {zs:List Int} (h:Ints w A len zs) (hb:Below w.heap.size w w'):Ints w' A len zs:=by
 refine⟨h.1,h.2.1,fun hp=>?_⟩
 obtain⟨b,off,rfl,hlt,hc⟩:=h.2.2 hp
 exact⟨b,off,rfl,Nat.lt_of_lt_of_le hlt hb.size,fun j hj=>(hb.cell (p:=⟨b,off+j,none⟩) hlt).trans (hc j hj)⟩
theorem Ints.nil (w:World) (A:Option Addr):Ints w A 0 []:=⟨rfl,by simp,fun h=>by omega⟩
theorem own_ne {w:World} {base e size n g:Nat} {t:TypeId} {v:Value} {xs:List Value} {cs:Array Value} (h:w.ownsRow base e size v n xs) (hb:Box w g t cs) (hne:e≠t):v.ownBlock≠some g:=by
 rcases h.2 with ⟨rfl,_⟩ |⟨g',cap,cur,rfl,_,hh,_⟩
 ·simp [Value.ownBlock]
 ·intro he
  have:g'=g:=by simpa [Value.ownBlock] using he
  subst this
  unfold Box at hb
  rw [hb] at hh
  injection hh with hh
  injection hh with _ ht
  exact hne ht.symm
theorem Box.grown {w w':World} {g:Nat} {t:TypeId} {cs:Array Value} {row:Option Nat} (h:Box w g t cs) (hg:w.grownBy w' row) (hne:row≠some g):Box w' g t cs:=(hg.block g h.lt (Ne.symm hne)).trans h
theorem own_form {w:World} {base e size n:Nat} {v:Value} {xs:List Value} (h:w.ownsRow base e size v n xs):∃ A c,v=.slice A n c∧(A=none→n=0∧c=0):=by
 rcases h.2 with ⟨rfl,rfl⟩ |⟨g,cap,cur,rfl,_⟩
 ·exact⟨none,0,rfl,fun _=>⟨rfl,rfl⟩⟩
 ·exact⟨_,_,rfl,fun h=>by cases h⟩
theorem own_words {w:World} {base e n:Nat} {A:Option Addr} {c:Nat} {zs:List Nat} (h:w.ownsRow base e 1 (.slice A n c) n (zs.map fun (x:Nat)=>Value.int .u64 (x:Int))) (hz:∀ j,zs.getD j 0<18446744073709551616):Words w A n zs:=by
 have hl:zs.length=n:=by have:=h.1;simpa using this
 refine⟨hl,hz,fun hp=>?_⟩
 rcases h.2 with ⟨_,h0⟩ |⟨g,cap,cur,hv,hb,hh,hn,hm,hs,hx⟩
 ·omega
 ·injection hv with hA _ _
  subst hA
  have hbx:Box w g e cur:=hh
  refine⟨g,0,rfl,hbx.lt,fun j hj=>?_⟩
  rw [Nat.zero_add,hbx.cell j]
  have e1:(cur.toList.take (n*1))[j]?=(zs.map fun (x:Nat)=>Value.int .u64 (x:Int))[j]?:=by rw [hx]
  rw [Nat.mul_one,List.getElem?_take,if_pos hj] at e1
  have hjz:j<zs.length:=by omega
  simp only [List.getElem?_map,List.getElem?_eq_getElem hjz,Option.map_some] at e1
  rw [← Array.getElem?_toList,e1]
  simp [List.getD,hjz]
theorem own_ints {w:World} {base e n:Nat} {A:Option Addr} {c:Nat} {zs:List Int} (h:w.ownsRow base e 1 (.slice A n c) n (zs.map (Value.int .i64))) (hz:∀ j,-9223372036854775808≤zs.getD j 0∧zs.getD j 0≤9223372036854775807):Ints w A n zs:=by
 have hl:zs.length=n:=by have:=h.1;simpa using this
 refine⟨hl,hz,fun hp=>?_⟩
 rcases h.2 with ⟨_,h0⟩ |⟨g,cap,cur,hv,hb,hh,hn,hm,hs,hx⟩
 ·omega
 ·injection hv with hA _ _
  subst hA
  have hbx:Box w g e cur:=hh
  refine⟨g,0,rfl,hbx.lt,fun j hj=>?_⟩
  rw [Nat.zero_add,hbx.cell j]
  have e1:(cur.toList.take (n*1))[j]?=(zs.map (Value.int .i64))[j]?:=by rw [hx]
  rw [Nat.mul_one,List.getElem?_take,if_pos hj] at e1
  have hjz:j<zs.length:=by omega
  simp only [List.getElem?_map,List.getElem?_eq_getElem hjz,Option.map_some] at e1
  rw [← Array.getElem?_toList,e1]
  simp [List.getD,hjz]
theorem own_far {w:World} {base e size n g:Nat} {t:TypeId} {v:Value} {xs:List Value} {cs:Array Value} (h:w.ownsRow base e size v n xs) (hb:Box w g t cs) (hne:e≠t) (i:Nat) (u:Value):(w.setCell ⟨g,i,none⟩ u).ownsRow base e size v n xs:=by
 have hn:=own_ne h hb hne
 refine⟨h.1,?_⟩
 rcases h.2 with ⟨rfl,rfl⟩ |⟨g',cap,cur,rfl,h1,hh,h3⟩
 ·exact .inl ⟨rfl,rfl⟩
 ·refine .inr ⟨g',cap,cur,rfl,h1,?_,h3⟩
  rw [heap_setCell_other _ _ _ _ (fun e=>hn (by rw [← show g'=g from e];rfl))]
  exact hh
theorem own_empty (W:World) (base e:Nat) (hb:base≤W.heap.size):(W.alloc (.cells #[] e)).ownsRow base e 1 (.slice (some ⟨W.heap.size,0,none⟩) 0 0) 0 []:=
 ⟨by simp,.inr ⟨W.heap.size,0,#[],rfl,hb,heap_alloc_new W _,Nat.le_refl _,Nat.zero_le _,by simp,by simp⟩⟩
theorem own_keep {w w':World} {base e size n:Nat} {v:Value} {xs:List Value} (h:w.ownsRow base e size v n xs) (hb:Below w.heap.size w w'):w'.ownsRow base e size v n xs:=by
 refine⟨h.1,?_⟩
 rcases h.2 with ⟨rfl,rfl⟩ |⟨g',cap,cur,rfl,h1,hh,h3⟩
 ·exact .inl ⟨rfl,rfl⟩
 ·have hx:Box w g' e cur:=hh
  exact .inr ⟨g',cap,cur,rfl,h1,hx.keep hb,h3⟩
end
section
/- An append onto a row that is a call's own, of a slice that may be nil, or of no elements: in a region that draws (step_opt), in one that does not (wpList_opt). No program. -/
open Go.RowKit
theorem run_append_nilsrc {P:Program} (w:World) (base:Nat) (t ty e:TypeId) (i:TypeInfo) (size:Nat) (ht:P.underlying t=some (.slice e)) (hi:P.info? e=some i)
  (v:Value) (n:Nat) (xs:List Value) (hown:w.ownsRow base e size v n xs) (c:Nat):(Builtin.append_ #[t,t] ty #[v,.slice none 0 c]).run P w=.ok v w:=by
 obtain⟨A,k,rfl,hA⟩:=own_form hown
 have hnk:n≤k:=by
  rcases hown.2 with ⟨hv,h0⟩ |⟨g,cap,cur,hv,_,_,hc,_⟩
  ·omega
  ·injection hv with _ _ e3;omega
 cases A with
 | none=>obtain⟨rfl,rfl⟩:=hA rfl;simp [Builtin.append_,run_underlying ht,sizeOf,typeInfo,hi,Builtin.lenOf,Builtin.firstCells]
 | some ad=>simp [Builtin.append_,run_underlying ht,sizeOf,typeInfo,hi,Builtin.lenOf,Builtin.firstCells,hnk,storeCells]
theorem run_append_opt {P:Program} (w:World) (base:Nat) (t ty e:TypeId) (i:TypeInfo) (z:Value) (size bytes:Nat) (ht:P.underlying t=some (.slice e)) (hi:P.info? e=some i) (hz:i.zero=some z)
  (hsize:i.size=size) (hby:i.bytes=bytes) (hzs:z.cells.size=size) (hsz:0<size) (v:Value) (n:Nat) (xs:List Value) (hown:w.ownsRow base e size v n xs)
  (A:Option Addr) (m c:Nat) (news:List Value) (hl:news.length=m*size) (hnil:A=none→m=0) (hnews:∀ ad,A=some ad→∀ j u,news[j]?=some u→w.cell? (ad.add j)=some u) (h1:∀ u∈news,u.oneCell'=true)
  (h63:n+m≤maxLen) (hbytes:(n+m)*bytes≤140737488355328) (hbase:base≤w.heap.size) :
  ∃ v' w',(Builtin.append_ #[t,t] ty #[v,.slice A m c]).run P w=.ok v' w'∧w'.ownsRow base e size v' (n+m) (xs++news)∧w.grownBy w' v.ownBlock:=by
 cases A with
 | some ad=>
   obtain⟨v',w',hr,h2,h3,-⟩:=run_append_own_at (P:=P) w base t ty e i z size bytes ht hi hz hsize hby hzs hsz v n xs hown ad m c news hl (hnews ad rfl) h1 h63 hbytes hbase
   exact⟨v',w',hr,h2,h3⟩
 | none=>
   obtain rfl:=hnil rfl
   obtain rfl:news=[]:=List.length_eq_zero_iff.1 (by simpa using hl)
   exact⟨v,w,run_append_nilsrc w base t ty e i size ht hi v n xs hown c,by simpa using hown,World.grownBy.refl w _⟩
section
variable {P:Program} {w:World} {ops:Array Oper} {o:Oper} {a:Act} {K:Act→World→Prop} {Q:Exit→Act→World→Prop} {E:Prop}
theorem wp_append_opt (s x:Operand) (t:TypeId)
  (ho:o.op=.call { callee:=.builtin .append,args:=#[s,x],argTypes:=#[t,t] })
  (base:Nat) (e:TypeId) (i:TypeInfo) (z:Value) (size bytes:Nat) (ht:P.underlying t=some (.slice e)) (hi:P.info? e=some i) (hz:i.zero=some z)
  (hsize:i.size=size) (hby:i.bytes=bytes) (hzs:z.cells.size=size) (hsz:0<size)
  (v:Value) (n:Nat) (xs:List Value) (hs:a.eval s=v) (hown:w.ownsRow base e size v n xs)
  (A:Option Addr) (m c:Nat) (news:List Value) (hx:a.eval x=.slice A m c) (hl:news.length=m*size) (hnil:A=none→m=0) (hnews:∀ ad,A=some ad→∀ j u,news[j]?=some u→w.cell? (ad.add j)=some u) (h1:∀ u∈news,u.oneCell'=true)
  (h63:n+m≤maxLen) (hbytes:(n+m)*bytes≤140737488355328) (hbase:base≤w.heap.size)
  (h:∀ v' w',w'.ownsRow base e size v' (n+m) (xs++news)→w.grownBy w' v.ownBlock→K (a.put o.dst v') w'):o.wp P a w K Q:=by
 obtain⟨v',w',hr,h2,h3⟩:=run_append_opt (P:=P) w base t o.type e i z size bytes ht hi hz hsize hby hzs hsz v n xs hown A m c news hl hnil hnews h1 h63 hbytes hbase
 unfold Oper.wp execOp
 simp only [ho,resolve,invoke,builtin,Sem.run_bind,Sem.run_pure,Result.andThen_ok,List.map_toArray,List.map_cons,List.map_nil,hs,hx,hr]
 exact h v' w' h2 h3
theorem step_opt (hgd:o.guard=none) (s x:Operand) (t:TypeId)
  (ho:o.op=.call { callee:=.builtin .append,args:=#[s,x],argTypes:=#[t,t] })
  (base:Nat) (e:TypeId) (i:TypeInfo) (z:Value) (size bytes:Nat) (ht:P.underlying t=some (.slice e)) (hi:P.info? e=some i) (hz:i.zero=some z)
  (hsize:i.size=size) (hby:i.bytes=bytes) (hzs:z.cells.size=size) (hsz:0<size)
  (v:Value) (n:Nat) (xs:List Value) (hs:a.eval s=v) (hown:w.ownsRow base e size v n xs)
  (A:Option Addr) (m c:Nat) (news:List Value) (hx:a.eval x=.slice A m c) (hl:news.length=m*size) (hnil:A=none→m=0) (hnews:∀ ad,A=some ad→∀ j u,news[j]?=some u→w.cell? (ad.add j)=some u) (h1:∀ u∈news,u.oneCell'=true)
  (h63:n+m≤maxLen) (hbytes:(n+m)*bytes≤140737488355328) (hbase:base≤w.heap.size)
  (h:∀ v' w',w'.ownsRow base e size v' (n+m) (xs++news)→w.grownBy w' v.ownBlock→K (a.put o.dst v') w') :
  if Region.wanted o (yielded ops a.tmps)=true then Oper.wp P o a w K Q else E:=by
 have hw:Region.wanted o (yielded ops a.tmps)=true:=by simp [Region.wanted,hgd]
 rw [if_pos hw]
 exact wp_append_opt s x t ho base e i z size bytes ht hi hz hsize hby hzs hsz v n xs hs hown A m c news hx hl hnil hnews h1 h63 hbytes hbase h
theorem wpList_opt {rest:List Oper} (hgd:o.guard=none) (s x:Operand) (t:TypeId)
  (ho:o.op=.call { callee:=.builtin .append,args:=#[s,x],argTypes:=#[t,t] })
  (base:Nat) (e:TypeId) (i:TypeInfo) (z:Value) (size bytes:Nat) (ht:P.underlying t=some (.slice e)) (hi:P.info? e=some i) (hz:i.zero=some z)
  (hsize:i.size=size) (hby:i.bytes=bytes) (hzs:z.cells.size=size) (hsz:0<size)
  (v:Value) (n:Nat) (xs:List Value) (hs:a.eval s=v) (hown:w.ownsRow base e size v n xs)
  (A:Option Addr) (m c:Nat) (news:List Value) (hx:a.eval x=.slice A m c) (hl:news.length=m*size) (hnil:A=none→m=0) (hnews:∀ ad,A=some ad→∀ j u,news[j]?=some u→w.cell? (ad.add j)=some u) (h1:∀ u∈news,u.oneCell'=true)
  (h63:n+m≤maxLen) (hbytes:(n+m)*bytes≤140737488355328) (hbase:base≤w.heap.size)
  (h:∀ v' w',w'.ownsRow base e size v' (n+m) (xs++news)→w.grownBy w' v.ownBlock→wpList P ops Q rest (a.put o.dst v') w'):wpList P ops Q (o::rest) a w:=
 wpList_plain hgd fun _ hK=>wp_append_opt s x t ho base e i z size bytes ht hi hz hsize hby hzs hsz v n xs hs hown A m c news hx hl hnil hnews h1 h63 hbytes hbase fun v' w' h2 h3=>hK _ _ (h v' w' h2 h3)
end
theorem own_of_box0 {w:World} {g base size:Nat} {e:TypeId} (h:Box w g e #[]) (hb:base≤g):w.ownsRow base e size (.slice (some ⟨g,0,none⟩) 0 0) 0 []:=
 ⟨by simp,.inr ⟨g,0,#[],rfl,hb,h,Nat.le_refl _,Nat.zero_le _,by simp,by simp⟩⟩
end
section
/- Slices of records: each record is its cells; read, kept, cut, appended. No program. -/
open Go.RowKit
theorem addP (b off j:Nat):(⟨b,off,none⟩:Addr).add j=⟨b,off+j,none⟩:=by unfold Addr.add;split<;>simp_all
section
variable {α:Type} {enc:α→List Value} {sz:Nat} {xs:List α}
theorem flat_len (hsz:∀ x,(enc x).length=sz):∀ xs:List α,(xs.flatMap enc).length=xs.length*sz
 | []=>by simp
 | x::xs=>by rw [List.flatMap_cons,List.length_append,hsz,flat_len hsz xs,List.length_cons,Nat.add_mul,Nat.one_mul,Nat.add_comm]
theorem flat_one (h1:∀ x,∀ u∈enc x,u.oneCell'=true):∀ u∈xs.flatMap enc,u.oneCell'=true:=by
 intro u hu
 obtain⟨x,-,hx⟩:=List.mem_flatMap.1 hu
 exact h1 x u hx
theorem flat_snoc (xs:List α) (x:α):(xs++[x]).flatMap enc=xs.flatMap enc++enc x:=by simp
end
section
variable {α:Type} [Inhabited α] {enc:α→List Value} {sz:Nat} {w w':World} {A:Option Addr} {len:Nat} {xs:List α}
def Recs (enc:α→List Value) (sz:Nat) (w:World) (A:Option Addr) (len:Nat) (xs:List α):Prop:=
 xs.length=len∧(0<len→∃ b off,A=some ⟨b,off,none⟩∧b<w.heap.size∧∀ j,j<len→∀ k v,(enc (xs.getD j default))[k]?=some v→w.cell? ⟨b,off+j*sz+k,none⟩=some v)
theorem Recs.nil (w:World) (A:Option Addr):Recs enc sz w A 0 []:=⟨rfl,fun h=>by omega⟩
theorem Recs.below (h:Recs enc sz w A len xs) (hb:Below w.heap.size w w'):Recs enc sz w' A len xs:=by
 refine⟨h.1,fun hp=>?_⟩
 obtain⟨b,off,rfl,hlt,hc⟩:=h.2 hp
 exact⟨b,off,rfl,Nat.lt_of_lt_of_le hlt hb.size,fun j hj k v hv=>(hb.cell (p:=⟨b,_,none⟩) hlt).trans (hc j hj k v hv)⟩
theorem Recs.alloc (h:Recs enc sz w A len xs) (o:Obj):Recs enc sz (w.alloc o) A len xs:=h.below ((Below.refl _ _).alloc (Nat.le_refl _) o)
theorem Recs.drew (h:Recs enc sz w A len xs):Recs enc sz w.drew A len xs:=h
theorem Recs.mono (h:Recs enc sz w A len xs) {B:Nat} (hB:w.heap.size≤B) (hb:Below B w w'):Recs enc sz w' A len xs:=h.below (hb.mono hB)
theorem Recs.none_ (h:Recs enc sz w none len xs):len=0∧xs=[]:=by
 rcases Nat.eq_zero_or_pos len with h0 | h0
 ·exact⟨h0,List.length_eq_zero_iff.1 (h.1.trans h0)⟩
 ·obtain⟨_,_,e,_⟩:=h.2 h0;cases e
theorem Recs.at (h:Recs enc sz w A len xs) (j:Nat) (hj:j<len):∃ b off,A=some ⟨b,off,none⟩∧b<w.heap.size∧∀ k v,(enc (xs.getD j default))[k]?=some v→w.cell? ⟨b,off+j*sz+k,none⟩=some v:=by
 obtain⟨b,off,rfl,hlt,hc⟩:=h.2 (by omega)
 exact⟨b,off,rfl,hlt,fun k v hv=>hc j hj k v hv⟩
theorem Recs.take (h:Recs enc sz w A len xs) (k:Nat) (hk:k≤len):Recs enc sz w A k (xs.take k):=by
 refine⟨by rw [List.length_take,h.1];omega,fun hp=>?_⟩
 obtain⟨b,off,rfl,hlt,hc⟩:=h.2 (by omega)
 refine⟨b,off,rfl,hlt,fun j hj i v hv=>hc j (by omega) i v ?_⟩
 simpa [List.getD,List.getElem?_take_of_lt hj] using hv
theorem Recs.farB (h:Recs enc sz w A len xs) {g:Nat} (hne:∀ b off,A=some ⟨b,off,none⟩→0<len→b≠g) (i:Nat) (u:Value):Recs enc sz (w.setCell ⟨g,i,none⟩ u) A len xs:=by
 refine⟨h.1,fun hp=>?_⟩
 obtain⟨b,off,rfl,hlt,hc⟩:=h.2 hp
 have hn:=hne b off rfl hp
 refine⟨b,off,rfl,by simpa [World.setCell] using hlt,fun j hj k v hv=>?_⟩
 rw [World.cell?_setCell_other _ _ _ _ (by intro e;injection e;omega)]
 exact hc j hj k v hv
theorem flat_at (hsz:∀ x,(enc x).length=sz):∀ (xs:List α) (j k:Nat),j<xs.length→k<sz→(xs.flatMap enc)[j*sz+k]?=(enc (xs.getD j default))[k]?
 | [],j,k,hj,_=>by cases hj
 | x::xs,0,k,_,hk=>by
   rw [Nat.zero_mul,Nat.zero_add,List.flatMap_cons,List.getElem?_append_left (by rw [hsz];exact hk)];rfl
 | x::xs,j+1,k,hj,hk=>by
   rw [List.flatMap_cons,List.getElem?_append_right (by rw [hsz,Nat.add_mul];omega),hsz,show (j+1)*sz+k-sz=j*sz+k by rw [Nat.add_mul];omega,flat_at hsz xs j k (by simpa using hj) hk];rfl
theorem Recs.news (h:Recs enc sz w A len xs) (hsz:∀ x,(enc x).length=sz) (h0:0<sz):∀ ad,A=some ad→∀ j u,(xs.flatMap enc)[j]?=some u→w.cell? (ad.add j)=some u:=by
 intro ad hA j u hu
 have hlt:j<(xs.flatMap enc).length:=(List.getElem?_eq_some_iff.1 hu).1
 rw [flat_len hsz,h.1] at hlt
 have hq:j / sz<len:=(Nat.div_lt_iff_lt_mul h0).2 hlt
 have hr:=Nat.mod_lt j h0
 have e:=Nat.div_add_mod j sz
 rw [Nat.mul_comm] at e
 obtain⟨b,off,hA2,-,hc⟩:=h.2 (Nat.lt_of_le_of_lt (Nat.zero_le _) hq)
 rw [hA] at hA2
 injection hA2 with hA2
 subst hA2
 rw [addP]
 have:=hc (j / sz) hq (j%sz) u (by rw [← flat_at hsz xs _ _ (by rw [h.1];exact hq) hr,e];exact hu)
 rwa [Nat.add_assoc,e] at this
theorem own_recs {base:Nat} {e:TypeId} {c:Nat} (hsz:∀ x,(enc x).length=sz) (h:w.ownsRow base e sz (.slice A len c) len (xs.flatMap enc)) (h0:0<sz):Recs enc sz w A len xs:=by
 have hl:xs.length=len:=by have:=h.1;rw [flat_len hsz] at this;exact Nat.eq_of_mul_eq_mul_right h0 this
 refine⟨hl,fun hp=>?_⟩
 rcases h.2 with ⟨_,hz⟩ |⟨g,cap,cur,hv,hb,hh,hn,hm,hs,hx⟩
 ·omega
 ·injection hv with hA _ _
  subst hA
  have hbx:Box w g e cur:=hh
  refine⟨g,0,rfl,hbx.lt,fun j hj k v hv=>?_⟩
  have hk:k<sz:=by have:=(List.getElem?_eq_some_iff.1 hv).1;rwa [hsz] at this
  rw [Nat.zero_add,hbx.cell]
  have e1:(cur.toList.take (len*sz))[j*sz+k]?=(xs.flatMap enc)[j*sz+k]?:=by rw [hx]
  have hlt:j*sz+k<len*sz:=by
   have:(j+1)*sz≤len*sz:=Nat.mul_le_mul_right _ hj
   rw [Nat.add_mul] at this;omega
  rw [List.getElem?_take,if_pos hlt,flat_at hsz xs j k (by omega) hk,hv] at e1
  rw [← Array.getElem?_toList,e1]
theorem take_snocD (xs:List α) (k:Nat) (h:k<xs.length):xs.take (k+1)=xs.take k++[xs.getD k default]:=by
 rw [List.take_succ_eq_append_getElem h];simp [List.getD,h]
end
end
section
/- Contracts of layer 12: within, when, allHave, has, twice, first. -/
open Go.RowKit
set_option maxRecDepth 100000
abbrev SymR:=Nat×ByteArray
def encS (r:SymR):List Value:=[.int .u64 (r.1:Int),.string r.2]
theorem encS_len (r:SymR):(encS r).length=2:=rfl
theorem encS_one (r:SymR):∀ u∈encS r,u.oneCell'=true:=by intro u hu;simp [encS] at hu;rcases hu with rfl | rfl<;>rfl
abbrev Syms (w:World) (A:Option Addr) (l:Nat) (xs:List SymR):Prop:=Recs encS 2 w A l xs
theorem Syms.two {w:World} {A:Option Addr} {l:Nat} {xs:List SymR} (h:Syms w A l xs) (j:Nat) (hj:j<l):∃ b off,A=some ⟨b,off,none⟩∧b<w.heap.size∧w.cell? ⟨b,off+j*2,none⟩=some (.int .u64 ((xs.getD j default).1:Nat))∧w.cell? ⟨b,off+j*2+1,none⟩=some (.string (xs.getD j default).2):=by
 obtain⟨b,off,hA,hb,hc⟩:=h.at j hj
 exact⟨b,off,hA,hb,hc 0 _ rfl,hc 1 _ rfl⟩
def hasI (xs:List SymR) (id:Nat):Bool:=xs.any fun x=>x.1==id
def allB (s:Int) (xs:List SymR):Bool:=xs.all fun x=>(x.2.size:Int)==s
def twiceB (xs:List SymR):Bool:=(List.range xs.length).any fun i=>hasI (xs.take i) (xs.getD i default).1
theorem hasI_snoc (xs:List SymR) (id k:Nat) (h:k<xs.length):hasI (xs.take (k+1)) id=(hasI (xs.take k) id||(xs.getD k default).1==id):=by
 rw [take_snocD xs k h];simp [hasI]
theorem allB_snoc (s:Int) (xs:List SymR) (k:Nat) (h:k<xs.length):allB s (xs.take (k+1))=(allB s (xs.take k)&&((xs.getD k default).2.size:Int)==s):=by
 rw [take_snocD xs k h];simp [allB]
theorem hasI_up (xs:List SymR) (id k:Nat) (h:hasI (xs.take k) id=true):hasI xs id=true:=by
 unfold hasI at *
 simp only [List.any_eq_true] at *
 obtain⟨x,hx,hi⟩:=h
 exact⟨x,List.mem_of_mem_take hx,hi⟩
theorem allB_up (s:Int) (xs:List SymR) (k:Nat) (h:allB s (xs.take k)=false):allB s xs=false:=by
 rw [Bool.eq_false_iff] at *
 intro h2
 refine h ?_
 unfold allB at *
 simp only [List.all_eq_true] at *
 exact fun x hx=>h2 x (List.mem_of_mem_take hx)
theorem within_any (x a b:Int) (w:World):Calls Tryz.prog 83 #[.int .i64 x,.int .i64 a,.int .i64 b] w fun e w'=>e=.returned (.bool (decide (a≤x)&&decide (x≤b)))∧w=w':=by
 by_cases h1:a≤x
 ·by_cases h2:x≤b
  ·go_enter Tryz.func83,Tryz.ntmps83
   go_wp2
   go_ret
   exact⟨by simp [h1,h2],rfl⟩
  ·have t:decide (x≤b)=false:=by simpa using h2
   go_enter Tryz.func83,Tryz.ntmps83
   go_wp2
   go_ret
   exact⟨by simp [h2],rfl⟩
 ·have t:decide (a≤x)=false:=by simpa using h1
  go_enter Tryz.func83,Tryz.ntmps83
  go_wp2
  go_ret
  exact⟨by simp [h1],rfl⟩
def whenI (b:Bool) (e:Int):Int:=if b then e else 0
theorem when_any (b:Bool) (x:Int) (w:World):Calls Tryz.prog 82 #[.bool b,.int .i64 x] w fun e w'=>e=.returned (.int .i64 (whenI b x))∧w=w':=by
 cases b with
 | true=>
   go_enter Tryz.func82,Tryz.ntmps82
   go_wp2
   go_ret
   exact⟨rfl,rfl⟩
 | false=>
   go_enter Tryz.func82,Tryz.ntmps82
   go_wp2
   go_ret
   exact⟨rfl,rfl⟩
theorem eallHave_any (s:Int) (A:Option Addr) (l c:Nat) (xs:List SymR) (w:World) (hx:Syms w A l xs) (hl:l≤maxLen) :
  Calls Tryz.prog 88 #[.int .i64 s,.slice A l c] w fun e w'=>e=.returned (.bool (allB s xs))∧Below w.heap.size w w':=by
 unfold maxLen at hl
 have HX:=hZ hx
 have HXl:=hZ hx.1
 clear hx
 go_enter Tryz.func88,Tryz.ntmps88
 go_wp2_with fail
 go_loopw [9] (fun t wr=>∃ i:Nat,i≤l∧t=.int .i64 (i:Int)∧Hid (allB s (xs.take i)=true)∧Hid (Below w.heap.size w wr)) (fun t _=>l-(intOf t).toNat)
 case atStart=>exact⟨0,Nat.zero_le _,rfl,hZ rfl,hZ (Below.refl _ _)⟩
 case round=>
  obtain⟨i,hi,rfl,HS,HB⟩:=hrel
  by_cases hlt:i<l
  ·have hlt':(i:Int)<(l:Int):=Int.ofNat_lt.2 hlt
   obtain⟨b,off,rfl,hb,x0,x1⟩:=HX.out.two i hlt
   have x0:=(HB.out.cell (p:=⟨b,off+i*2,none⟩) hb).trans x0
   have x1:=(HB.out.cell (p:=⟨b,off+i*2+1,none⟩) hb).trans x1
   have HN:=hZ (allB_snoc s xs i (by rw [HXl.out];exact hlt))
   have HU:=hZ (allB_up s xs (i+1))
   have G:=hZ (Box.new wr 29 #[.int .u64 ((xs.getD i default).1:Nat),.string (xs.getD i default).2])
   have HB:=hZ (HB.out.alloc HB.out.size (.cells #[.int .u64 ((xs.getD i default).1:Nat),.string (xs.getD i default).2] 29))
   generalize xs.getD i default=p at *
   obtain⟨p0,p1⟩:=p
   dsimp only at x0 x1 G HB HN
   obtain⟨g0,g1,-,-⟩:=G.out.two
   cases hs:((p1.size:Int)==s) with
   | true=>
     rw [hs] at HN
     have hs2:((p1.size:Int) != s)=false:=by simp [bne,hs]
     have HN2:=hZ (show allB s (xs.take (i+1))=true by rw [HN.out,HS.out];rfl)
     clear hs
     go_wp2_with fail
     go_roundw
     case rel=>exact⟨i+1,hlt,by go_num,HN2,HB⟩
     case measure=>simp [intOf]<;>omega
   | false=>
     rw [hs] at HN
     have hs2:((p1.size:Int) != s)=true:=by simp [bne,hs]
     have HE:=hZ (show allB s xs=false from HU.out (by rw [HN.out];simp))
     clear hs
     go_wp2_with fail
     go_ret
     exact⟨by rw [HE.out];rfl,HB.out⟩
  ·obtain rfl:i=l:=Nat.le_antisymm hi (Nat.le_of_not_lt hlt)
   have hlt':¬ (i:Int)<(i:Int):=Int.lt_irrefl _
   have HE:=hZ (show allB s xs=true by have:=HS.out;rwa [List.take_of_length_le (by rw [HXl.out];exact Nat.le_refl _)] at this)
   go_wp2_with fail
   go_ret
   exact⟨by rw [HE.out];rfl,HB.out⟩
theorem has1_any (id q:Nat) (s:ByteArray) (g:Nat) (w:World) (hc:w.cell? ⟨g,0,none⟩=some (.int .u64 (id:Int))) (hg:g<w.heap.size) :
  Calls Tryz.prog 132 (#[.agg #[.int .u64 (q:Int),.string s]]++#[.pointer (some ⟨g,0,none⟩)]) w fun e w'=>e=.returned (.bool (q==id))∧Below w.heap.size w w':=by
 have G:=hZ (Box.new w 29 #[.int .u64 (q:Int),.string s])
 have HB:=hZ (show Below w.heap.size w (w.alloc (.cells #[.int .u64 (q:Int),.string s] 29)) from (Below.refl _ _).alloc (Nat.le_refl _) _)
 have hc2:=(HB.out.cell (p:=⟨g,0,none⟩) hg).trans hc
 obtain⟨g0,g1,-,-⟩:=G.out.two
 have e:((q:Int)==(id:Int))=(q==id):=by rw [Bool.eq_iff_iff];simp;omega
 clear hc
 cases hq:(q==id) with
 | true=>
   rw [hq] at e
   go_enter Tryz.func132,Tryz.ntmps132
   go_wp2_with fail
   go_ret
   exact⟨by simp_all,HB.out⟩
 | false=>
   rw [hq] at e
   go_enter Tryz.func132,Tryz.ntmps132
   go_wp2_with fail
   go_ret
   exact⟨by simp_all,HB.out⟩
def idxI (xs:List SymR) (id:Nat) (i:Int):Prop:=if hasI xs id then 0≤i else i=-1
theorem indexF_any (id g:Nat) (A:Option Addr) (l c:Nat) (xs:List SymR) (w:World) (hx:Syms w A l xs) (hl:l≤maxLen) (hc:w.cell? ⟨g,0,none⟩=some (.int .u64 (id:Int))) (hg:g<w.heap.size) :
  Calls Tryz.prog 144 #[.slice A l c,.func (.func 132) #[] #[.pointer (some ⟨g,0,none⟩)]] w fun e w'=>(∃ i:Int,idxI xs id i∧e=.returned (.int .i64 i))∧Below w.heap.size w w':=by
 unfold maxLen at hl
 have HX:=hZ hx
 have HXl:=hZ hx.1
 have HC:=hZ hc
 have eg:∀ args w,(callFunc 132 args).run Tryz.prog w=.ok (.enter 132 args) w:=enters_of Tryz.func132 (by kernel_rfl) rfl
 clear hx hc
 go_enter Tryz.func144,Tryz.ntmps144
 go_wp2_with fail
 go_loopw [8] (fun t wr=>∃ i:Nat,i≤l∧t=.int .i64 (i:Int)∧Hid (hasI (xs.take i) id=false)∧Hid (Below w.heap.size w wr)) (fun t _=>l-(intOf t).toNat)
 case atStart=>exact⟨0,Nat.zero_le _,rfl,hZ rfl,hZ (Below.refl _ _)⟩
 case round=>
  obtain⟨i,hi,rfl,HS,HB⟩:=hrel
  by_cases hlt:i<l
  ·have hlt':(i:Int)<(l:Int):=Int.ofNat_lt.2 hlt
   obtain⟨b,off,rfl,hb,x0,x1⟩:=HX.out.two i hlt
   have x0:=(HB.out.cell (p:=⟨b,off+i*2,none⟩) hb).trans x0
   have x1:=(HB.out.cell (p:=⟨b,off+i*2+1,none⟩) hb).trans x1
   have HN:=hZ (hasI_snoc xs id i (by rw [HXl.out];exact hlt))
   have HU:=hZ (hasI_up xs id (i+1))
   have HH:=hZ (has1_any id (xs.getD i default).1 (xs.getD i default).2 g wr ((HB.out.cell (p:=⟨g,0,none⟩) hg).trans HC.out) (Nat.lt_of_lt_of_le hg HB.out.size))
   generalize xs.getD i default=p at *
   obtain⟨p0,p1⟩:=p
   dsimp only at x0 x1 HN HH
   cases hs:(p0==id) with
   | true=>
     rw [hs] at HN HH
     have HE:=hZ (show hasI xs id=true from HU.out (by rw [HN.out];simp))
     clear hs
     go_wp2_with fail
     refine HH.out.mono ?_
     rintro e w1 ⟨rfl,hb1⟩
     have HB:=hZ (chain HB.out hb1)
     clear hb1
     go_wp2_with fail
     go_ret
     exact⟨⟨i,by unfold idxI;rw [if_pos HE.out];omega,rfl⟩,HB.out⟩
   | false=>
     rw [hs] at HN HH
     have HN2:=hZ (show hasI (xs.take (i+1)) id=false by rw [HN.out,HS.out];rfl)
     clear hs
     go_wp2_with fail
     refine HH.out.mono ?_
     rintro e w1 ⟨rfl,hb1⟩
     have HB:=hZ (chain HB.out hb1)
     clear hb1
     go_wp2_with fail
     go_roundw
     case rel=>exact⟨i+1,hlt,by go_num,HN2,HB⟩
     case measure=>simp [intOf]<;>omega
  ·obtain rfl:i=l:=Nat.le_antisymm hi (Nat.le_of_not_lt hlt)
   have hlt':¬ (i:Int)<(i:Int):=Int.lt_irrefl _
   have HE:=hZ (show hasI xs id=false by have:=HS.out;rwa [List.take_of_length_le (by rw [HXl.out];exact Nat.le_refl _)] at this)
   go_wp2_with fail
   go_ret
   exact⟨⟨-1,by unfold idxI;rw [HE.out];rfl,rfl⟩,HB.out⟩
theorem containsF_any (id g:Nat) (A:Option Addr) (l c:Nat) (xs:List SymR) (w:World) (hx:Syms w A l xs) (hl:l≤maxLen) (hc:w.cell? ⟨g,0,none⟩=some (.int .u64 (id:Int))) (hg:g<w.heap.size) :
  Calls Tryz.prog 131 #[.slice A l c,.func (.func 132) #[] #[.pointer (some ⟨g,0,none⟩)]] w fun e w'=>e=.returned (.bool (hasI xs id))∧Below w.heap.size w w':=by
 have HI:=hZ (indexF_any id g A l c xs w hx hl hc hg)
 clear hx hc
 go_enter Tryz.func131,Tryz.ntmps131
 go_wp2_with fail
 refine HI.out.mono ?_
 rintro e w1 ⟨⟨i,hi,rfl⟩,hb⟩
 unfold idxI at hi
 cases hh:hasI xs id with
 | true=>
   rw [hh,if_pos rfl] at hi
   go_wp2_with fail
   go_ret
   exact⟨by simp [hi,hh],hb⟩
 | false=>
   rw [hh] at hi
   have hi:i=-1:=hi
   subst hi
   go_wp2_with fail
   go_ret
   exact⟨by simp [hh],hb⟩
theorem ehas_any (id:Nat) (A:Option Addr) (l c:Nat) (xs:List SymR) (w:World) (hx:Syms w A l xs) (hl:l≤maxLen) :
  Calls Tryz.prog 111 #[.slice A l c,.int .u64 (id:Int)] w fun e w'=>e=.returned (.bool (hasI xs id))∧Below w.heap.size w w':=by
 have b1:Below w.heap.size w (w.alloc (.cells #[.int .u64 (id:Int)] 22)):=(Below.refl _ _).alloc (Nat.le_refl _) _
 have B:=Box.new w 22 #[.int .u64 (id:Int)]
 have HC:=hZ (containsF_any id w.heap.size A l c xs _ (hx.below b1) hl (B.cell 0) B.lt)
 have HB:=hZ b1
 clear hx b1 B
 go_enter Tryz.func111,Tryz.ntmps111
 go_wp2_with fail
 refine HC.out.mono ?_
 rintro e w1 ⟨rfl,hb⟩
 have HB:=hZ (chain HB.out hb)
 clear hb
 go_wp2_with fail
 go_ret
 exact⟨by simp,HB.out⟩
theorem twice_snoc (xs:List SymR) (k:Nat) (h:k<xs.length):(List.range (k+1)).any (fun i=>hasI (xs.take i) (xs.getD i default).1)=((List.range k).any (fun i=>hasI (xs.take i) (xs.getD i default).1)||hasI (xs.take k) (xs.getD k default).1):=by
 rw [List.range_succ];simp
theorem twice_up (xs:List SymR) (k:Nat) (hk:k<xs.length) (h:hasI (xs.take k) (xs.getD k default).1=true):twiceB xs=true:=by
 unfold twiceB
 rw [List.any_eq_true]
 exact⟨k,List.mem_range.2 hk,h⟩
theorem twice_any (A:Option Addr) (l c:Nat) (xs:List SymR) (w:World) (hx:Syms w A l xs) (hl:l≤c) (hc:c≤maxLen) :
  Calls Tryz.prog 90 #[.slice A l c] w fun e w'=>e=.returned (.bool (twiceB xs))∧Below w.heap.size w w':=by
 have hcm:=hc
 unfold maxLen at hc
 have HX:=hZ hx
 have HXl:=hZ hx.1
 clear hx
 go_enter Tryz.func90,Tryz.ntmps90
 go_wp2_with fail
 go_loopw [7] (fun t wr=>∃ i:Nat,i≤l∧t=.int .i64 (i:Int)∧Hid ((List.range i).any (fun i=>hasI (xs.take i) (xs.getD i default).1)=false)∧Hid (Below w.heap.size w wr)) (fun t _=>l-(intOf t).toNat)
 case atStart=>exact⟨0,Nat.zero_le _,rfl,hZ rfl,hZ (Below.refl _ _)⟩
 case round=>
  obtain⟨i,hi,rfl,HS,HB⟩:=hrel
  by_cases hlt:i<l
  ·have hlt':(i:Int)<(l:Int):=Int.ofNat_lt.2 hlt
   obtain⟨b,off,rfl,hb,x0,x1⟩:=HX.out.two i hlt
   have x0:=(HB.out.cell (p:=⟨b,off+i*2,none⟩) hb).trans x0
   have x1:=(HB.out.cell (p:=⟨b,off+i*2+1,none⟩) hb).trans x1
   have HN:=hZ (twice_snoc xs i (by rw [HXl.out];exact hlt))
   have HU:=hZ (twice_up xs i (by rw [HXl.out];exact hlt))
   have G:=hZ (Box.new wr 29 #[.int .u64 ((xs.getD i default).1:Nat),.string (xs.getD i default).2])
   have HB:=hZ (HB.out.alloc HB.out.size (.cells #[.int .u64 ((xs.getD i default).1:Nat),.string (xs.getD i default).2] 29))
   have HT:=hZ ((HX.out.take i (by omega)).mono (Nat.le_refl _) HB.out)
   have HH:=hZ (ehas_any (xs.getD i default).1 (some ⟨b,off,none⟩) i c (xs.take i) _ HT.out.drew (by omega))
   obtain⟨g0,g1,-,-⟩:=G.out.two
   have i1:(i:Int)≤(c:Int):=by omega
   generalize xs.getD i default=p at *
   obtain⟨p0,p1⟩:=p
   dsimp only at x0 x1 G HB HN HU HH g0 g1
   cases hs:hasI (xs.take i) p0 with
   | true=>
     rw [hs] at HH
     have HE:=hZ (HU.out hs)
     clear hs
     go_wp2_with fail
     go_region_with (go_at_call 111;refine HH.out.mono ?_;rintro e w1 ⟨rfl,hb1⟩;have HB:=hZ (chain HB.out.drew hb1);clear hb1)
     all_goals
      go_wp2_with fail
      go_ret
      exact⟨by rw [HE.out];rfl,HB.out⟩
   | false=>
     rw [hs] at HN HH
     have HN2:=hZ (show (List.range (i+1)).any (fun i=>hasI (xs.take i) (xs.getD i default).1)=false by rw [HN.out,HS.out];rfl)
     clear hs
     go_wp2_with fail
     go_region_with (go_at_call 111;refine HH.out.mono ?_;rintro e w1 ⟨rfl,hb1⟩;have HB:=hZ (chain HB.out.drew hb1);clear hb1)
     all_goals
      go_wp2_with fail
      go_roundw
      case rel=>exact⟨i+1,hlt,by go_num,HN2,HB⟩
      case measure=>simp [intOf]<;>omega
  ·obtain rfl:i=l:=Nat.le_antisymm hi (Nat.le_of_not_lt hlt)
   have hlt':¬ (i:Int)<(i:Int):=Int.lt_irrefl _
   have HE:=hZ (show twiceB xs=false by unfold twiceB;rw [HXl.out];exact HS.out)
   go_wp2_with fail
   go_ret
   exact⟨by rw [HE.out];rfl,HB.out⟩
def firstI:List Int→Int
 | []=>0
 | a::t=>if a=0 then firstI t else a
theorem firstI_at (ans:List Int) (k:Nat) (h:k<ans.length) (h0:∀ i,i<k→ans.getD i 0=0) (hk:ans.getD k 0≠0):firstI ans=ans.getD k 0:=by
 induction ans generalizing k with
 | nil=>cases h
 | cons a t ih=>
   cases k with
   | zero=>unfold firstI;rw [if_neg (by simpa using hk)];rfl
   | succ k=>
     have ha:a=0:=h0 0 (by omega)
     unfold firstI
     rw [if_pos ha,ih k (by simpa using h) (fun i hi=>h0 (i+1) (by omega)) (by simpa using hk)];rfl
theorem firstI_none (ans:List Int) (h0:∀ i,i<ans.length→ans.getD i 0=0):firstI ans=0:=by
 induction ans with
 | nil=>rfl
 | cons a t ih=>
   have ha:a=0:=h0 0 (by simp)
   unfold firstI
   rw [if_pos ha,ih (fun i hi=>h0 (i+1) (by simpa using hi))]
structure AskedOf (P:Program) (w:World) (b off:Nat) (fs:Nat→Nat×Array Value) (ans:List Int):Prop where
 lt:b<w.heap.size
 cell:∀ j,j<ans.length→w.cell? ⟨b,off+j,none⟩=some (.func (.func (fs j).1) #[] (fs j).2)
 enters:∀ j,j<ans.length→∀ args w,(callFunc (fs j).1 args).run P w=.ok (.enter (fs j).1 args) w
 tells:∀ j,j<ans.length→∀ w',Below w.heap.size w w'→(∀ i,i<j→ans.getD i 0=0)→Calls P (fs j).1 (fs j).2 w' fun e w''=>e=.returned (.int .i64 (ans.getD j 0))∧Below w'.heap.size w' w''
theorem efirst_any (b off c:Nat) (fs:Nat→Nat×Array Value) (ans:List Int) (w:World) (hl:ans.length≤100) (h:AskedOf Tryz.prog w b off fs ans) :
  Calls Tryz.prog 80 #[.slice (some ⟨b,off,none⟩) ans.length c] w fun e w'=>e=.returned (.int .i64 (firstI ans))∧Below w.heap.size w w':=by
 have H:=hZ h
 have hblt:=h.lt
 clear h
 have F1:=hZ (firstI_at ans)
 have F2:=hZ (firstI_none ans)
 generalize firstI ans=r at *
 go_enter Tryz.func80,Tryz.ntmps80
 go_wp2_with fail
 go_loopw [8] (fun t wr=>∃ i:Nat,i≤ans.length∧t=.int .i64 (i:Int)∧Hid (∀ j,j<i→ans.getD j 0=0)∧Hid (Below w.heap.size w wr)) (fun t _=>ans.length-(intOf t).toNat)
 case atStart=>exact⟨0,Nat.zero_le _,rfl,hZ (fun j hj=>absurd hj (Nat.not_lt_zero _)),hZ (Below.refl _ _)⟩
 case round=>
  obtain⟨i,hi,rfl,HS,HB⟩:=hrel
  by_cases hlt:i<ans.length
  ·have hlt':(i:Int)<(ans.length:Int):=Int.ofNat_lt.2 hlt
   have x0:=(HB.out.cell (p:=⟨b,off+i,none⟩) hblt).trans (H.out.cell i hlt)
   have eg:=H.out.enters i hlt
   have HT:=hZ (H.out.tells i hlt wr HB.out HS.out)
   have HF:=hZ (F1.out i hlt HS.out)
   obtain⟨v,ev⟩:∃ v,ans.getD i 0=v:=⟨_,rfl⟩
   have HS2:=hZ (fun (h0:v=0) j (hj:j<i+1)=>show ans.getD j 0=0 by
    by_cases hji:j<i
    ·exact HS.out j hji
    ·rw [show j=i by omega,ev];exact h0)
   rw [ev] at HT HF
   clear ev
   generalize (fs i).1=g at *
   generalize (fs i).2=cb at *
   by_cases hv:v=0
   ·have HS3:=hZ (HS2.out hv)
    subst hv
    go_wp2_with (go_at_fn g;refine HT.out.mono ?_;rintro e w1 ⟨rfl,hb1⟩;have HB:=hZ (chain HB.out hb1);clear hb1)
    go_roundw
    case rel=>exact⟨i+1,hlt,by go_num,HS3,HB⟩
    case measure=>simp [intOf]<;>omega
   ·have hv2:(v==0)=false:=by simpa using hv
    have hv3:(v != 0)=true:=by simp [bne,hv2]
    have HE:=hZ (HF.out hv)
    clear hv
    go_wp2_with (go_at_fn g;refine HT.out.mono ?_;rintro e w1 ⟨rfl,hb1⟩;have HB:=hZ (chain HB.out hb1);clear hb1)
    go_ret
    exact⟨by rw [HE.out];rfl,HB.out⟩
  ·obtain rfl:i=ans.length:=Nat.le_antisymm hi (Nat.le_of_not_lt hlt)
   have hlt':¬ (ans.length:Int)<(ans.length:Int):=Int.lt_irrefl _
   have HE:=hZ (F2.out HS.out)
   go_wp2_with fail
   go_ret
   exact⟨by rw [HE.out];rfl,HB.out⟩
end
section
/- Contracts of layer 12: Right. -/
open Go.RowKit
set_option maxRecDepth 100000
def kB (x a b:Int):Bool:=decide (a≤x)&&decide (x≤b)
def storeB (k s c:Int) (xs:List SymR):Bool:=kB k 1 64&&kB s 0 64&&kB c 1 64&&decide ((xs.length:Int)≤c)&&allB s xs&&!twiceB xs
theorem Box.four {w:World} {g:Nat} {t:TypeId} {a b c d:Value} (h:Box w g t #[a,b,c,d]):w.cell? ⟨g,0,none⟩=some a∧w.cell? ⟨g,1,none⟩=some b∧w.cell? ⟨g,2,none⟩=some c∧w.cell? ⟨g,3,none⟩=some d∧w.frozen? ⟨g,0,none⟩=false∧w.frozen? ⟨g,1,none⟩=false∧w.frozen? ⟨g,2,none⟩=false∧w.frozen? ⟨g,3,none⟩=false:=
 ⟨h.cell 0,h.cell 1,h.cell 2,h.cell 3,h.free 0,h.free 1,h.free 2,h.free 3⟩
section
variable (k s c:Int) (A:Option Addr) (l d g:Nat) (w:World) (xs:List SymR)
theorem right1_any (hb:Box w g 25 #[.int .i64 k,.int .i64 s,.int .i64 c,.slice A l d]) :
  Calls Tryz.prog 81 #[.pointer (some ⟨g,0,none⟩)] w fun e w'=>e=.returned (.int .i64 (whenI (!kB k 1 64) 1))∧Below w.heap.size w w':=by
 obtain⟨h0,h1,h2,h3,-,-,-,-⟩:=hb.four
 have HW:=hZ (within_any k 1 64 w)
 have hk:(decide (1≤k)&&decide (k≤64))=kB k 1 64:=rfl
 rw [hk] at HW
 clear hk
 generalize kB k 1 64=b at *
 go_enter Tryz.func81,Tryz.ntmps81
 go_wp2_with fail
 refine HW.out.mono ?_
 rintro e w1 ⟨rfl,rfl⟩
 go_wp2_with fail
 refine (when_any (!b) 1 _).mono ?_
 rintro e w1 ⟨rfl,rfl⟩
 go_wp2_with fail
 go_ret
 exact⟨rfl,Below.refl _ _⟩
theorem right2_any (hb:Box w g 25 #[.int .i64 k,.int .i64 s,.int .i64 c,.slice A l d]) :
  Calls Tryz.prog 84 #[.pointer (some ⟨g,0,none⟩)] w fun e w'=>e=.returned (.int .i64 (whenI (!kB s 0 64) 1))∧Below w.heap.size w w':=by
 obtain⟨h0,h1,h2,h3,-,-,-,-⟩:=hb.four
 have HW:=hZ (within_any s 0 64 w)
 have hk:(decide (0≤s)&&decide (s≤64))=kB s 0 64:=rfl
 rw [hk] at HW
 clear hk
 generalize kB s 0 64=b at *
 go_enter Tryz.func84,Tryz.ntmps84
 go_wp2_with fail
 refine HW.out.mono ?_
 rintro e w1 ⟨rfl,rfl⟩
 go_wp2_with fail
 refine (when_any (!b) 1 _).mono ?_
 rintro e w1 ⟨rfl,rfl⟩
 go_wp2_with fail
 go_ret
 exact⟨rfl,Below.refl _ _⟩
theorem right3_any (hb:Box w g 25 #[.int .i64 k,.int .i64 s,.int .i64 c,.slice A l d]) :
  Calls Tryz.prog 85 #[.pointer (some ⟨g,0,none⟩)] w fun e w'=>e=.returned (.int .i64 (whenI (!kB c 1 64) 1))∧Below w.heap.size w w':=by
 obtain⟨h0,h1,h2,h3,-,-,-,-⟩:=hb.four
 have HW:=hZ (within_any c 1 64 w)
 have hk:(decide (1≤c)&&decide (c≤64))=kB c 1 64:=rfl
 rw [hk] at HW
 clear hk
 generalize kB c 1 64=b at *
 go_enter Tryz.func85,Tryz.ntmps85
 go_wp2_with fail
 refine HW.out.mono ?_
 rintro e w1 ⟨rfl,rfl⟩
 go_wp2_with fail
 refine (when_any (!b) 1 _).mono ?_
 rintro e w1 ⟨rfl,rfl⟩
 go_wp2_with fail
 go_ret
 exact⟨rfl,Below.refl _ _⟩
theorem right4_any (hb:Box w g 25 #[.int .i64 k,.int .i64 s,.int .i64 c,.slice A l d]) :
  Calls Tryz.prog 86 #[.pointer (some ⟨g,0,none⟩)] w fun e w'=>e=.returned (.int .i64 (whenI (decide (c<(l:Int))) 1))∧Below w.heap.size w w':=by
 obtain⟨h0,h1,h2,h3,-,-,-,-⟩:=hb.four
 by_cases hlt:c<(l:Int)
 ·have ht:decide (c<(l:Int))=true:=decide_eq_true hlt
  rw [ht]
  go_enter Tryz.func86,Tryz.ntmps86
  go_wp2_with fail
  refine (when_any true 1 _).mono ?_
  rintro e w1 ⟨rfl,rfl⟩
  go_wp2_with fail
  go_ret
  exact⟨rfl,Below.refl _ _⟩
 ·have ht:decide (c<(l:Int))=false:=decide_eq_false hlt
  rw [ht]
  go_enter Tryz.func86,Tryz.ntmps86
  go_wp2_with fail
  refine (when_any false 1 _).mono ?_
  rintro e w1 ⟨rfl,rfl⟩
  go_wp2_with fail
  go_ret
  exact⟨rfl,Below.refl _ _⟩
theorem right5_any (hb:Box w g 25 #[.int .i64 k,.int .i64 s,.int .i64 c,.slice A l d]) (hx:Syms w A l xs) (hl:l≤maxLen) :
  Calls Tryz.prog 87 #[.pointer (some ⟨g,0,none⟩)] w fun e w'=>e=.returned (.int .i64 (whenI (!allB s xs) 1))∧Below w.heap.size w w':=by
 obtain⟨h0,h1,h2,h3,-,-,-,-⟩:=hb.four
 have HA:=hZ (eallHave_any s A l d xs w hx hl)
 generalize allB s xs=b at *
 clear hx
 go_enter Tryz.func87,Tryz.ntmps87
 go_wp2_with fail
 refine HA.out.mono ?_
 rintro e w1 ⟨rfl,hb1⟩
 go_wp2_with fail
 refine (when_any (!b) 1 _).mono ?_
 rintro e w1 ⟨rfl,rfl⟩
 go_wp2_with fail
 go_ret
 exact⟨rfl,hb1⟩
theorem right6_any (hb:Box w g 25 #[.int .i64 k,.int .i64 s,.int .i64 c,.slice A l d]) (hx:Syms w A l xs) (hl:l≤d) (hd:d≤maxLen) :
  Calls Tryz.prog 89 #[.pointer (some ⟨g,0,none⟩)] w fun e w'=>e=.returned (.int .i64 (whenI (twiceB xs) 1))∧Below w.heap.size w w':=by
 obtain⟨h0,h1,h2,h3,-,-,-,-⟩:=hb.four
 have HA:=hZ (twice_any A l d xs w hx hl hd)
 generalize twiceB xs=b at *
 clear hx
 go_enter Tryz.func89,Tryz.ntmps89
 go_wp2_with fail
 refine HA.out.mono ?_
 rintro e w1 ⟨rfl,hb1⟩
 go_wp2_with fail
 refine (when_any b 1 _).mono ?_
 rintro e w1 ⟨rfl,rfl⟩
 go_wp2_with fail
 go_ret
 exact⟨rfl,hb1⟩
end
def rightAns (k s c:Int) (xs:List SymR):List Int:=[whenI (!kB k 1 64) 1,whenI (!kB s 0 64) 1,whenI (!kB c 1 64) 1,whenI (decide (c<(xs.length:Int))) 1,whenI (!allB s xs) 1,whenI (twiceB xs) 1]
theorem rightAns_ok (k s c:Int) (xs:List SymR):(firstI (rightAns k s c xs)==0)=storeB k s c xs:=by
 unfold rightAns storeB
 have e:decide ((xs.length:Int)≤c)=!decide (c<(xs.length:Int)):=by rw [Bool.eq_iff_iff];simp
 rw [e]
 cases kB k 1 64<;>cases kB s 0 64<;>cases kB c 1 64<;>cases decide (c<(xs.length:Int))<;>cases allB s xs<;>cases twiceB xs<;>rfl
def rightFs (g:Nat):Nat→Nat×Array Value:=fun j=>([81,84,85,86,87,89].getD j 0,#[.pointer (some ⟨g,0,none⟩)])
set_option maxHeartbeats 1000000 in
theorem eright_any (k s c:Int) (A:Option Addr) (l d:Nat) (xs:List SymR) (w:World) (hx:Syms w A l xs) (hl:l≤d) (hd:d≤maxLen) :
  Calls Tryz.prog 50 #[.agg #[.int .i64 k,.int .i64 s,.int .i64 c,.slice A l d]] w fun e w'=>e=.returned (.bool (storeB k s c xs))∧Below w.heap.size w w':=by
 have b1:Below w.heap.size w ((w.alloc (.cells #[.int .i64 k,.int .i64 s,.int .i64 c,.slice A l d] 25)).alloc (.cells #[.func (.func 81) #[] #[.pointer (some ⟨w.heap.size,0,none⟩)],.func (.func 84) #[] #[.pointer (some ⟨w.heap.size,0,none⟩)],.func (.func 85) #[] #[.pointer (some ⟨w.heap.size,0,none⟩)],.func (.func 86) #[] #[.pointer (some ⟨w.heap.size,0,none⟩)],.func (.func 87) #[] #[.pointer (some ⟨w.heap.size,0,none⟩)],.func (.func 89) #[] #[.pointer (some ⟨w.heap.size,0,none⟩)]] 130)):=((Below.refl _ _).alloc (Nat.le_refl _) _).alloc (by simp) _
 have Q:=(Box.new w 25 #[.int .i64 k,.int .i64 s,.int .i64 c,.slice A l d]).alloc (.cells #[.func (.func 81) #[] #[.pointer (some ⟨w.heap.size,0,none⟩)],.func (.func 84) #[] #[.pointer (some ⟨w.heap.size,0,none⟩)],.func (.func 85) #[] #[.pointer (some ⟨w.heap.size,0,none⟩)],.func (.func 86) #[] #[.pointer (some ⟨w.heap.size,0,none⟩)],.func (.func 87) #[] #[.pointer (some ⟨w.heap.size,0,none⟩)],.func (.func 89) #[] #[.pointer (some ⟨w.heap.size,0,none⟩)]] 130)
 have F:=Box.new (w.alloc (.cells #[.int .i64 k,.int .i64 s,.int .i64 c,.slice A l d] 25)) 130 #[.func (.func 81) #[] #[.pointer (some ⟨w.heap.size,0,none⟩)],.func (.func 84) #[] #[.pointer (some ⟨w.heap.size,0,none⟩)],.func (.func 85) #[] #[.pointer (some ⟨w.heap.size,0,none⟩)],.func (.func 86) #[] #[.pointer (some ⟨w.heap.size,0,none⟩)],.func (.func 87) #[] #[.pointer (some ⟨w.heap.size,0,none⟩)],.func (.func 89) #[] #[.pointer (some ⟨w.heap.size,0,none⟩)]]
 simp only [World.size_alloc] at F
 have hX:=hx.below b1
 have hxl:=hx.1
 have hA:AskedOf Tryz.prog ((w.alloc (.cells #[.int .i64 k,.int .i64 s,.int .i64 c,.slice A l d] 25)).alloc (.cells #[.func (.func 81) #[] #[.pointer (some ⟨w.heap.size,0,none⟩)],.func (.func 84) #[] #[.pointer (some ⟨w.heap.size,0,none⟩)],.func (.func 85) #[] #[.pointer (some ⟨w.heap.size,0,none⟩)],.func (.func 86) #[] #[.pointer (some ⟨w.heap.size,0,none⟩)],.func (.func 87) #[] #[.pointer (some ⟨w.heap.size,0,none⟩)],.func (.func 89) #[] #[.pointer (some ⟨w.heap.size,0,none⟩)]] 130)) (w.heap.size+1) 0 (rightFs w.heap.size) (rightAns k s c xs):=by
  refine⟨F.lt,?_,?_,?_⟩
  ·intro j hj
   have hj:j<6:=hj
   rw [Nat.zero_add,F.cell j]
   match j,hj with
   | 0,_=>rfl
   | 1,_=>rfl
   | 2,_=>rfl
   | 3,_=>rfl
   | 4,_=>rfl
   | 5,_=>rfl
  ·intro j hj
   have hj:j<6:=hj
   match j,hj with
   | 0,_=>exact enters_of Tryz.func81 (by kernel_rfl) rfl
   | 1,_=>exact enters_of Tryz.func84 (by kernel_rfl) rfl
   | 2,_=>exact enters_of Tryz.func85 (by kernel_rfl) rfl
   | 3,_=>exact enters_of Tryz.func86 (by kernel_rfl) rfl
   | 4,_=>exact enters_of Tryz.func87 (by kernel_rfl) rfl
   | 5,_=>exact enters_of Tryz.func89 (by kernel_rfl) rfl
  ·intro j hj w' hb _
   have hj:j<6:=hj
   have q:=Q.keep hb
   have hX':=hX.below hb
   match j,hj with
   | 0,_=>exact right1_any k s c A l d w.heap.size w' q
   | 1,_=>exact right2_any k s c A l d w.heap.size w' q
   | 2,_=>exact right3_any k s c A l d w.heap.size w' q
   | 3,_=>
     have h:=right4_any k s c A l d w.heap.size w' q
     rw [← hxl] at h
     rw [← hxl] at q
     exact right4_any k s c A xs.length d w.heap.size w' q
   | 4,_=>exact right5_any k s c A l d w.heap.size w' xs q hX' (Nat.le_trans hl hd)
   | 5,_=>exact right6_any k s c A l d w.heap.size w' xs q hX' hl hd
 have HC:=hZ (efirst_any (w.heap.size+1) 0 6 (rightFs w.heap.size) (rightAns k s c xs) _ (by show 6≤100;omega) hA)
 have HR:=hZ (rightAns_ok k s c xs)
 have HB:=hZ b1
 rw [show (rightAns k s c xs).length=6 from rfl] at HC
 generalize firstI (rightAns k s c xs)=r at *
 clear hA hX hx b1 Q F
 go_enter Tryz.func50,Tryz.ntmps50
 go_wp2_with fail
 refine HC.out.mono ?_
 rintro e w1 ⟨rfl,hb⟩
 have HB:=hZ (chain HB.out hb)
 clear hb
 go_wp2_with fail
 go_ret
 exact⟨by rw [← HR.out];rfl,HB.out⟩
end
section
/- Two symbols compared. -/
open Go.RowKit
theorem sym_equal (d:Nat) (a b:Int) (s t:ByteArray) (w:World):(Op.equalIn (d+2) 29 (.agg #[.int .u64 a,.string s]) (.agg #[.int .u64 b,.string t])).run Tryz.prog w=.ok (a==b&&s.toList==t.toList) w:=by
 rw [run_equalIn_struct w (d+1) 29 _ _ (by kernel_rfl) (by kernel_rfl)]
 simp only [Program.fieldsOf,Tryz.underlying29]
 simp [Op.eqFields,Go.part,Go.isAgg,run_underlying Tryz.underlying22,run_underlying Tryz.underlying9]
 rw [run_equalIn_int w d 22 .u64 .u64 a b Tryz.underlying22]
 cases h:(a==b) with
 | false=>simp [Result.andThen]
 | true=>
   simp only [Result.andThen_ok]
   rw [run_equalIn_string w d 9 s t Tryz.underlying9]
   cases h2:(s.toList==t.toList)<;>simp [Result.andThen]
theorem sym_neq (a b:Int) (s t:ByteArray) (w:World):(binOp .neq 29 (.agg #[.int .u64 a,.string s]) (.agg #[.int .u64 b,.string t])).run Tryz.prog w=.ok (.bool (!(a==b&&s.toList==t.toList))) w:=by
 rw [run_neq_struct,show (10000:Nat)=9998+2 from rfl,sym_equal];rfl
theorem sym_guard (op:BinOp) (a b:Int) (s t:ByteArray) (x y:Operand) (w:World):(eqGuard op 29 x y (.agg #[.int .u64 a,.string s]) (.agg #[.int .u64 b,.string t])).run Tryz.prog w=.ok () w:=
 run_eqGuard_agg w op _ x y _ _ (by kernel_rfl)
theorem toList_inj (s t:ByteArray) (h:s.toList=t.toList):s=t:=by
 rw [ByteArray.toList_eq,ByteArray.toList_eq] at h
 obtain⟨⟨x⟩⟩:=s
 obtain⟨⟨y⟩⟩:=t
 simp at h
 rw [h]
theorem symv_ne (p q:Nat×ByteArray) (h:¬ p=q):(((p.1:Nat):Int)==((q.1:Nat):Int)&&p.2.toList==q.2.toList)=false:=by
 obtain⟨a,s⟩:=p
 obtain⟨b,t⟩:=q
 by_cases h1:a=b
 ·subst h1
  have h2:¬ s.toList=t.toList:=fun e=>h (by rw [toList_inj s t e])
  simp [h2]
 ·have:¬ ((a:Nat):Int)=(b:Int):=by omega
  simp [this]
end
section
/- Contracts of layer 12: two lists of symbols, Like, the reference's Same. -/
open Go.RowKit
set_option maxRecDepth 100000
theorem bdH {B:Nat} {w wr:World} (h:Hid (Below B w wr)) (n:Nat):Hid (Below B w (wr.drewN n)):=hZ (bdN h.out n)
theorem take_both (xs ys:List SymR) (j:Nat) (h1:j<xs.length) (h2:j<ys.length) (h:xs.take j=ys.take j) (he:xs.getD j default=ys.getD j default):xs.take (j+1)=ys.take (j+1):=by
 rw [take_snocD xs j h1,take_snocD ys j h2,h,he]
theorem take_differ (xs ys:List SymR) (j:Nat) (h1:j<xs.length) (h2:j<ys.length) (he:¬ xs.getD j default=ys.getD j default):xs≠ys:=fun h=>he (by rw [h])
set_option maxHeartbeats 1000000 in
theorem slEq_any (A B:Option Addr) (l m c d:Nat) (xs ys:List SymR) (w:World) (hu:Syms w A l xs) (hv:Syms w B m ys) (hl:l≤maxLen) (hm:m≤maxLen) :
  Calls Tryz.prog 106 #[.slice A l c,.slice B m d] w fun e w'=>e=.returned (.bool (decide (xs=ys)))∧Below w.heap.size w w':=by
 unfold maxLen at hl hm
 have HU:=hZ hu
 have HV:=hZ hv
 have HL1:=hZ hu.1
 have HL2:=hZ hv.1
 clear hu hv
 by_cases hlm:l=m
 ·subst hlm
  have t2:((l:Int) != (l:Int))=false:=by simp
  go_enter Tryz.func106,Tryz.ntmps106
  go_wp2_with fail
  clear t2
  go_loopw [13] (fun i wr=>∃ j:Nat,j≤l∧i=.int .i64 j∧Hid (xs.take j=ys.take j)∧Hid (Below w.heap.size w wr)) (fun i _=>l-(intOf i).toNat)
  case atStart=>exact⟨0,Nat.zero_le _,rfl,hZ rfl,hZ (Below.refl _ _)⟩
  case round=>
   obtain⟨j,hj,rfl,HS,HB⟩:=hrel
   by_cases hlt:j<l
   ·have hlt':(j:Int)<(l:Int):=Int.ofNat_lt.2 hlt
    have hj0:(0:Int)≤(j:Int):=Int.natCast_nonneg _
    obtain⟨b,o,rfl,lt1,cu,cu1⟩:=HU.out.two j hlt
    obtain⟨b2,o2,rfl,lt2,cv,cv1⟩:=HV.out.two j hlt
    have cu:=(HB.out.cell (p:=⟨b,o+j*2,none⟩) lt1).trans cu
    have cu1:=(HB.out.cell (p:=⟨b,o+j*2+1,none⟩) lt1).trans cu1
    have cv:=(HB.out.cell (p:=⟨b2,o2+j*2,none⟩) lt2).trans cv
    have cv1:=(HB.out.cell (p:=⟨b2,o2+j*2+1,none⟩) lt2).trans cv1
    have HN:=hZ (take_both xs ys j (by rw [HL1.out];exact hlt) (by rw [HL2.out];exact hlt) HS.out)
    have HM:=hZ (take_differ xs ys j (by rw [HL1.out];exact hlt) (by rw [HL2.out];exact hlt))
    generalize xs.getD j default=p at *
    generalize ys.getD j default=q at *
    by_cases hpq:p=q
    ·have HN2:=hZ (HN.out hpq)
     subst hpq
     clear HN HM
     go_wp2_with fail
     go_quiet (fail)
     go_wp2_with fail
     go_roundw
     case rel=>exact⟨j+1,hlt,by go_num,HN2,bdH HB _⟩
     case measure=>simp [intOf]<;>omega
    ·have HE:=hZ (decide_eq_false (HM.out hpq))
     clear HN HM
     have hne:∀ w,(binOp .neq 29 (.agg #[.int .u64 (p.1:Nat),.string p.2]) (.agg #[.int .u64 (q.1:Nat),.string q.2])).run Tryz.prog w=.ok (.bool true) w:=fun w=>by rw [sym_neq,symv_ne p q hpq];rfl
     have hgd:=fun op x y w=>sym_guard op (p.1:Nat) (q.1:Nat) p.2 q.2 x y w
     clear hpq
     go_wp2_with fail
     go_quiet (fail)
     go_wp2_with fail
     go_ret
     exact⟨by rw [HE.out];rfl,(bdH HB _).out⟩
   ·obtain rfl:j=l:=Nat.le_antisymm hj (Nat.le_of_not_lt hlt)
    have hlt':¬ (j:Int)<(j:Int):=Int.lt_irrefl _
    have HE:=hZ (decide_eq_true (show xs=ys by have:=HS.out;rwa [List.take_of_length_le (by rw [HL1.out];exact Nat.le_refl _),List.take_of_length_le (by rw [HL2.out];exact Nat.le_refl _)] at this))
    go_wp2_with fail
    go_ret
    exact⟨by rw [HE.out];rfl,HB.out⟩
 ·have t2:((l:Int) != (m:Int))=true:=by simp;omega
  have HE:=hZ (decide_eq_false (show xs≠ys by intro h;rw [h] at HL1;exact hlm (HL1.out.symm.trans HL2.out)))
  go_enter Tryz.func106,Tryz.ntmps106
  go_wp2_with fail
  go_ret
  exact⟨by rw [HE.out];rfl,Below.refl _ _⟩
set_option maxHeartbeats 1000000 in
theorem refSameL_any (A B:Option Addr) (l m c d:Nat) (xs ys:List SymR) (w:World) (hu:Syms w A l xs) (hv:Syms w B m ys) (hl:l≤maxLen) (hm:m≤maxLen) :
  Calls Tryz.prog 65 #[.slice A l c,.slice B m d] w fun e w'=>e=.returned (.bool (decide (xs=ys)))∧Below w.heap.size w w':=by
 unfold maxLen at hl hm
 have HU:=hZ hu
 have HV:=hZ hv
 have HL1:=hZ hu.1
 have HL2:=hZ hv.1
 clear hu hv
 by_cases hlm:l=m
 ·subst hlm
  have t2:((l:Int) != (l:Int))=false:=by simp
  go_enter Tryz.func65,Tryz.ntmps65
  go_wp2_with fail
  clear t2
  go_loopw [13] (fun i wr=>∃ j:Nat,j≤l∧i=.int .i64 j∧Hid (xs.take j=ys.take j)∧Hid (Below w.heap.size w wr)) (fun i _=>l-(intOf i).toNat)
  case atStart=>exact⟨0,Nat.zero_le _,rfl,hZ rfl,hZ (Below.refl _ _)⟩
  case round=>
   obtain⟨j,hj,rfl,HS,HB⟩:=hrel
   by_cases hlt:j<l
   ·have hlt':(j:Int)<(l:Int):=Int.ofNat_lt.2 hlt
    have hj0:(0:Int)≤(j:Int):=Int.natCast_nonneg _
    obtain⟨b,o,rfl,lt1,cu,cu1⟩:=HU.out.two j hlt
    obtain⟨b2,o2,rfl,lt2,cv,cv1⟩:=HV.out.two j hlt
    have cu:=(HB.out.cell (p:=⟨b,o+j*2,none⟩) lt1).trans cu
    have cu1:=(HB.out.cell (p:=⟨b,o+j*2+1,none⟩) lt1).trans cu1
    have cv:=(HB.out.cell (p:=⟨b2,o2+j*2,none⟩) lt2).trans cv
    have cv1:=(HB.out.cell (p:=⟨b2,o2+j*2+1,none⟩) lt2).trans cv1
    have HN:=hZ (take_both xs ys j (by rw [HL1.out];exact hlt) (by rw [HL2.out];exact hlt) HS.out)
    have HM:=hZ (take_differ xs ys j (by rw [HL1.out];exact hlt) (by rw [HL2.out];exact hlt))
    generalize xs.getD j default=p at *
    generalize ys.getD j default=q at *
    by_cases hpq:p=q
    ·have HN2:=hZ (HN.out hpq)
     subst hpq
     clear HN HM
     go_wp2_with fail
     go_quiet (fail)
     go_wp2_with fail
     go_roundw
     case rel=>exact⟨j+1,hlt,by go_num,HN2,bdH HB _⟩
     case measure=>simp [intOf]<;>omega
    ·have HE:=hZ (decide_eq_false (HM.out hpq))
     clear HN HM
     have hne:∀ w,(binOp .neq 29 (.agg #[.int .u64 (p.1:Nat),.string p.2]) (.agg #[.int .u64 (q.1:Nat),.string q.2])).run Tryz.prog w=.ok (.bool true) w:=fun w=>by rw [sym_neq,symv_ne p q hpq];rfl
     have hgd:=fun op x y w=>sym_guard op (p.1:Nat) (q.1:Nat) p.2 q.2 x y w
     clear hpq
     go_wp2_with fail
     go_quiet (fail)
     go_wp2_with fail
     go_ret
     exact⟨by rw [HE.out];rfl,(bdH HB _).out⟩
   ·obtain rfl:j=l:=Nat.le_antisymm hj (Nat.le_of_not_lt hlt)
    have hlt':¬ (j:Int)<(j:Int):=Int.lt_irrefl _
    have HE:=hZ (decide_eq_true (show xs=ys by have:=HS.out;rwa [List.take_of_length_le (by rw [HL1.out];exact Nat.le_refl _),List.take_of_length_le (by rw [HL2.out];exact Nat.le_refl _)] at this))
    go_wp2_with fail
    go_ret
    exact⟨by rw [HE.out];rfl,HB.out⟩
 ·have t2:((l:Int) != (m:Int))=true:=by simp;omega
  have HE:=hZ (decide_eq_false (show xs≠ys by intro h;rw [h] at HL1;exact hlm (HL1.out.symm.trans HL2.out)))
  go_enter Tryz.func65,Tryz.ntmps65
  go_wp2_with fail
  go_ret
  exact⟨by rw [HE.out];rfl,Below.refl _ _⟩
end
section
/- Contracts of layer 12: Like, the reference's Same. -/
open Go.RowKit
set_option maxRecDepth 100000
def likeB (k s c:Int) (xs:List SymR) (k2 s2 c2:Int) (ys:List SymR):Bool:=k==k2&&s==s2&&c==c2&&decide (xs=ys)
set_option maxHeartbeats 1000000 in
theorem elike_any (k s c:Int) (A:Option Addr) (l d:Nat) (xs:List SymR) (k2 s2 c2:Int) (A2:Option Addr) (l2 d2:Nat) (ys:List SymR) (w:World) (hx:Syms w A l xs) (hy:Syms w A2 l2 ys) (hl:l≤maxLen) (hl2:l2≤maxLen) :
  Calls Tryz.prog 73 #[.agg #[.int .i64 k,.int .i64 s,.int .i64 c,.slice A l d],.agg #[.int .i64 k2,.int .i64 s2,.int .i64 c2,.slice A2 l2 d2]] w fun e w'=>e=.returned (.bool (likeB k s c xs k2 s2 c2 ys))∧Below w.heap.size w w':=by
 have b1:Below w.heap.size w ((w.alloc (.cells #[.int .i64 k,.int .i64 s,.int .i64 c,.slice A l d] 25)).alloc (.cells #[.int .i64 k2,.int .i64 s2,.int .i64 c2,.slice A2 l2 d2] 25)):=((Below.refl _ _).alloc (Nat.le_refl _) _).alloc (by simp) _
 have Q0:=(Box.new w 25 #[.int .i64 k,.int .i64 s,.int .i64 c,.slice A l d]).alloc (.cells #[.int .i64 k2,.int .i64 s2,.int .i64 c2,.slice A2 l2 d2] 25)
 have q1:=Box.new (w.alloc (.cells #[.int .i64 k,.int .i64 s,.int .i64 c,.slice A l d] 25)) 25 #[.int .i64 k2,.int .i64 s2,.int .i64 c2,.slice A2 l2 d2]
 simp only [World.size_alloc] at q1
 obtain⟨r0,r1,r2,r3,-,-,-,-⟩:=Q0.four
 obtain⟨z0,z1,z2,z3,-,-,-,-⟩:=q1.four
 have HE:=hZ (slEq_any A A2 l l2 d d2 xs ys _ (hx.below b1) (hy.below b1) hl hl2)
 have HB:=hZ b1
 unfold likeB
 clear hx hy Q0 q1 b1
 cases h1:(k==k2) with
 | false=>
   go_enter Tryz.func73,Tryz.ntmps73
   go_wp2_with fail
   go_ret
   exact⟨rfl,HB.out⟩
 | true=>
   cases h2:(s==s2) with
   | false=>
     go_enter Tryz.func73,Tryz.ntmps73
     go_wp2_with fail
     go_ret
     exact⟨rfl,HB.out⟩
   | true=>
     cases h3:(c==c2) with
     | false=>
       go_enter Tryz.func73,Tryz.ntmps73
       go_wp2_with fail
       go_ret
       exact⟨rfl,HB.out⟩
     | true=>
       go_enter Tryz.func73,Tryz.ntmps73
       go_wp2_with fail
       refine HE.out.mono ?_
       rintro e w1 ⟨rfl,hb⟩
       go_wp2_with fail
       go_ret
       exact⟨rfl,chain HB.out hb⟩
set_option maxHeartbeats 1000000 in
theorem refSame12_any (k s c:Int) (A:Option Addr) (l d:Nat) (xs:List SymR) (k2 s2 c2:Int) (A2:Option Addr) (l2 d2:Nat) (ys:List SymR) (w:World) (hx:Syms w A l xs) (hy:Syms w A2 l2 ys) (hl:l≤maxLen) (hl2:l2≤maxLen) :
  Calls Tryz.prog 35 #[.agg #[.int .i64 k,.int .i64 s,.int .i64 c,.slice A l d],.agg #[.int .i64 k2,.int .i64 s2,.int .i64 c2,.slice A2 l2 d2]] w fun e w'=>e=.returned (.bool (likeB k s c xs k2 s2 c2 ys))∧Below w.heap.size w w':=by
 have b1:Below w.heap.size w ((w.alloc (.cells #[.int .i64 k,.int .i64 s,.int .i64 c,.slice A l d] 25)).alloc (.cells #[.int .i64 k2,.int .i64 s2,.int .i64 c2,.slice A2 l2 d2] 25)):=((Below.refl _ _).alloc (Nat.le_refl _) _).alloc (by simp) _
 have Q0:=(Box.new w 25 #[.int .i64 k,.int .i64 s,.int .i64 c,.slice A l d]).alloc (.cells #[.int .i64 k2,.int .i64 s2,.int .i64 c2,.slice A2 l2 d2] 25)
 have q1:=Box.new (w.alloc (.cells #[.int .i64 k,.int .i64 s,.int .i64 c,.slice A l d] 25)) 25 #[.int .i64 k2,.int .i64 s2,.int .i64 c2,.slice A2 l2 d2]
 simp only [World.size_alloc] at q1
 obtain⟨r0,r1,r2,r3,-,-,-,-⟩:=Q0.four
 obtain⟨z0,z1,z2,z3,-,-,-,-⟩:=q1.four
 have HE:=hZ (refSameL_any A A2 l l2 d d2 xs ys _ (hx.below b1) (hy.below b1) hl hl2)
 have HB:=hZ b1
 unfold likeB
 clear hx hy Q0 q1 b1
 cases h1:(k==k2) with
 | false=>
   go_enter Tryz.func35,Tryz.ntmps35
   go_wp2_with fail
   go_ret
   exact⟨rfl,HB.out⟩
 | true=>
   cases h2:(s==s2) with
   | false=>
     go_enter Tryz.func35,Tryz.ntmps35
     go_wp2_with fail
     go_ret
     exact⟨rfl,HB.out⟩
   | true=>
     cases h3:(c==c2) with
     | false=>
       go_enter Tryz.func35,Tryz.ntmps35
       go_wp2_with fail
       go_ret
       exact⟨rfl,HB.out⟩
     | true=>
       go_enter Tryz.func35,Tryz.ntmps35
       go_wp2_with fail
       refine HE.out.mono ?_
       rintro e w1 ⟨rfl,hb⟩
       go_wp2_with fail
       go_ret
       exact⟨rfl,chain HB.out hb⟩
end
section
/- Contracts of layer 12's reference: Has, Sizes, Right, Why. -/
open Go.RowKit
set_option maxRecDepth 100000
theorem refHas_any (id:Nat) (A:Option Addr) (l c:Nat) (xs:List SymR) (w:World) (hx:Syms w A l xs) (hl:l≤maxLen) :
  Calls Tryz.prog 94 #[.slice A l c,.int .u64 (id:Int)] w fun e w'=>e=.returned (.bool (hasI xs id))∧Below w.heap.size w w':=by
 unfold maxLen at hl
 have HX:=hZ hx
 have HXl:=hZ hx.1
 clear hx
 go_enter Tryz.func94,Tryz.ntmps94
 go_wp2_with fail
 go_loopw [9] (fun t wr=>∃ i:Nat,i≤l∧t=.int .i64 (i:Int)∧Hid (hasI (xs.take i) id=false)∧Hid (Below w.heap.size w wr)) (fun t _=>l-(intOf t).toNat)
 case atStart=>exact⟨0,Nat.zero_le _,rfl,hZ rfl,hZ (Below.refl _ _)⟩
 case round=>
  obtain⟨i,hi,rfl,HS,HB⟩:=hrel
  by_cases hlt:i<l
  ·have hlt':(i:Int)<(l:Int):=Int.ofNat_lt.2 hlt
   obtain⟨b,off,rfl,hb,x0,x1⟩:=Syms.two HX.out i hlt
   have x0:=(HB.out.cell (p:=⟨b,off+i*2,none⟩) hb).trans x0
   have x1:=(HB.out.cell (p:=⟨b,off+i*2+1,none⟩) hb).trans x1
   have HN:=hZ (hasI_snoc xs id i (by rw [HXl.out];exact hlt))
   have HU:=hZ (hasI_up xs id (i+1))
   have G:=hZ (Box.new wr 29 #[.int .u64 ((xs.getD i default).1:Nat),.string (xs.getD i default).2])
   have HB:=hZ (HB.out.alloc HB.out.size (.cells #[.int .u64 ((xs.getD i default).1:Nat),.string (xs.getD i default).2] 29))
   generalize xs.getD i default=p at *
   obtain⟨p0,p1⟩:=p
   dsimp only at x0 x1 G HB HN
   obtain⟨g0,g1,-,-⟩:=G.out.two
   have ei:(((p0:Nat):Int)==(id:Int))=(p0==id):=by rw [Bool.eq_iff_iff];simp;omega
   cases hs:(p0==id) with
   | true=>
     rw [hs] at HN ei
     have HE:=hZ (show hasI xs id=true from HU.out (by rw [HN.out];simp))
     clear hs
     go_wp2_with fail
     go_ret
     exact⟨by rw [HE.out];rfl,HB.out⟩
   | false=>
     rw [hs] at HN ei
     have HN2:=hZ (show hasI (xs.take (i+1)) id=false by rw [HN.out,HS.out];rfl)
     clear hs
     go_wp2_with fail
     go_roundw
     case rel=>exact⟨i+1,hlt,by go_num,HN2,HB⟩
     case measure=>simp [intOf]<;>omega
  ·obtain rfl:i=l:=Nat.le_antisymm hi (Nat.le_of_not_lt hlt)
   have hlt':¬ (i:Int)<(i:Int):=Int.lt_irrefl _
   have HE:=hZ (show hasI xs id=false by have:=HS.out;rwa [List.take_of_length_le (by rw [HXl.out];exact Nat.le_refl _)] at this)
   go_wp2_with fail
   go_ret
   exact⟨by rw [HE.out];rfl,HB.out⟩
def sizesB (k s c:Int):Bool:=kB k 1 64&&kB s 0 64&&kB c 1 64
theorem storeB_eq (k s c:Int) (xs:List SymR):storeB k s c xs=(sizesB k s c&&decide ((xs.length:Int)≤c)&&(allB s xs&&!twiceB xs)):=by
 unfold storeB sizesB
 cases kB k 1 64<;>cases kB s 0 64<;>cases kB c 1 64<;>cases decide ((xs.length:Int)≤c)<;>cases allB s xs<;>cases twiceB xs<;>rfl
theorem refSizes_any (k s c:Int) (w:World):Calls Tryz.prog 95 #[.int .i64 k,.int .i64 s,.int .i64 c] w fun e w'=>e=.returned (.bool (sizesB k s c))∧w=w':=by
 by_cases h0:1≤k
 ·by_cases h1:k≤64
  ·by_cases h2:0≤s
   ·by_cases h3:s≤64
    ·by_cases h4:1≤c
     ·by_cases h5:c≤64
      ·go_enter Tryz.func95,Tryz.ntmps95
       go_wp2_with fail
       go_ret
       exact⟨by simp [sizesB,kB,h0,h1,h2,h3,h4,h5],rfl⟩
      ·have t:decide (c≤64)=false:=by simpa using h5
       go_enter Tryz.func95,Tryz.ntmps95
       go_wp2_with fail
       go_ret
       exact⟨by unfold sizesB kB;rw [t];simp,rfl⟩
     ·have t:decide (1≤c)=false:=by simpa using h4
      go_enter Tryz.func95,Tryz.ntmps95
      go_wp2_with fail
      go_ret
      exact⟨by unfold sizesB kB;rw [t];simp,rfl⟩
    ·have t:decide (s≤64)=false:=by simpa using h3
     go_enter Tryz.func95,Tryz.ntmps95
     go_wp2_with fail
     go_ret
     exact⟨by unfold sizesB kB;rw [t];simp,rfl⟩
   ·have t:decide (0≤s)=false:=by simpa using h2
    go_enter Tryz.func95,Tryz.ntmps95
    go_wp2_with fail
    go_ret
    exact⟨by unfold sizesB kB;rw [t];simp,rfl⟩
  ·have t:decide (k≤64)=false:=by simpa using h1
   go_enter Tryz.func95,Tryz.ntmps95
   go_wp2_with fail
   go_ret
   exact⟨by unfold sizesB kB;rw [t];simp,rfl⟩
 ·have t:decide (1≤k)=false:=by simpa using h0
  go_enter Tryz.func95,Tryz.ntmps95
  go_wp2_with fail
  go_ret
  exact⟨by unfold sizesB kB;rw [t];simp,rfl⟩
def twiceTo (xs:List SymR) (k:Nat):Bool:=(List.range k).any fun i=>hasI (xs.take i) (xs.getD i default).1
theorem twiceTo_snoc (xs:List SymR) (k:Nat) (h:k<xs.length):twiceTo xs (k+1)=(twiceTo xs k||hasI (xs.take k) (xs.getD k default).1):=twice_snoc xs k h
set_option maxHeartbeats 2000000 in
theorem refRight12_any (k s c:Int) (A:Option Addr) (l d:Nat) (xs:List SymR) (w:World) (hx:Syms w A l xs) (hl:l≤d) (hd:d≤maxLen) :
  Calls Tryz.prog 56 #[.agg #[.int .i64 k,.int .i64 s,.int .i64 c,.slice A l d]] w fun e w'=>e=.returned (.bool (storeB k s c xs))∧Below w.heap.size w w':=by
 have hd2:=hd
 unfold maxLen at hd
 have b1:Below w.heap.size w (w.alloc (.cells #[.int .i64 k,.int .i64 s,.int .i64 c,.slice A l d] 25)):=(Below.refl _ _).alloc (Nat.le_refl _) _
 have Q:=hZ (Box.new w 25 #[.int .i64 k,.int .i64 s,.int .i64 c,.slice A l d])
 have HX:=hZ (hx.below b1)
 have HXl:=hZ hx.1
 have HB0:=hZ b1
 have HST:=hZ (storeB_eq k s c xs)
 have HSZ:=hZ (fun w=>refSizes_any k s c w)
 generalize sizesB k s c=sb at *
 obtain⟨r0,r1,r2,r3,-,-,-,-⟩:=Q.out.four
 clear hx b1
 go_enter Tryz.func56,Tryz.ntmps56
 go_wp2_with fail
 go_loopw [8] (fun t wr=>∃ i:Nat,i≤l∧t=.int .i64 (i:Int)∧Hid (allB s (xs.take i)=true∧twiceTo xs i=false)∧Hid (Below (w.alloc (.cells #[.int .i64 k,.int .i64 s,.int .i64 c,.slice A l d] 25)).heap.size (w.alloc (.cells #[.int .i64 k,.int .i64 s,.int .i64 c,.slice A l d] 25)) wr)) (fun t _=>l-(intOf t).toNat)
 case atStart=>exact⟨0,Nat.zero_le _,rfl,hZ ⟨rfl,rfl⟩,hZ (Below.refl _ _)⟩
 case round=>
  obtain⟨i,hi,rfl,HS,HB⟩:=hrel
  by_cases hlt:i<l
  ·have hlt':(i:Int)<(l:Int):=Int.ofNat_lt.2 hlt
   obtain⟨b,off,rfl,hb,x0,x1⟩:=Syms.two HX.out i hlt
   have x0:=(HB.out.cell (p:=⟨b,off+i*2,none⟩) hb).trans x0
   have x1:=(HB.out.cell (p:=⟨b,off+i*2+1,none⟩) hb).trans x1
   have HN:=hZ (twiceTo_snoc xs i (by rw [HXl.out];exact hlt))
   have HM:=hZ (allB_snoc s xs i (by rw [HXl.out];exact hlt))
   have HU:=hZ (twice_up xs i (by rw [HXl.out];exact hlt))
   have HV:=hZ (allB_up s xs (i+1))
   have G:=hZ (Box.new wr 29 #[.int .u64 ((xs.getD i default).1:Nat),.string (xs.getD i default).2])
   have Q:=hZ ((Q.out.keep HB.out).alloc (.cells #[.int .u64 ((xs.getD i default).1:Nat),.string (xs.getD i default).2] 29))
   have HB:=hZ (HB.out.alloc HB.out.size (.cells #[.int .u64 ((xs.getD i default).1:Nat),.string (xs.getD i default).2] 29))
   have HT:=hZ ((HX.out.take i (by omega)).mono (Nat.le_refl _) HB.out)
   have HH:=hZ (refHas_any (xs.getD i default).1 (some ⟨b,off,none⟩) i d (xs.take i) _ HT.out.drew (by unfold maxLen;omega))
   have i1:(i:Int)≤(d:Int):=by omega
   have i2:(i:Int)≤(l:Int):=by omega
   generalize xs.getD i default=p at *
   obtain⟨p0,p1⟩:=p
   dsimp only at x0 x1 G HB HN HM HU HH Q
   generalize hW2:wr.alloc (.cells #[.int .u64 (p0:Nat),.string p1] 29)=W2 at *
   clear r0 r1 r2 r3
   obtain⟨r0,r1,r2,r3,-,-,-,-⟩:=Q.out.four
   obtain⟨g0,g1,-,-⟩:=G.out.two
   cases hs:((p1.size:Int)==s) with
   | false=>
     rw [hs] at HM
     have hs2:((p1.size:Int) != s)=true:=by simp [bne,hs]
     have HE:=hZ (show storeB k s c xs=false by rw [HST.out,HV.out (by rw [HM.out];simp)];simp)
     clear hs
     go_wp2_with fail
     clear hW2
     go_quiet (fail)
     go_wp2_with fail
     go_ret
     exact⟨by rw [HE.out];rfl,chain HB0.out (bdN HB.out _)⟩
   | true=>
     rw [hs] at HM
     have hs2:((p1.size:Int) != s)=false:=by simp [bne,hs]
     clear hs
     cases ht:hasI (xs.take i) p0 with
     | true=>
       rw [ht] at HH
       have HE:=hZ (show storeB k s c xs=false by rw [HST.out,HU.out ht];simp)
       clear ht
       go_wp2_with fail
       clear hW2
       go_region_with (go_at_call 94;refine HH.out.mono ?_;rintro e w1 ⟨rfl,hb1⟩;have HB:=hZ (chain HB.out.drew hb1);clear hb1)
       all_goals
        go_wp2_with fail
        go_ret
        exact⟨by rw [HE.out];rfl,chain HB0.out HB.out⟩
     | false=>
       rw [ht] at HH
       have HN2:=hZ (show allB s (xs.take (i+1))=true∧twiceTo xs (i+1)=false from ⟨by rw [HM.out,HS.out.1];rfl,by rw [HN.out,HS.out.2,ht];rfl⟩)
       clear ht
       go_wp2_with fail
       clear hW2
       go_region_with (go_at_call 94;refine HH.out.mono ?_;rintro e w1 ⟨rfl,hb1⟩;have HB:=hZ (chain HB.out.drew hb1);clear hb1)
       all_goals
        go_wp2_with fail
        go_roundw
        case rel=>exact⟨i+1,hlt,by go_num,HN2,HB⟩
        case measure=>simp [intOf]<;>omega
  ·obtain rfl:i=l:=Nat.le_antisymm hi (Nat.le_of_not_lt hlt)
   have hlt':¬ (i:Int)<(i:Int):=Int.lt_irrefl _
   have HA:=hZ (show allB s xs=true by have:=HS.out.1;rwa [List.take_of_length_le (by rw [HXl.out];exact Nat.le_refl _)] at this)
   have HW:=hZ (show twiceB xs=false by unfold twiceB;rw [HXl.out];exact HS.out.2)
   have HS2:=hZ (show storeB k s c xs=(sb&&decide ((i:Int)≤c)) by rw [HST.out,HA.out,HW.out,HXl.out];simp)
   have Q:=hZ (Q.out.keep HB.out)
   clear r0 r1 r2 r3
   obtain⟨r0,r1,r2,r3,-,-,-,-⟩:=Q.out.four
   cases sb with
   | false=>
     go_wp2_with fail
     refine (HSZ.out _).mono ?_
     rintro e w1 ⟨rfl,rfl⟩
     go_wp2_with fail
     go_ret
     exact⟨by rw [HS2.out];rfl,chain HB0.out HB.out⟩
   | true=>
     by_cases hic:(i:Int)≤c
     ·have t:decide ((i:Int)≤c)=true:=decide_eq_true hic
      rw [t] at HS2
      go_wp2_with fail
      refine (HSZ.out _).mono ?_
      rintro e w1 ⟨rfl,rfl⟩
      go_wp2_with fail
      go_ret
      exact⟨by rw [HS2.out];rfl,chain HB0.out HB.out⟩
     ·have t:decide ((i:Int)≤c)=false:=decide_eq_false hic
      rw [t] at HS2
      go_wp2_with fail
      refine (HSZ.out _).mono ?_
      rintro e w1 ⟨rfl,rfl⟩
      go_wp2_with fail
      go_ret
      exact⟨by rw [HS2.out];rfl,chain HB0.out HB.out⟩
def whyI (s c:Int) (xs:List SymR) (x:SymR):Int:=if (x.2.size:Int) != s then 2 else if hasI xs x.1 then 8 else if (xs.length:Int)==c then 7 else 0
set_option maxHeartbeats 1000000 in
theorem refWhy_any (k s c:Int) (A:Option Addr) (l d:Nat) (xs:List SymR) (x:SymR) (w:World) (hx:Syms w A l xs) (hl:l≤maxLen) :
  Calls Tryz.prog 57 #[.agg #[.int .i64 k,.int .i64 s,.int .i64 c,.slice A l d],.agg #[.int .u64 (x.1:Int),.string x.2]] w fun e w'=>e=.returned (.int .i64 (whyI s c xs x))∧Below w.heap.size w w':=by
 have b1:Below w.heap.size w ((w.alloc (.cells #[.int .i64 k,.int .i64 s,.int .i64 c,.slice A l d] 25)).alloc (.cells #[.int .u64 (x.1:Int),.string x.2] 29)):=((Below.refl _ _).alloc (Nat.le_refl _) _).alloc (by simp) _
 have Q0:=hZ ((Box.new w 25 #[.int .i64 k,.int .i64 s,.int .i64 c,.slice A l d]).alloc (.cells #[.int .u64 (x.1:Int),.string x.2] 29))
 have q1:=Box.new (w.alloc (.cells #[.int .i64 k,.int .i64 s,.int .i64 c,.slice A l d] 25)) 29 #[.int .u64 (x.1:Int),.string x.2]
 simp only [World.size_alloc] at q1
 obtain⟨r0,r1,r2,r3,-,-,-,-⟩:=Q0.out.four
 obtain⟨z0,z1,-,-⟩:=q1.two
 have HX:=hZ (refHas_any x.1 A l d xs _ (hx.below b1) hl)
 have HXl:=hZ hx.1
 have HB:=hZ b1
 clear hx q1 b1
 unfold whyI
 cases h1:((x.2.size:Int) != s) with
 | true=>
   go_enter Tryz.func57,Tryz.ntmps57
   go_wp2_with fail
   go_ret
   exact⟨rfl,HB.out⟩
 | false=>
   cases h2:hasI xs x.1 with
   | true=>
     rw [h2] at HX
     go_enter Tryz.func57,Tryz.ntmps57
     go_wp2_with fail
     refine HX.out.mono ?_
     rintro e w1 ⟨rfl,hb⟩
     have HB:=hZ (chain HB.out hb)
     clear hb
     go_wp2_with fail
     go_ret
     exact⟨rfl,HB.out⟩
   | false=>
     rw [h2] at HX
     rw [HXl.out]
     cases h3:((l:Int)==c) with
     | true=>
       go_enter Tryz.func57,Tryz.ntmps57
       go_wp2_with fail
       refine HX.out.mono ?_
       rintro e w1 ⟨rfl,hb⟩
       have HB:=hZ (chain HB.out hb)
       have Q0:=hZ (Q0.out.keep hb)
       clear hb r0 r1 r2 r3
       obtain⟨r0,r1,r2,r3,-,-,-,-⟩:=Q0.out.four
       go_wp2_with fail
       go_ret
       exact⟨rfl,HB.out⟩
     | false=>
       go_enter Tryz.func57,Tryz.ntmps57
       go_wp2_with fail
       refine HX.out.mono ?_
       rintro e w1 ⟨rfl,hb⟩
       have HB:=hZ (chain HB.out hb)
       have Q0:=hZ (Q0.out.keep hb)
       clear hb r0 r1 r2 r3
       obtain⟨r0,r1,r2,r3,-,-,-,-⟩:=Q0.out.four
       go_wp2_with fail
       go_ret
       exact⟨rfl,HB.out⟩
end
section
/- Contracts of layer 12: New, Add. -/
open Go.RowKit
set_option maxRecDepth 100000
theorem Box.put4 {w:World} {g:Nat} {t:TypeId} {a b c d a' b' c' d':Value} (h:Box w g t #[a,b,c,d]) :
  Box ((((w.setCell ⟨g,0,none⟩ a').setCell ⟨g,1,none⟩ b').setCell ⟨g,2,none⟩ c').setCell ⟨g,3,none⟩ d') g t #[a',b',c',d']:=(((h.put 0 a').put 1 b').put 2 c').put 3 d'
theorem below_set4 {B:Nat} {w x:World} (h:Below B w x) {g:Nat} (hg:B≤g) (a b c d:Value):Below B w ((((x.setCell ⟨g,0,none⟩ a).setCell ⟨g,1,none⟩ b).setCell ⟨g,2,none⟩ c).setCell ⟨g,3,none⟩ d):=
 (((h.setCell (p:=⟨g,0,none⟩) hg a).setCell (p:=⟨g,1,none⟩) hg b).setCell (p:=⟨g,2,none⟩) hg c).setCell (p:=⟨g,3,none⟩) hg d
theorem Recs.far4 {α:Type} [Inhabited α] {enc:α→List Value} {sz:Nat} {w:World} {A:Option Addr} {len:Nat} {xs:List α} (h:Recs enc sz w A len xs) {g:Nat} (hne:∀ b off,A=some ⟨b,off,none⟩→0<len→b≠g) (a b c d:Value) :
  Recs enc sz ((((w.setCell ⟨g,0,none⟩ a).setCell ⟨g,1,none⟩ b).setCell ⟨g,2,none⟩ c).setCell ⟨g,3,none⟩ d) A len xs:=(((h.farB hne 0 a).farB hne 1 b).farB hne 2 c).farB hne 3 d
def StoreOut (k s c:Int) (xs:List SymR) (er:Int) (w:World) (e:Ending) (w':World):Prop:=
 ∃ A d,e=.returned (.tuple #[.agg #[.int .i64 k,.int .i64 s,.int .i64 c,.slice A xs.length d],.int .i64 er])∧Syms w' A xs.length xs∧xs.length≤d∧d≤maxLen∧(A=none→d=0)∧Below w.heap.size w w'
def newK (b:Bool) (x:Int):Int:=if b then x else 0
def newE (b:Bool):Int:=if b then 0 else 2
set_option maxHeartbeats 1000000 in
theorem enew_any (k s c:Int) (w:World) :
  Calls Tryz.prog 64 #[.int .i64 k,.int .i64 s,.int .i64 c] w (StoreOut (newK (storeB k s c []) k) (newK (storeB k s c []) s) (newK (storeB k s c []) c) [] (newE (storeB k s c [])) w):=by
 have b1:Below w.heap.size w ((w.alloc (.cells #[.int .i64 0,.int .i64 0,.int .i64 0,.slice none 0 0] 25)).alloc (.cells #[.int .i64 k,.int .i64 s,.int .i64 c,.slice none 0 0] 25)):=((Below.refl _ _).alloc (Nat.le_refl _) _).alloc (by simp) _
 have Q0:=hZ ((Box.new w 25 #[.int .i64 0,.int .i64 0,.int .i64 0,.slice none 0 0]).alloc (.cells #[.int .i64 k,.int .i64 s,.int .i64 c,.slice none 0 0] 25))
 have q1:=Box.new (w.alloc (.cells #[.int .i64 0,.int .i64 0,.int .i64 0,.slice none 0 0] 25)) 25 #[.int .i64 k,.int .i64 s,.int .i64 c,.slice none 0 0]
 simp only [World.size_alloc] at q1
 have Q1:=hZ q1
 have HB:=hZ b1
 have HR:=hZ (fun w'=>eright_any k s c none 0 0 [] w' (Recs.nil _ _) (Nat.le_refl _) (by unfold maxLen;omega))
 clear q1 b1
 obtain⟨r0,r1,r2,r3,-,-,-,-⟩:=Q1.out.four
 cases hb:storeB k s c [] with
 | true=>
   rw [hb] at HR
   clear hb
   go_enter Tryz.func64,Tryz.ntmps64
   go_wp2_with fail
   refine (HR.out _).mono ?_
   rintro e x1 ⟨rfl,hb⟩
   replace HB:=hZ (chain HB.out hb)
   replace Q0:=hZ (Q0.out.keep hb)
   replace Q1:=hZ (Q1.out.keep hb)
   clear hb r0 r1 r2 r3
   obtain⟨r0,r1,r2,r3,-,-,-,-⟩:=Q1.out.four
   obtain⟨s0,s1,s2,s3,f0,f1,f2,f3⟩:=Q0.out.four
   go_wp2_with fail
   refine close_cell Tryz.results64 rfl rfl rfl Q0.out.put4 Tryz.underlying25 rfl (by kernel_rfl) ⟨none,0,rfl,Recs.nil _ _,Nat.le_refl _,Nat.zero_le _,fun _=>rfl,below_set4 HB.out (Nat.le_refl _) _ _ _ _⟩
 | false=>
   rw [hb] at HR
   clear hb
   go_enter Tryz.func64,Tryz.ntmps64
   go_wp2_with fail
   refine (HR.out _).mono ?_
   rintro e x1 ⟨rfl,hb⟩
   replace HB:=hZ (chain HB.out hb)
   replace Q0:=hZ (Q0.out.keep hb)
   clear hb r0 r1 r2 r3
   obtain⟨s0,s1,s2,s3,f0,f1,f2,f3⟩:=Q0.out.four
   go_wp2_with fail
   refine close_cell Tryz.results64 rfl rfl rfl Q0.out.put4 Tryz.underlying25 rfl (by kernel_rfl) ⟨none,0,rfl,Recs.nil _ _,Nat.le_refl _,Nat.zero_le _,fun _=>rfl,below_set4 HB.out (Nat.le_refl _) _ _ _ _⟩
section
variable (k s c:Int) (A:Option Addr) (l d g gx:Nat) (w:World) (xs:List SymR) (x:SymR)
theorem add1_any (hb:Box w g 25 #[.int .i64 k,.int .i64 s,.int .i64 c,.slice A l d]) (hx:Syms w A l xs) (hl:l≤d) (hd:d≤maxLen) :
  Calls Tryz.prog 112 #[.pointer (some ⟨g,0,none⟩)] w fun e w'=>e=.returned (.int .i64 (whenI (!storeB k s c xs) 1))∧Below w.heap.size w w':=by
 obtain⟨h0,h1,h2,h3,-,-,-,-⟩:=hb.four
 have HA:=hZ (eright_any k s c A l d xs w hx hl hd)
 generalize storeB k s c xs=b at *
 clear hx
 go_enter Tryz.func112,Tryz.ntmps112
 go_wp2_with fail
 refine HA.out.mono ?_
 rintro e w1 ⟨rfl,hb1⟩
 go_wp2_with fail
 refine (when_any (!b) 1 _).mono ?_
 rintro e w1 ⟨rfl,rfl⟩
 go_wp2_with fail
 go_ret
 exact⟨rfl,hb1⟩
theorem add2_any (hb:Box w g 25 #[.int .i64 k,.int .i64 s,.int .i64 c,.slice A l d]) (hbx:Box w gx 29 #[.int .u64 (x.1:Int),.string x.2]) :
  Calls Tryz.prog 113 #[.pointer (some ⟨gx,0,none⟩),.pointer (some ⟨g,0,none⟩)] w fun e w'=>e=.returned (.int .i64 (whenI ((x.2.size:Int) != s) 2))∧Below w.heap.size w w':=by
 obtain⟨h0,h1,h2,h3,-,-,-,-⟩:=hb.four
 obtain⟨z0,z1,-,-⟩:=hbx.two
 have HW:=hZ (when_any ((x.2.size:Int) != s) 2 w)
 generalize ht:((x.2.size:Int) != s)=t at *
 go_enter Tryz.func113,Tryz.ntmps113
 go_wp2_with fail
 refine HW.out.mono ?_
 rintro e w1 ⟨rfl,rfl⟩
 go_wp2_with fail
 go_ret
 exact⟨rfl,Below.refl _ _⟩
theorem add3_any (hb:Box w g 25 #[.int .i64 k,.int .i64 s,.int .i64 c,.slice A l d]) (hbx:Box w gx 29 #[.int .u64 (x.1:Int),.string x.2]) (hx:Syms w A l xs) (hl:l≤maxLen) :
  Calls Tryz.prog 114 #[.pointer (some ⟨g,0,none⟩),.pointer (some ⟨gx,0,none⟩)] w fun e w'=>e=.returned (.int .i64 (whenI (hasI xs x.1) 8))∧Below w.heap.size w w':=by
 obtain⟨h0,h1,h2,h3,-,-,-,-⟩:=hb.four
 obtain⟨z0,z1,-,-⟩:=hbx.two
 have HA:=hZ (ehas_any x.1 A l d xs w hx hl)
 generalize hasI xs x.1=t at *
 clear hx
 go_enter Tryz.func114,Tryz.ntmps114
 go_wp2_with fail
 refine HA.out.mono ?_
 rintro e w1 ⟨rfl,hb1⟩
 go_wp2_with fail
 refine (when_any t 8 _).mono ?_
 rintro e w1 ⟨rfl,rfl⟩
 go_wp2_with fail
 go_ret
 exact⟨rfl,hb1⟩
theorem add4_any (hb:Box w g 25 #[.int .i64 k,.int .i64 s,.int .i64 c,.slice A l d]) :
  Calls Tryz.prog 115 #[.pointer (some ⟨g,0,none⟩)] w fun e w'=>e=.returned (.int .i64 (whenI ((l:Int)==c) 7))∧Below w.heap.size w w':=by
 obtain⟨h0,h1,h2,h3,-,-,-,-⟩:=hb.four
 have HW:=hZ (when_any ((l:Int)==c) 7 w)
 generalize ht:((l:Int)==c)=t at *
 go_enter Tryz.func115,Tryz.ntmps115
 go_wp2_with fail
 refine HW.out.mono ?_
 rintro e w1 ⟨rfl,rfl⟩
 go_wp2_with fail
 go_ret
 exact⟨rfl,Below.refl _ _⟩
end
end
section
/- Contracts of layer 12: Add. -/
open Go.RowKit
set_option maxRecDepth 100000
theorem step_growsO {P:Program} {w:World} {ops:Array Oper} {o:Oper} {a:Act} {K:Act→World→Prop} {Q:Exit→Act→World→Prop} {E:Prop} (hgd:o.guard=none) (s x:Operand) (t:TypeId)
  (ho:o.op=.call { callee:=.builtin .append,args:=#[s,x],argTypes:=#[t,t] })
  (e:TypeId) (i:TypeInfo) (z:Value) (size bytes:Nat) (ht:P.underlying t=some (.slice e)) (hi:P.info? e=some i) (hz:i.zero=some z)
  (hsize:i.size=size) (hby:i.bytes=bytes) (hzs:z.cells.size=size) (hsz:0<size)
  (ao:Option Addr) (n cap:Nat) (olds:List Value) (hs:a.eval s=.slice ao n cap) (hnone:ao=none→n=0∧cap=0) (hlo:olds.length=n*size) (holds:∀ b,ao=some b→∀ j u,olds[j]?=some u→w.cell? (b.add j)=some u)
  (ad:Addr) (m c:Nat) (news:List Value) (hx:a.eval x=.slice (some ad) m c) (hl:news.length=m*size) (hnews:∀ j u,news[j]?=some u→w.cell? (ad.add j)=some u) (h1c:∀ u∈news,u.oneCell'=true)
  (hg:cap<n+m) (h63:n+m≤maxLen) (hbytes:(n+m)*bytes≤140737488355328)
  (h:∀ v' w',w'.ownsRow w.heap.size e size v' (n+m) (olds++news)→w.grownBy w' none→K (a.put o.dst v') w') :
  if Region.wanted o (yielded ops a.tmps)=true then Oper.wp P o a w K Q else E:=by
 have hw:Region.wanted o (yielded ops a.tmps)=true:=by simp [Region.wanted,hgd]
 rw [if_pos hw]
 unfold Oper.wp execOp
 cases ao with
 | some b=>
   obtain⟨v',w',hr,h2,h3⟩:=run_append_arg_grows (P:=P) w t o.type e i z size bytes ht hi hz hsize hby hzs hsz b n cap olds hlo (holds b rfl) ad m c news hl hnews hg h63 hbytes
   simp only [ho,resolve,invoke,builtin,Sem.run_bind,Sem.run_pure,Result.andThen_ok,List.map_toArray,List.map_cons,List.map_nil,hs,hx,hr]
   exact h v' w' h2 h3
 | none=>
   obtain⟨rfl,rfl⟩:=hnone rfl
   obtain rfl:olds=[]:=List.eq_nil_of_length_eq_zero (by simpa using hlo)
   obtain⟨v',w',hr,h2,h3,_⟩:=run_append_own (P:=P) w w.heap.size t o.type e i z size bytes ht hi hz hsize hby hzs hsz (.slice none 0 0) 0 [] (World.ownsRow_nil w _ e size) ad m c news hl hnews h1c h63 hbytes (Nat.le_refl _)
   simp only [ho,resolve,invoke,builtin,Sem.run_bind,Sem.run_pure,Result.andThen_ok,List.map_toArray,List.map_cons,List.map_nil,hs,hx,hr]
   exact h v' w' h2 h3
theorem news_drew12 {x:World} {o:Obj} {g:Nat} {L:List Value} (h:∀ j u,L[j]?=some u→(x.alloc o).cell? ((⟨g,0,none⟩:Addr).add j)=some u):∀ j u,L[j]?=some u→(x.alloc o).drew.cell? ((⟨g,0,none⟩:Addr).add j)=some u:=h
theorem below_grown12 {x w:World} {o:Obj} (h:(x.alloc o).drew.grownBy w none):Below x.heap.size x w:=
 (((Below.refl _ _).alloc (Nat.le_refl _) o).drew).grown h (by show _≤(x.alloc o).heap.size;simp) (fun k hk=>by cases hk)
theorem sym12_info:(Tryz.prog.info? 29).map (fun i=>(i.zero,i.size,i.bytes))=some (some (.agg #[.int .u64 0,.string ⟨#[]⟩]),2,24):=by kernel_rfl
def addAns (k s c:Int) (xs:List SymR) (x:SymR):List Int:=[whenI (!storeB k s c xs) 1,whenI ((x.2.size:Int) != s) 2,whenI (hasI xs x.1) 8,whenI ((xs.length:Int)==c) 7]
def addE (k s c:Int) (xs:List SymR) (x:SymR):Int:=if storeB k s c xs then whyI s c xs x else 1
theorem addAns_eq (k s c:Int) (xs:List SymR) (x:SymR):firstI (addAns k s c xs x)=addE k s c xs x:=by
 unfold addAns addE whyI
 cases storeB k s c xs<;>cases ((x.2.size:Int) != s)<;>cases hasI xs x.1<;>cases ((xs.length:Int)==c)<;>rfl
def addFs (g:Nat):Nat→Nat×Array Value:=fun j=>[(112,#[Value.pointer (some ⟨g,0,none⟩)]),(113,#[.pointer (some ⟨g+1,0,none⟩),.pointer (some ⟨g,0,none⟩)]),(114,#[.pointer (some ⟨g,0,none⟩),.pointer (some ⟨g+1,0,none⟩)]),(115,#[.pointer (some ⟨g,0,none⟩)])].getD j (0,#[])
def addCells (g:Nat):Array Value:=#[.func (.func 112) #[] #[.pointer (some ⟨g,0,none⟩)],.func (.func 113) #[] #[.pointer (some ⟨g+1,0,none⟩),.pointer (some ⟨g,0,none⟩)],.func (.func 114) #[] #[.pointer (some ⟨g,0,none⟩),.pointer (some ⟨g+1,0,none⟩)],.func (.func 115) #[] #[.pointer (some ⟨g,0,none⟩)]]
abbrev addW3 (k s c:Int) (A:Option Addr) (l d:Nat) (x:SymR) (w:World):World:=
 ((w.alloc (.cells #[.int .i64 k,.int .i64 s,.int .i64 c,.slice A l d] 25)).alloc (.cells #[.int .u64 (x.1:Int),.string x.2] 29)).alloc (.cells #[.int .i64 0,.int .i64 0,.int .i64 0,.slice none 0 0] 25)
abbrev addW (k s c:Int) (A:Option Addr) (l d:Nat) (x:SymR) (w:World):World:=
 (addW3 k s c A l d x w).alloc (.cells (addCells w.heap.size) 130)
theorem addW_three (k s c:Int) (A:Option Addr) (l d:Nat) (x:SymR) (w:World) :
  Box (addW k s c A l d x w) w.heap.size 25 #[.int .i64 k,.int .i64 s,.int .i64 c,.slice A l d]∧Box (addW k s c A l d x w) (w.heap.size+1) 29 #[.int .u64 (x.1:Int),.string x.2]∧Box (addW k s c A l d x w) (w.heap.size+2) 25 #[.int .i64 0,.int .i64 0,.int .i64 0,.slice none 0 0]∧Box (addW k s c A l d x w) (w.heap.size+3) 130 (addCells w.heap.size)∧Below w.heap.size w (addW k s c A l d x w):=by
 refine⟨?_,?_,?_,?_,?_⟩
 ·exact (((Box.new w _ _).alloc _).alloc _).alloc _
 ·have q:=((Box.new (w.alloc (.cells #[.int .i64 k,.int .i64 s,.int .i64 c,.slice A l d] 25)) 29 #[.int .u64 (x.1:Int),.string x.2]).alloc (.cells #[.int .i64 0,.int .i64 0,.int .i64 0,.slice none 0 0] 25)).alloc (.cells (addCells w.heap.size) 130)
  simpa only [World.size_alloc] using q
 ·have q:=(Box.new ((w.alloc (.cells #[.int .i64 k,.int .i64 s,.int .i64 c,.slice A l d] 25)).alloc (.cells #[.int .u64 (x.1:Int),.string x.2] 29)) 25 #[.int .i64 0,.int .i64 0,.int .i64 0,.slice none 0 0]).alloc (.cells (addCells w.heap.size) 130)
  simpa only [World.size_alloc] using q
 ·have q:=Box.new (addW3 k s c A l d x w) 130 (addCells w.heap.size)
  simpa only [World.size_alloc] using q
 ·exact ((((Below.refl _ _).alloc (Nat.le_refl _) _).alloc (by simp) _).alloc (by simp;omega) _).alloc (by simp;omega) _
theorem addAsked (k s c:Int) (A:Option Addr) (l d:Nat) (xs:List SymR) (x:SymR) (w:World) (hx:Syms w A l xs) (hl:l≤d) (hd:d≤maxLen) :
  AskedOf Tryz.prog (addW k s c A l d x w) (w.heap.size+3) 0 (addFs w.heap.size) (addAns k s c xs x):=by
 obtain⟨Q0,Q1,-,F,b1⟩:=addW_three k s c A l d x w
 have hX:=hx.below b1
 have hxl:=hx.1
 refine⟨F.lt,?_,?_,?_⟩
 ·intro j hj
  have hj:j<4:=hj
  rw [Nat.zero_add,F.cell j]
  match j,hj with
  | 0,_=>rfl
  | 1,_=>rfl
  | 2,_=>rfl
  | 3,_=>rfl
 ·intro j hj
  have hj:j<4:=hj
  match j,hj with
  | 0,_=>exact enters_of Tryz.func112 (by kernel_rfl) rfl
  | 1,_=>exact enters_of Tryz.func113 (by kernel_rfl) rfl
  | 2,_=>exact enters_of Tryz.func114 (by kernel_rfl) rfl
  | 3,_=>exact enters_of Tryz.func115 (by kernel_rfl) rfl
 ·intro j hj w' hb _
  have hj:j<4:=hj
  have q:=Q0.keep hb
  have q1:=Q1.keep hb
  have hX':=hX.below hb
  match j,hj with
  | 0,_=>exact add1_any k s c A l d w.heap.size w' xs q hX' hl hd
  | 1,_=>exact add2_any k s c A l d w.heap.size (w.heap.size+1) w' x q q1
  | 2,_=>exact add3_any k s c A l d w.heap.size (w.heap.size+1) w' xs x q q1 hX' (Nat.le_trans hl hd)
  | 3,_=>
    rw [← hxl] at q
    exact add4_any k s c A xs.length d w.heap.size w' q
theorem addE_ok {k s c:Int} {xs:List SymR} {x:SymR} (h:addE k s c xs x=0):storeB k s c xs=true∧(x.2.size:Int)=s∧hasI xs x.1=false∧(xs.length:Int)<c∧c≤64:=by
 unfold addE at h
 split at h
 case isFalse=>cases h
 case isTrue hs=>
  unfold whyI at h
  split at h
  case isTrue=>cases h
  case isFalse h1=>
   split at h
   case isTrue=>cases h
   case isFalse h2=>
    split at h
    case isTrue=>cases h
    case isFalse h3=>
     have h4:=hs
     unfold storeB kB at h4
     simp only [Bool.and_eq_true,decide_eq_true_eq] at h4
     simp at h1 h2 h3
     exact⟨hs,h1,by simpa using h2,by omega,h4.1.1.1.2.2⟩
set_option maxHeartbeats 2000000 in
theorem eadd_no (k s c:Int) (A:Option Addr) (l d:Nat) (xs:List SymR) (x:SymR) (w:World) (hx:Syms w A l xs) (hl:l≤d) (hd:d≤maxLen) (he:addE k s c xs x≠0) :
  Calls Tryz.prog 91 #[.agg #[.int .i64 k,.int .i64 s,.int .i64 c,.slice A l d],.agg #[.int .u64 (x.1:Int),.string x.2]] w (StoreOut 0 0 0 [] (addE k s c xs x) w):=by
 obtain⟨Q0,Q1,Q2,F,b1⟩:=addW_three k s c A l d x w
 have HC:=hZ (efirst_any (w.heap.size+3) 0 4 (addFs w.heap.size) (addAns k s c xs x) _ (by show 4≤100;omega) (addAsked k s c A l d xs x w hx hl hd))
 rw [addAns_eq,show (addAns k s c xs x).length=4 from rfl] at HC
 have HB:=hZ b1
 have HQ2:=hZ Q2
 generalize addE k s c xs x=er at *
 have t1:(er != 0)=true:=by simpa using he
 clear hx b1 Q0 Q1 Q2 F he
 go_enter Tryz.func91,Tryz.ntmps91
 go_wp2_with fail
 refine HC.out.mono ?_
 rintro e w1 ⟨rfl,hb⟩
 replace HB:=hZ (chain HB.out hb)
 replace HQ2:=hZ (HQ2.out.keep hb)
 clear hb HC
 obtain⟨s0,s1,s2,s3,f0,f1,f2,f3⟩:=HQ2.out.four
 go_wp2_with fail
 refine close_cell Tryz.results91 rfl rfl rfl HQ2.out.put4 Tryz.underlying25 rfl (by kernel_rfl) ⟨none,0,rfl,Recs.nil _ _,Nat.le_refl _,Nat.zero_le _,fun _=>rfl,below_set4 HB.out (by omega) _ _ _ _⟩
theorem own_cap {w:World} {base e size n c:Nat} {A:Option Addr} {xs:List Value} (h:w.ownsRow base e size (.slice A n c) n xs):n≤c∧c≤maxLen∧(A=none→c=0)∧(∀ b,A=some b→base≤b.block):=by
 rcases h.2 with ⟨hv,h0⟩ |⟨g,cap,cur,hv,hb,hh,hn,hm,-⟩
 ·injection hv with h1 h2 h3
  subst h1 h3 h0
  exact⟨Nat.le_refl _,Nat.zero_le _,fun _=>rfl,fun b hb=>by cases hb⟩
 ·injection hv with h1 h2 h3
  subst h1 h3
  exact⟨hn,hm,fun h=>(by cases h),fun b hb2=>by injection hb2 with hb2;subst hb2;exact hb⟩
theorem add_own {x w5:World} {o:Obj} {g n c5:Nat} {A5:Option Addr} {xs:List SymR} {y:SymR} {e:TypeId} (h:w5.ownsRow (x.alloc o).drew.heap.size e 2 (.slice A5 n c5) n (xs.flatMap encS++encS y)) (hg:g+4≤x.heap.size) :
  Syms w5 A5 n (xs++[y])∧n≤c5∧c5≤maxLen∧(A5=none→c5=0)∧∀ b off,A5=some ⟨b,off,none⟩→g+4≤b:=by
 obtain⟨h1,h2,h3,h4⟩:=own_cap h
 rw [← flat_snoc] at h
 refine⟨own_recs encS_len h (by omega),h1,h2,h3,fun b off hb=>?_⟩
 have:=h4 _ hb
 have e1:(x.alloc o).drew.heap.size=x.heap.size+1:=by show (x.alloc o).heap.size=_;simp
 rw [e1] at this
 have:x.heap.size+1≤b:=this
 omega
theorem add_close {w w6:World} {g n c5:Nat} {A5:Option Addr} {k s c:Int} {zs:List SymR} {u0 u1 u2 u3:Value} (hg:w.heap.size=g) (hb:Below g w w6) (hs:Syms w6 A5 n zs) (h1:n≤c5) (h2:c5≤maxLen) (h3:A5=none→c5=0) (h4:∀ b off,A5=some ⟨b,off,none⟩→g+4≤b) (hz:zs.length=n) :
  StoreOut k s c zs 0 w (.returned (.tuple #[.agg #[.int .i64 k,.int .i64 s,.int .i64 c,.slice A5 n c5],.int .i64 0])) ((((w6.setCell ⟨g+2,0,none⟩ u0).setCell ⟨g+2,1,none⟩ u1).setCell ⟨g+2,2,none⟩ u2).setCell ⟨g+2,3,none⟩ u3):=by
 subst hz
 subst hg
 refine⟨A5,c5,rfl,Recs.far4 hs (fun b off hb _=>by have:=h4 b off hb;omega) _ _ _ _,h1,h2,h3,below_set4 hb (by omega) _ _ _ _⟩
set_option maxHeartbeats 4000000 in
theorem eadd_yes (k s c:Int) (A:Option Addr) (l d:Nat) (xs:List SymR) (x:SymR) (w:World) (hx:Syms w A l xs) (hl:l≤d) (hd:d≤maxLen) (hn:A=none→d=0) (he:addE k s c xs x=0) :
  Calls Tryz.prog 91 #[.agg #[.int .i64 k,.int .i64 s,.int .i64 c,.slice A l d],.agg #[.int .u64 (x.1:Int),.string x.2]] w (StoreOut k s c (xs++[x]) 0 w):=by
 obtain⟨Q0,Q1,Q2,F,b1⟩:=addW_three k s c A l d x w
 have HC:=hZ (efirst_any (w.heap.size+3) 0 4 (addFs w.heap.size) (addAns k s c xs x) _ (by show 4≤100;omega) (addAsked k s c A l d xs x w hx hl hd))
 rw [addAns_eq,show (addAns k s c xs x).length=4 from rfl,he] at HC
 obtain⟨-,-,-,hlc,hc64⟩:=addE_ok he
 rw [hx.1] at hlc
 have HL:=hZ hx.1
 have hl64:l<64:=by omega
 have HB:=hZ b1
 have HQ0:=hZ Q0
 have HQ1:=hZ Q1
 have HQ2:=hZ Q2
 have HX:=hZ (hx.below b1)
 obtain⟨i0,hi,hz0,hz1,hz2⟩:=info_parts sym12_info
 have HI:=hZ hi
 have HZ0:=hZ hz0
 have HZ1:=hZ hz1
 have HZ2:=hZ hz2
 have hld:(l:Int)≤(d:Int):=by omega
 have hl0:(0:Int)≤(l:Int):=by omega
 have LO:=hZ (show (xs.flatMap encS).length=l*2 by rw [flat_len encS_len,HL.out])
 have LN:=hZ (show (encS x).length=1*2 from rfl)
 have a1:l<l+1:=by omega
 have a2:l+1≤maxLen:=by unfold maxLen;omega
 have a3:(l+1)*24≤140737488355328:=by omega
 have HA0:=hZ (show A=none→l=0∧l=0 from fun h=>by have:=hn h;omega)
 have HAd:=hZ (show ∀ ad:Addr,ad.add 0=ad from fun ad=>by unfold Addr.add;simp)
 clear hx b1 Q0 Q1 Q2 F he hi hz0 hz1 hz2 hd hc64 hlc
 go_enter Tryz.func91,Tryz.ntmps91
 go_wp2_with fail
 refine HC.out.mono ?_
 rintro e w1 ⟨rfl,hb⟩
 have HSZ:=hZ (show w.heap.size+4≤w1.heap.size by have:=hb.size;simpa using this)
 replace HB:=hZ (chain HB.out hb)
 replace HQ0:=hZ (HQ0.out.keep hb)
 replace HQ1:=hZ (HQ1.out.keep hb)
 replace HQ2:=hZ (HQ2.out.keep hb)
 replace HX:=hZ (HX.out.below hb)
 clear hb HC
 obtain⟨r0,r1,r2,r3,e0,e1,e2,e3⟩:=HQ0.out.four
 obtain⟨z0,z1,-,-⟩:=HQ1.out.two
 go_wp2_with fail
 have LH:=hZ ((HX.out.alloc (.cells #[.int .u64 (x.1:Int),.string x.2] 29)).drew.news encS_len (by omega))
 have NH:=hZ (news_drew12 (World.news_of_block (Box.new w1 29 #[.int .u64 (x.1:Int),.string x.2])))
 have NE:=hZ (encS_one x)
 obtain⟨-,-,-,q3,-,-,-,-⟩:=(HQ0.out.alloc (.cells #[.int .u64 (x.1:Int),.string x.2] 29)).four
 cases A with
 | none=>
   obtain⟨hl1,-⟩:=HA0.out rfl
   subst hl1
   go_region_law (first
    | (refine step_growsO rfl (.tmp 25) (.tmp 27) 23 rfl 29 i0 (.agg #[.int .u64 0,.string ⟨#[]⟩]) 2 24 Tryz.underlying23 HI.out HZ0.out HZ1.out HZ2.out rfl (by decide) none 0 0 (xs.flatMap encS) ?_ HA0.out LO.out LH.out ⟨w1.heap.size,0,none⟩ 1 1 (encS x) ?_ LN.out NH.out NE.out a1 a2 a3 ?_;simp [Act.eval,Act.put];simp [Act.eval,Act.put];intro v5 w5 hown hgrow;obtain⟨A5,c5,rfl,-⟩:=own_form hown;have hb5:=below_grown12 hgrow;have HB5:=hZ (chain HB.out hb5);have P0:=hZ (HQ0.out.keep hb5);have P2:=hZ (HQ2.out.keep hb5);have HO:=hZ (add_own hown HSZ.out);clear hown hgrow hb5;obtain⟨y0,y1,y2,y3,f0,f1,f2,f3⟩:=P0.out.four))
   all_goals
    have HB6:=hZ (HB5.out.setCell (p:=⟨w.heap.size,3,none⟩) (Nat.le_refl _) (.slice A5 (1) c5))
    have HS6:=hZ (Recs.farB HO.out.1 (g:=w.heap.size) (fun b off hb _=>by have:=HO.out.2.2.2.2 b off hb;omega) 3 (.slice A5 (1) c5))
    have P0:=hZ (show Box (w5.setCell ⟨w.heap.size,3,none⟩ (.slice A5 (1) c5)) w.heap.size 25 #[.int .i64 k,.int .i64 s,.int .i64 c,.slice A5 (1) c5] from P0.out.put 3 (.slice A5 (1) c5))
    have P2:=hZ (P2.out.far (p:=⟨w.heap.size,3,none⟩) (by simp) (.slice A5 (1) c5))
    clear y0 y1 y2 y3 f0 f1 f2 f3 r0 r1 r2 r3 e0 e1 e2 e3 q3
    generalize w5.setCell ⟨w.heap.size,3,none⟩ (.slice A5 (1) c5)=w6 at *
    obtain⟨r0,r1,r2,r3,-,-,-,-⟩:=P0.out.four
    obtain⟨s0,s1,s2,s3,f0,f1,f2,f3⟩:=P2.out.four
    go_wp2_with fail
    refine close_cell Tryz.results91 rfl rfl rfl P2.out.put4 Tryz.underlying25 rfl (by kernel_rfl) (add_close rfl HB6.out HS6.out HO.out.2.1 HO.out.2.2.1 HO.out.2.2.2.1 HO.out.2.2.2.2 (by rw [List.length_append,HL.out];rfl))
 | some ad=>
   go_region_law (first
    | (refine step_growsO rfl (.tmp 25) (.tmp 27) 23 rfl 29 i0 (.agg #[.int .u64 0,.string ⟨#[]⟩]) 2 24 Tryz.underlying23 HI.out HZ0.out HZ1.out HZ2.out rfl (by decide) (some ad) l l (xs.flatMap encS) ?_ HA0.out LO.out LH.out ⟨w1.heap.size,0,none⟩ 1 1 (encS x) ?_ LN.out NH.out NE.out a1 a2 a3 ?_;simp [Act.eval,Act.put];simp [Act.eval,Act.put];intro v5 w5 hown hgrow;obtain⟨A5,c5,rfl,-⟩:=own_form hown;have hb5:=below_grown12 hgrow;have HB5:=hZ (chain HB.out hb5);have P0:=hZ (HQ0.out.keep hb5);have P2:=hZ (HQ2.out.keep hb5);have HO:=hZ (add_own hown HSZ.out);clear hown hgrow hb5;obtain⟨y0,y1,y2,y3,f0,f1,f2,f3⟩:=P0.out.four))
   all_goals
    have HB6:=hZ (HB5.out.setCell (p:=⟨w.heap.size,3,none⟩) (Nat.le_refl _) (.slice A5 (l+1) c5))
    have HS6:=hZ (Recs.farB HO.out.1 (g:=w.heap.size) (fun b off hb _=>by have:=HO.out.2.2.2.2 b off hb;omega) 3 (.slice A5 (l+1) c5))
    have P0:=hZ (show Box (w5.setCell ⟨w.heap.size,3,none⟩ (.slice A5 (l+1) c5)) w.heap.size 25 #[.int .i64 k,.int .i64 s,.int .i64 c,.slice A5 (l+1) c5] from P0.out.put 3 (.slice A5 (l+1) c5))
    have P2:=hZ (P2.out.far (p:=⟨w.heap.size,3,none⟩) (by simp) (.slice A5 (l+1) c5))
    clear y0 y1 y2 y3 f0 f1 f2 f3 r0 r1 r2 r3 e0 e1 e2 e3 q3
    generalize w5.setCell ⟨w.heap.size,3,none⟩ (.slice A5 (l+1) c5)=w6 at *
    obtain⟨r0,r1,r2,r3,-,-,-,-⟩:=P0.out.four
    obtain⟨s0,s1,s2,s3,f0,f1,f2,f3⟩:=P2.out.four
    go_wp2_with fail
    refine close_cell Tryz.results91 rfl rfl rfl P2.out.put4 Tryz.underlying25 rfl (by kernel_rfl) (add_close rfl HB6.out HS6.out HO.out.2.1 HO.out.2.2.1 HO.out.2.2.2.1 HO.out.2.2.2.2 (by rw [List.length_append,HL.out];rfl))
end
section
/- Contracts of layer 12: the reference's Add, Bytes. -/
open Go.RowKit
set_option maxRecDepth 100000
theorem Syms.news1 {w:World} {A:Option Addr} {l:Nat} {xs:List SymR} (h:Syms w A l xs):∀ ad,A=some ad→∀ j u,(xs.flatMap encS)[j]?=some u→w.cell? (ad.add j)=some u:=Recs.news h encS_len (by omega)
def StoreOne (k s c:Int) (xs:List SymR) (w:World) (e:Ending) (w':World):Prop:=
 ∃ A d,e=.returned (.agg #[.int .i64 k,.int .i64 s,.int .i64 c,.slice A xs.length d])∧Syms w' A xs.length xs∧xs.length≤d∧d≤maxLen∧(A=none→d=0)∧(∀ b off,A=some ⟨b,off,none⟩→w.heap.size≤b)∧Below w.heap.size w w'
abbrev raW (k s c:Int) (A:Option Addr) (l d:Nat) (x:SymR) (w:World):World:=
 (addW3 k s c A l d x w).alloc (.cells #[.int .i64 k,.int .i64 s,.int .i64 c,.slice none 0 0] 25)
theorem raW_four (k s c:Int) (A:Option Addr) (l d:Nat) (x:SymR) (w:World) :
  Box (raW k s c A l d x w) w.heap.size 25 #[.int .i64 k,.int .i64 s,.int .i64 c,.slice A l d]∧Box (raW k s c A l d x w) (w.heap.size+1) 29 #[.int .u64 (x.1:Int),.string x.2]∧Box (raW k s c A l d x w) (w.heap.size+2) 25 #[.int .i64 0,.int .i64 0,.int .i64 0,.slice none 0 0]∧Box (raW k s c A l d x w) (w.heap.size+3) 25 #[.int .i64 k,.int .i64 s,.int .i64 c,.slice none 0 0]∧Below w.heap.size w (raW k s c A l d x w):=by
 refine⟨?_,?_,?_,?_,?_⟩
 ·exact (((Box.new w _ _).alloc _).alloc _).alloc _
 ·have q:=((Box.new (w.alloc (.cells #[.int .i64 k,.int .i64 s,.int .i64 c,.slice A l d] 25)) 29 #[.int .u64 (x.1:Int),.string x.2]).alloc (.cells #[.int .i64 0,.int .i64 0,.int .i64 0,.slice none 0 0] 25)).alloc (.cells #[.int .i64 k,.int .i64 s,.int .i64 c,.slice none 0 0] 25)
  simpa only [World.size_alloc] using q
 ·have q:=(Box.new ((w.alloc (.cells #[.int .i64 k,.int .i64 s,.int .i64 c,.slice A l d] 25)).alloc (.cells #[.int .u64 (x.1:Int),.string x.2] 29)) 25 #[.int .i64 0,.int .i64 0,.int .i64 0,.slice none 0 0]).alloc (.cells #[.int .i64 k,.int .i64 s,.int .i64 c,.slice none 0 0] 25)
  simpa only [World.size_alloc] using q
 ·have q:=Box.new (addW3 k s c A l d x w) 25 #[.int .i64 k,.int .i64 s,.int .i64 c,.slice none 0 0]
  simpa only [World.size_alloc] using q
 ·exact ((((Below.refl _ _).alloc (Nat.le_refl _) _).alloc (by simp) _).alloc (by simp;omega) _).alloc (by simp;omega) _
theorem raW_size (k s c:Int) (A:Option Addr) (l d:Nat) (x:SymR) (w:World):(raW k s c A l d x w).heap.size=w.heap.size+4:=by simp
theorem own_row_ne {w:World} {base e size n g:Nat} {v:Value} {xs:List Value} (h:w.ownsRow base e size v n xs) (hg:g<base):v.ownBlock≠some g:=fun e=>absurd (h.lt g e).1 (by omega)
theorem own_row_le {w:World} {base e size n:Nat} {v:Value} {xs:List Value} (h:w.ownsRow (base+4) e size v n xs):∀ k,v.ownBlock=some k→base≤k:=fun k hk=>by have:=(h.lt k hk).1;omega
theorem own_out {w5:World} {g n c5:Nat} {A5:Option Addr} {xs:List SymR} {y:SymR} {e:TypeId} (h:w5.ownsRow (g+4) e 2 (.slice A5 n c5) n (xs.flatMap encS++encS y)) :
  Syms w5 A5 n (xs++[y])∧n≤c5∧c5≤maxLen∧(A5=none→c5=0)∧∀ b off,A5=some ⟨b,off,none⟩→g+4≤b:=by
 obtain⟨h1,h2,h3,h4⟩:=own_cap h
 rw [← flat_snoc] at h
 exact⟨own_recs encS_len h (by omega),h1,h2,h3,fun b off hb=>h4 _ hb⟩
theorem second_append {w w5:World} {A5:Option Addr} {l c5:Nat} {cs1 cs2 cs3:Array Value} {T1 T2 T3 e:TypeId} {xs:List SymR} {x:SymR} (hz:w.heap.size+4≤w5.heap.size) (hb:Below w.heap.size w w5) (p1:Box w5 (w.heap.size+1) T1 cs1) (p2:Box w5 (w.heap.size+2) T2 cs2) (p3:Box w5 (w.heap.size+3) T3 cs3)
  (ho:w5.ownsRow (w.heap.size+4) e 2 (.slice A5 l c5) l (xs.flatMap encS)) (hne:e≠T3) :
  ((w5.setCell ⟨w.heap.size+3,3,none⟩ (.slice A5 l c5)).alloc (.cells #[.int .u64 (x.1:Int),.string x.2] 29)).ownsRow (w.heap.size+4) e 2 (.slice A5 l c5) l (xs.flatMap encS) ∧
  (∀ j u,(encS x)[j]?=some u→((w5.setCell ⟨w.heap.size+3,3,none⟩ (.slice A5 l c5)).alloc (.cells #[.int .u64 (x.1:Int),.string x.2] 29)).cell? ((⟨w5.heap.size,0,none⟩:Addr).add j)=some u) ∧
  w.heap.size+4≤((w5.setCell ⟨w.heap.size+3,3,none⟩ (.slice A5 l c5)).alloc (.cells #[.int .u64 (x.1:Int),.string x.2] 29)).heap.size ∧
  Box ((w5.setCell ⟨w.heap.size+3,3,none⟩ (.slice A5 l c5)).alloc (.cells #[.int .u64 (x.1:Int),.string x.2] 29)) (w.heap.size+2) T2 cs2 ∧
  Box ((w5.setCell ⟨w.heap.size+3,3,none⟩ (.slice A5 l c5)).alloc (.cells #[.int .u64 (x.1:Int),.string x.2] 29)) (w.heap.size+3) T3 (cs3.setIfInBounds 3 (.slice A5 l c5)) ∧
  Below w.heap.size w ((w5.setCell ⟨w.heap.size+3,3,none⟩ (.slice A5 l c5)).alloc (.cells #[.int .u64 (x.1:Int),.string x.2] 29)):=by
 have e1:(w5.setCell ⟨w.heap.size+3,3,none⟩ (.slice A5 l c5)).heap.size=w5.heap.size:=by simp [World.setCell]
 refine⟨World.ownsRow.alloc (own_far ho p3 hne 3 _) _,?_,?_,(p2.far (p:=⟨w.heap.size+3,3,none⟩) (by simp) _).alloc _,(p3.put 3 _).alloc _,?_⟩
 ·have:=World.news_of_block (Box.new (w5.setCell ⟨w.heap.size+3,3,none⟩ (.slice A5 l c5)) 29 #[.int .u64 (x.1:Int),.string x.2])
  rw [e1] at this
  exact this
 ·rw [World.size_alloc,e1];omega
 ·refine (hb.setCell (p:=⟨w.heap.size+3,3,none⟩) (by show w.heap.size≤w.heap.size+3;omega) _).alloc ?_ _
  rw [e1];omega
theorem add_close1 {w w7:World} {l c7:Nat} {A7:Option Addr} {k s c:Int} {xs:List SymR} {x:SymR} {u0 u1 u2 u3 u:Value} (hb:Below w.heap.size w w7) (h:Syms w7 A7 (l+1) (xs++[x])∧l+1≤c7∧c7≤maxLen∧(A7=none→c7=0)∧∀ b off,A7=some ⟨b,off,none⟩→w.heap.size+4≤b) (hl:xs.length=l) :
  StoreOne k s c (xs++[x]) w (.returned (.agg #[.int .i64 k,.int .i64 s,.int .i64 c,.slice A7 (l+1) c7])) (((((w7.setCell ⟨w.heap.size+3,3,none⟩ u).setCell ⟨w.heap.size+2,0,none⟩ u0).setCell ⟨w.heap.size+2,1,none⟩ u1).setCell ⟨w.heap.size+2,2,none⟩ u2).setCell ⟨w.heap.size+2,3,none⟩ u3):=by
 have e:(xs++[x]).length=l+1:=by rw [List.length_append,hl];rfl
 unfold StoreOne
 rw [e]
 refine⟨A7,c7,rfl,Recs.far4 (Recs.farB h.1 (fun b off hb _=>?_) _ _) (fun b off hb _=>?_) _ _ _ _,h.2.1,h.2.2.1,h.2.2.2.1,fun b off hb=>by (have:=h.2.2.2.2 b off hb;omega),below_set4 (hb.setCell (p:=⟨w.heap.size+3,3,none⟩) (by show w.heap.size≤w.heap.size+3;omega) _) (by omega) _ _ _ _⟩
 ·have:=h.2.2.2.2 b off hb;omega
 ·have:=h.2.2.2.2 b off hb;omega
set_option maxHeartbeats 4000000 in
theorem refAdd12_any (k s c:Int) (A:Option Addr) (l d:Nat) (xs:List SymR) (x:SymR) (w:World) (hx:Syms w A l xs) (hl:l≤64) :
  Calls Tryz.prog 58 #[.agg #[.int .i64 k,.int .i64 s,.int .i64 c,.slice A l d],.agg #[.int .u64 (x.1:Int),.string x.2]] w (StoreOne k s c (xs++[x]) w):=by
 obtain⟨Q0,Q1,Q2,Q3,b1⟩:=raW_four k s c A l d x w
 have SZ:=hZ (raW_size k s c A l d x w)
 have HL:=hZ hx.1
 have HN:=hZ (show A=none→l=0 from fun h=>by subst h;exact hx.none_.1)
 have HX:=hZ (hx.below b1)
 have HB:=hZ b1
 have HQ1:=hZ Q1
 have HQ2:=hZ Q2
 have HQ3:=hZ Q3
 have HE1:=hZ (flat_one (xs:=xs) encS_one)
 have HE2:=hZ (encS_one x)
 obtain⟨i0,hi,hz0,hz1,hz2⟩:=info_parts sym12_info
 have HI:=hZ hi
 have HZ0:=hZ hz0
 have HZ1:=hZ hz1
 have HZ2:=hZ hz2
 have LO:=hZ (show (xs.flatMap encS).length=l*2 by rw [flat_len encS_len,HL.out])
 have LN:=hZ (show (encS x).length=1*2 from rfl)
 have a1:0+l≤maxLen:=by unfold maxLen;omega
 have a2:(0+l)*24≤140737488355328:=by omega
 have a3:l+1≤maxLen:=by unfold maxLen;omega
 have a4:(l+1)*24≤140737488355328:=by omega
 have NH:=hZ (Syms.news1 HX.out)
 have ON:=hZ (World.ownsRow_nil (raW k s c A l d x w) (w.heap.size+4) 29 2)
 obtain⟨r0,r1,r2,r3,-,-,-,-⟩:=Q0.four
 obtain⟨y0,y1,y2,y3,f0,f1,f2,f3⟩:=Q3.four
 clear hx b1 Q0 Q1 Q2 Q3 hi hz0 hz1 hz2
 go_enter Tryz.func58,Tryz.ntmps58
 go_wp2_with (first
  | (at_builtin;refine wpList_opt rfl _ _ 23 rfl (w.heap.size+4) 29 i0 (.agg #[.int .u64 0,.string ⟨#[]⟩]) 2 24 Tryz.underlying23 HI.out HZ0.out HZ1.out HZ2.out rfl (by decide) (.slice none 0 0) 0 [] ?_ ON.out A l d (xs.flatMap encS) ?_ LO.out HN.out NH.out HE1.out a1 a2 (Nat.le_of_eq SZ.out.symm) ?_;simp [Act.eval,Act.put];simp [Act.eval,Act.put];intro v5 w5 hown hgrow;rw [Nat.zero_add,List.nil_append] at hown;obtain⟨A5,c5,rfl,-⟩:=own_form hown;have P1:=hZ (HQ1.out.grown hgrow (by intro h;cases h));have P2:=hZ (HQ2.out.grown hgrow (by intro h;cases h));have P3:=hZ (HQ3.out.grown hgrow (by intro h;cases h));have HB5:=hZ (HB.out.grown hgrow HB.out.size (fun k hk=>by cases hk));have SZ5:=hZ (show w.heap.size+4≤w5.heap.size by have:=hgrow.size;simp only [World.size_alloc] at this;omega);have M:=hZ (second_append (x:=x) SZ5.out HB5.out P1.out P2.out P3.out hown (by decide));clear hown hgrow r0 r1 r2 r3 y0 y1 y2 y3 f0 f1 f2 f3;obtain⟨y0,y1,y2,y3,f0,f1,f2,f3⟩:=P3.out.four;obtain⟨z0,z1,-,-⟩:=P1.out.two)
  | (at_builtin;refine wpList_append_own _ rfl _ _ 23 rfl (w.heap.size+4) 29 i0 (.agg #[.int .u64 0,.string ⟨#[]⟩]) 2 24 Tryz.underlying23 HI.out HZ0.out HZ1.out HZ2.out rfl (by decide) (.slice A5 l c5) l (xs.flatMap encS) ?_ M.out.1 ⟨w5.heap.size,0,none⟩ 1 1 (encS x) ?_ LN.out M.out.2.1 HE2.out a3 a4 M.out.2.2.1 ?_;simp [Act.eval,Act.put];simp [Act.eval,Act.put];intro v7 w7 hown hgrow _;obtain⟨A7,c7,rfl,-⟩:=own_form hown;have R2:=hZ (M.out.2.2.2.1.grown hgrow (own_row_ne M.out.1 (by omega)));have R3:=hZ (M.out.2.2.2.2.1.grown hgrow (own_row_ne M.out.1 (by omega)));have HB7:=hZ (M.out.2.2.2.2.2.grown hgrow M.out.2.2.2.2.2.size (own_row_le M.out.1));have HO7:=hZ (own_out hown);clear hown hgrow y0 y1 y2 y3 f0 f1 f2 f3;obtain⟨y0,y1,y2,y3,f0,f1,f2,f3⟩:=R3.out.four;obtain⟨s0,s1,s2,s3,g0,g1,g2,g3⟩:=R2.out.four))
 refine close_one Tryz.results58 rfl rfl (R2.out.far (p:=⟨w.heap.size+3,3,none⟩) (by simp) (.slice A7 (l+1) c7)).put4 Tryz.underlying25 rfl (by kernel_rfl) ?_
 exact add_close1 HB7.out HO7.out HL.out
end
section
/- Law 12: few, alive. -/
open Go.RowKit
set_option maxRecDepth 100000
def cutX (s:ByteArray):ByteArray:=s.extract 0 (min s.size 66)
theorem cutX_min (s:ByteArray) (m:Nat) (hm:(m:Int)=min (s.size:Int) 66):s.extract 0 m=cutX s:=by
 unfold cutX
 congr 1
 omega
theorem cutX_id (s:ByteArray) (h:s.size≤66):s=cutX s:=by
 have:=cutX_min s s.size (by omega)
 rw [← this,ByteArray.extract_zero_size]
end
section
/- A law of one's own for a region that draws its order: its first operations are taken while some cells are held (a call that makes memory among them), the last ones, which may write those very cells, come one after the other. No program. -/
section
variable {P:Program} {ops:Array Oper} {Q:Exit→Act→World→Prop} {md:Region.Mode} {S:World→Prop}
def headH (P:Program) (md:Region.Mode) (ops:Array Oper) (Q:Exit→Act→World→Prop) (S:World→Prop) (m:Nat) (L:Array Bool→Act→World→Prop):Nat→Array Bool→Act→World→Prop
 | 0,listed,a,w=>L listed a w
 | f+1,listed,a,w=>Region.ready md ops listed≠[]∧∀ i∈Region.ready md ops listed,i<m∧wpOp P ops Q i (fun a' w'=>S w'∧headH P md ops Q S m L f (listed.setIfInBounds i true) a' w') a w
theorem any_of_headH {m g:Nat} {L:Array Bool→Act→World→Prop} (hL:∀ listed a w,L listed a w→wpAny P md ops Q g listed a w) :
  ∀ (f:Nat) (listed:Array Bool) (a:Act) (w:World),headH P md ops Q S m L f listed a w→wpAny P md ops Q (f+g) listed a w
 | 0,listed,a,w,h=>by rw [Nat.zero_add];exact hL _ _ _ h
 | f+1,listed,a,w,h=>by
   rw [show f+1+g=(f+g)+1 by omega]
   exact⟨fun h0=>absurd h0 h.1,fun i hi=>wpOp_mono (fun a' w' h'=>any_of_headH hL f _ a' w' h'.2) (h.2 i hi).2⟩
theorem headH_first {m i:Nat} {oi:Oper} {v:Value} {L:Array Bool→Act→World→Prop} (hi:ops[i]?=some oi) (hsel:∀ (j:Nat) (o:Oper) cs b,ops[j]?=some o→o.op≠.select cs b)
  (hw:∀ listed,HeadInv md ops m listed→∀ i,i<m→listed.getD i true=false→∀ t,m≤t→t ∉ Region.ready md ops listed) (him:i<m)
  (hQ:∀ c a w,Q (.panic c) (a.put oi.dst v) w→Q (.panic c) a w) (hdone:∀ listed a w,L listed a w→∀ j∈Region.ready md ops listed,m≤j) :
  ∀ (f:Nat) (listed:Array Bool) (a:Act) (w:World),HeadInv md ops m listed →
   (∀ j oj,ops[j]?=some oj→j≠i→listed.getD j true=false→(∀ e∈oj.after,Region.binds md e=true→e.on≠i)→oi.apart ops oj=true) →
   i∈Region.ready md ops listed→YieldsIf P ops S oi v a→S w →
   headH P md ops Q S m L f (listed.setIfInBounds i true) (a.put oi.dst v) w→headH P md ops Q S m L (f+1) listed a w:=by
 intro f
 induction f with
 | zero=>
   intro listed a w inv _ hr hy hS H
   have hun:=(mem_ready.1 hr).1
   refine⟨fun h=>(by rw [h] at hr;cases hr),fun j hj=>?_⟩
   have hjm:j<m:=by
    rcases Nat.lt_or_ge j m with h | h
    ·exact h
    ·exact absurd hj (hw listed inv i him hun j h)
   refine⟨hjm,?_⟩
   by_cases hji:j=i
   ·subst hji;exact hy.wpOp hi hS ⟨hS,H⟩
   ·have:=hdone _ _ _ H j (ready_mono hj hji)
    omega
 | succ f ih=>
   intro listed a w inv hfree hr hy hS H
   have hun:=(mem_ready.1 hr).1
   refine⟨fun h=>(by rw [h] at hr;cases hr),fun j hj=>?_⟩
   have hjm:j<m:=by
    rcases Nat.lt_or_ge j m with h | h
    ·exact h
    ·exact absurd hj (hw listed inv i him hun j h)
   refine⟨hjm,?_⟩
   by_cases hji:j=i
   ·subst hji;exact hy.wpOp hi hS ⟨hS,H⟩
   ·have h1:=(H.2 j (ready_mono hj hji)).2
    obtain⟨hjun,oj,hoj,hall⟩:=mem_ready.1 hj
    have hnot:∀ e∈oj.after,Region.binds md e=true→e.on≠i:=fun e he hb heq=>by
     have h1:=hall e he hb
     rw [heq,getD_both hun] at h1
     cases h1
    have h2:=wpOp_putIf hoj (hfree j oj hoj hji hjun hnot) (fun cs b=>hsel i oi cs b hi) (fun cs b=>hsel j oj cs b hoj) hQ hy h1
    have hfree':∀ k ok,ops[k]?=some ok→k≠i→(listed.setIfInBounds j true).getD k true=false →
      (∀ e∈ok.after,Region.binds md e=true→e.on≠i)→oi.apart ops ok=true:=fun k ok hk hki hun hno=>by
     refine hfree k ok hk hki ?_ hno
     by_cases hjk:j=k
     ·subst hjk;exact hjun
     ·rw [getD_set_ne true hjk] at hun;exact hun
    refine wpOp_mono (fun a' w' h3=>⟨h3.2.1,ih (listed.setIfInBounds j true) a' w' (inv.set hj hjm) hfree' (ready_mono hr (Ne.symm hji)) h3.1 h3.2.1 ?_⟩) h2
    rw [Array.setIfInBounds_comm _ _ hji]
    exact h3.2.2
def headB (md:Region.Mode) (ops:Array Oper) (m:Nat) (listed:Array Bool):Bool:=
 (listed.size==ops.size)&&((List.range ops.size).all fun j=>match ops[j]? with | some oj=>!listed.getD j false||(oj.after.all fun e=>!Region.binds md e||listed.getD e.on false) | none=>true)&&((List.range ops.size).all fun t=>decide (t<m)||!listed.getD t true)
theorem headB_inv {m:Nat} {listed:Array Bool} (h:headB md ops m listed=true):HeadInv md ops m listed:=by
 simp only [headB,Bool.and_eq_true,beq_iff_eq,List.all_eq_true,List.mem_range,Bool.or_eq_true,decide_eq_true_eq,Bool.not_eq_true'] at h
 obtain⟨⟨h1,h2⟩,h3⟩:=h
 refine⟨h1,fun j oj hj hl e he hb=>?_,fun t ht ht'=>?_⟩
 ·have hlt:j<ops.size:=(Array.getElem?_eq_some_iff.1 hj).1
  have:=h2 j hlt
  simp only [hj,hl,Bool.not_true,Bool.false_or,Array.all_eq_true'] at this
  have:=this e he
  simpa [hb] using this
 ·rcases h3 t ht' with h | h
  ·omega
  ·exact h
theorem headH_take {m i:Nat} {oi:Oper} {v:Value} {f:Nat} {listed:Array Bool} {a:Act} {w:World} {L:Array Bool→Act→World→Prop} (hi:ops[i]?=some oi)
  (hall:(Region.noSelect ops&&Region.sinkB md ops m&&Region.chainB md ops m&&decide (m<ops.size)&&decide (i<m)&&headB md ops m listed&&Region.free md ops listed i&&(Region.ready md ops listed).contains i)=true)
  (hQ:∀ c a w,Q (.panic c) (a.put oi.dst v) w→Q (.panic c) a w) (hdone:∀ listed a w,L listed a w→∀ j∈Region.ready md ops listed,m≤j)
  (hy:YieldsIf P ops S oi v a) (hS:S w) (h:headH P md ops Q S m L f (listed.setIfInBounds i true) (a.put oi.dst v) w):headH P md ops Q S m L (f+1) listed a w:=by
 simp only [Bool.and_eq_true,decide_eq_true_eq] at hall
 obtain⟨⟨⟨⟨⟨⟨⟨h1,h2⟩,h3⟩,h4⟩,h5⟩,h6⟩,h7⟩,h8⟩:=hall
 exact headH_first hi (Region.noSelect_spec h1) (fun listed inv i him hun t ht=>tail_waits h2 h3 h4 inv _ i rfl him hun t ht) h5 hQ hdone f listed a w (headB_inv h6) (Region.free_spec hi h7) (by simpa using h8) hy hS h
def barB (md:Region.Mode) (ops:Array Oper) (m:Nat):Bool:=(List.range ops.size).all fun t=>decide (t<m)||((List.range m).all fun i=>Region.waitsFor md ops t i)
theorem bar_waits {m:Nat} (h:barB md ops m=true) (listed:Array Bool) (i:Nat) (him:i<m) (hun:listed.getD i true=false) (t:Nat) (ht:m≤t):t ∉ Region.ready md ops listed:=by
 intro hr
 obtain⟨_,ot,hot,hall⟩:=mem_ready.1 hr
 have htlt:t<ops.size:=(Array.getElem?_eq_some_iff.1 hot).1
 simp only [barB,List.all_eq_true,List.mem_range,Bool.or_eq_true,decide_eq_true_eq] at h
 rcases h t htlt with h1 | h1
 ·omega
 ·obtain⟨o',ho',e,he,hb,hon⟩:=Region.waitsFor_spec (h1 i him)
  have:o'=ot:=Option.some.inj (ho'.symm.trans hot)
  subst this
  have h2:=hall e he hb
  rw [hon,getD_both hun] at h2
  cases h2
def passedB (m:Nat) (listed:Array Bool):Bool:=(List.range m).all fun i=>listed.getD i false
theorem passed_ready {m:Nat} {listed:Array Bool} (h:passedB m listed=true):∀ j∈Region.ready md ops listed,m≤j:=by
 intro j hj
 obtain⟨hun,oj,hoj,-⟩:=mem_ready.1 hj
 refine Nat.le_of_not_lt fun hlt=>?_
 have:=List.all_eq_true.1 h j (List.mem_range.2 hlt)
 rw [getD_both hun] at this
 cases this
theorem headH_one {m i:Nat} {o:Oper} {f:Nat} {listed:Array Bool} {a:Act} {w:World} {L:Array Bool→Act→World→Prop} (hr:(Region.ready md ops listed==[i]&&decide (i<m))=true) (ho:ops[i]?=some o)
  (h:∀ K':Act→World→Prop,Shut (∀ a w,S w→(S w→headH P md ops Q S m L f (listed.setIfInBounds i true) a w)→K' a w)→if Region.wanted o (yielded ops a.tmps)=true then Oper.wp P o a w K' Q else K' (a.put o.dst undef) w):headH P md ops Q S m L (f+1) listed a w:=by
 simp only [Bool.and_eq_true,beq_iff_eq,decide_eq_true_eq] at hr
 refine⟨by rw [hr.1];simp,fun j hj=>?_⟩
 rw [hr.1] at hj
 have hji:j=i:=by simpa using hj
 subst hji
 exact⟨hr.2,wpOp_step ho (fun K' hK=>h K' (fun a w hS hW=>hK a w ⟨hS,hW hS⟩))⟩
theorem wp_held_tail {id:Nat} {a:Act} {w:World} {l:List Oper} (m:Nat) (hmx:P.follows .mixedOrders=true) (hm:m≤l.length)
  (h:headH P .any l.toArray Q S m (fun listed a w=>Region.seqB .any l.toArray (l.length-m) m listed=true∧wpList P l.toArray Q (l.drop m) a w) m (Array.replicate l.toArray.size false) a w.drew):(Code.region id l.toArray true).wp P Q a w:=by
 refine wp_region_any hmx ?_
 have:=any_of_headH (g:=l.length-m) (fun listed a' w' hL=>by
  have hdl:(l.drop m).length=l.length-m:=by simp
  have:=wpAny_of_seq (md:=.any) (Q':=Q) (l.drop m) m listed a' w' (fun j=>by simp [List.getElem?_drop]) (by rw [hdl];exact hL.1) hL.2
  rwa [hdl] at this) _ _ _ _ h
 rw [show m+(l.length-m)=l.toArray.size by simp;omega] at this
 exact this
end
end
section
/- The law of HTail where one store of the head (number k) writes what earlier loads have read: some cells are held till it has come, others to the head's end. No program. -/
section
variable {P:Program} {ops:Array Oper} {Q:Exit→Act→World→Prop} {md:Region.Mode} {Sa Sb:World→Prop} {k:Nat}
end
end
section
/- GTail, where number k waits for number i through number j. No program. -/
section
variable {P:Program} {ops:Array Oper} {Q:Exit→Act→World→Prop} {md:Region.Mode} {Sa Sb:World→Prop} {k:Nat}
end
end
section
/- Contracts of package bitrow's small functions: lengthMayBe, wordsFor, isPlace, Right. -/
open Go.RowKit
theorem quiet_w {P:Program} {f:FuncId} {args:Array Value} {w:World} {n:Nat} {v:Value}
  (h:Calls P f args (w.drewN n) fun e w'=>e=.returned v∧w.drewN n=w'):Calls P f args (w.drewN n) fun e w''=>e=.returned v∧∃ m,w''=w.drewN m:=
 h.mono fun _ _ ⟨he,hm⟩=>⟨he,n,hm.symm⟩
def lmb (n:Int):Bool:=decide (0≤n)&&decide (n≤512)
theorem lmb_iff (n:Int):lmb n=true↔0≤n∧n≤512:=by simp [lmb]
theorem lmb_no (n:Int):lmb n=false↔¬ (0≤n∧n≤512):=by rw [← lmb_iff];simp
theorem lengthMayBe_any (n:Int) (w:World):Calls Tryz.prog 193 #[.int .i64 n] w fun e w'=>e=.returned (.bool (lmb n))∧w=w':=by
 by_cases h:0≤n
 ·by_cases h2:n≤512
  ·have e:lmb n=true:=(lmb_iff n).2 ⟨h,h2⟩
   rw [e];clear e
   go_enter Tryz.func193,Tryz.ntmps193
   go_wp2
   go_ret
   exact⟨rfl,rfl⟩
  ·have e:lmb n=false:=(lmb_no n).2 (by omega)
   rw [e];clear e
   have t:decide (n≤512)=false:=by simpa using h2
   go_enter Tryz.func193,Tryz.ntmps193
   go_wp2
   go_ret
   exact⟨by simp,rfl⟩
 ·have e:lmb n=false:=(lmb_no n).2 (by omega)
  rw [e];clear e
  have t:decide (0≤n)=false:=by simpa using h
  go_enter Tryz.func193,Tryz.ntmps193
  go_wp2
  go_ret
  exact⟨by simp,rfl⟩
def nw (n:Nat):Nat:=(n+63) / 64
theorem wordsFor_any (n:Nat) (h:n≤512) (w:World):Calls Tryz.prog 194 #[.int .i64 n] w fun e w'=>e=.returned (.int .i64 (nw n))∧w=w':=by
 go_enter Tryz.func194,Tryz.ntmps194
 go_wp2
 go_ret
 exact⟨congrArg (fun z=>Ending.returned (.int .i64 z)) (by unfold nw;omega),rfl⟩
theorem isPlace_any (n:Int) (A:Option Addr) (l c:Nat) (i:Int) (w:World):Calls Tryz.prog 177 #[.agg #[.int .i64 n,.slice A l c],.int .i64 i] w fun e w'=>e=.returned (.bool (decide (0≤i)&&decide (i<n)))∧Below w.heap.size w w':=by
 by_cases h:0≤i
 ·have t:decide (0≤i)=true:=by simpa using h
  rw [t,Bool.true_and];clear t
  go_enter Tryz.func177,Tryz.ntmps177
  go_wp2
  all_goals go_ret
  all_goals exact⟨rfl,(Below.refl _ _).alloc (Nat.le_refl _) _⟩
 ·have t:decide (0≤i)=false:=by simpa using h
  rw [t,Bool.false_and]
  go_enter Tryz.func177,Tryz.ntmps177
  go_wp2
  all_goals go_ret
  all_goals exact⟨rfl,(Below.refl _ _).alloc (Nat.le_refl _) _⟩
def rightB (n:Int) (ws:List Nat):Bool:=lmb n&&(ws.length==nw n.toNat)&&(n.toNat%64==0||(ws.getD (ws.length-1) 0) / 2 ^ (n.toNat%64)==0)
theorem shr_zero (x k:Nat):(((x:Int) / 2 ^ k)==0)=(x / 2 ^ k==0):=by
 rw [Bool.eq_iff_iff]
 have e:(x:Int) / 2 ^ k=((x / 2 ^ k:Nat):Int):=by simp [Int.natCast_ediv]
 rw [e]
 simp only [beq_iff_eq]
 omega
theorem right_out (n:Int) (A:Option Addr) (l c:Nat) (h:lmb n=false) (w:World) :
  Calls Tryz.prog 172 #[.agg #[.int .i64 n,.slice A l c]] w fun e w'=>e=.returned (.bool false)∧Below w.heap.size w w':=by
 have H:=hZ (lengthMayBe_any n)
 go_enter Tryz.func172,Tryz.ntmps172
 go_wp2_with fail
 go_quiet ((go_at_call 193;exact quiet_w (H.out _)))
 go_wp2
 go_ret
 exact⟨rfl,bdN ((Below.refl _ _).alloc (Nat.le_refl _) _) _⟩
theorem right_len (n:Nat) (A:Option Addr) (l c:Nat) (h:lmb n=true) (hl:l≠nw n) (w:World) :
  Calls Tryz.prog 172 #[.agg #[.int .i64 n,.slice A l c]] w fun e w'=>e=.returned (.bool false)∧Below w.heap.size w w':=by
 have hn:=(lmb_iff n).1 h
 have H:=hZ (lengthMayBe_any n)
 have H2:=hZ (wordsFor_any n (by omega))
 have t:((l:Int) != (nw n:Int))=true:=by rw [bne_iff_ne];omega
 go_enter Tryz.func172,Tryz.ntmps172
 go_wp2_with fail
 go_quiet ((first | (go_at_call 193;exact quiet_w (H.out _)) | (go_at_call 194;exact quiet_w (H2.out _))))
 go_wp2
 go_ret
 exact⟨rfl,bdN ((Below.refl _ _).alloc (Nat.le_refl _) _) _⟩
theorem right_full (n:Nat) (A:Option Addr) (l c:Nat) (h:lmb n=true) (hl:l=nw n) (hm:n%64=0) (w:World) :
  Calls Tryz.prog 172 #[.agg #[.int .i64 n,.slice A l c]] w fun e w'=>e=.returned (.bool true)∧Below w.heap.size w w':=by
 have hn:=(lmb_iff n).1 h
 have H:=hZ (lengthMayBe_any n)
 have H2:=hZ (wordsFor_any n (by omega))
 subst hl
 have t:((nw n:Int) != (nw n:Int))=false:=by simp
 have t2:((n:Int)%64==0)=true:=by simp;omega
 clear hm
 go_enter Tryz.func172,Tryz.ntmps172
 go_wp2_with fail
 go_quiet ((first | (go_at_call 193;exact quiet_w (H.out _)) | (go_at_call 194;exact quiet_w (H2.out _))))
 go_wp2
 go_ret
 exact⟨rfl,bdN ((Below.refl _ _).alloc (Nat.le_refl _) _) _⟩
theorem right_part (n:Nat) (A:Option Addr) (l c:Nat) (ws:List Nat) (h:lmb n=true) (hl:l=nw n) (hm:n%64≠0) (w:World) (hw:Words w A l ws) :
  Calls Tryz.prog 172 #[.agg #[.int .i64 n,.slice A l c]] w fun e w'=>e=.returned (.bool (ws.getD (l-1) 0 / 2 ^ (n%64)==0))∧Below w.heap.size w w':=by
 have hn:=(lmb_iff n).1 h
 have H:=hZ (lengthMayBe_any n)
 have H2:=hZ (wordsFor_any n (by omega))
 have hp:0<nw n:=by unfold nw;omega
 subst hl
 obtain⟨b,off,rfl,hlt,hc⟩:=hw.2.2 hp
 have hx:=hw.2.1 (nw n-1)
 have c1:=hc (nw n-1) (by omega)
 generalize ws.getD (nw n-1) 0=x at *
 have hnw:nw n≤8:=by unfold nw;omega
 have t:((nw n:Int) != (nw n:Int))=false:=by simp
 have t2:((n:Int)%64==0)=false:=by simp;omega
 clear hc hw
 go_enter Tryz.func172,Tryz.ntmps172
 go_wp2_with fail
 go_quiet ((first | (go_at_call 193;exact quiet_w (H.out _)) | (go_at_call 194;exact quiet_w (H2.out _))))
 go_wp2
 go_ret
 refine⟨congrArg (fun z=>Ending.returned (.bool z)) ?_,bdN ((Below.refl _ _).alloc (Nat.le_refl _) _) _⟩
 exact shr_zero x (n%64)
theorem right_any (n:Int) (A:Option Addr) (l c:Nat) (ws:List Nat) (w:World) (hw:Words w A l ws) :
  Calls Tryz.prog 172 #[.agg #[.int .i64 n,.slice A l c]] w fun e w'=>e=.returned (.bool (rightB n ws))∧Below w.heap.size w w':=by
 unfold rightB
 cases h:lmb n with
 | false=>simpa using right_out n A l c h w
 | true=>
   have hn:=(lmb_iff n).1 h
   obtain⟨m,rfl⟩:=Int.eq_ofNat_of_zero_le hn.1
   rw [Int.toNat_natCast,hw.1]
   by_cases hl:l=nw m
   ·have e1:(l==nw m)=true:=by simpa using hl
    rw [e1]
    by_cases hm:m%64=0
    ·have e2:(m%64==0)=true:=by simpa using hm
     rw [e2]
     exact right_full m A l c h hl hm w
    ·have e2:(m%64==0)=false:=by simpa using hm
     rw [e2]
     exact right_part m A l c ws h hl hm w hw
   ·have e1:(l==nw m)=false:=by simpa using hl
    rw [e1]
    exact right_len m A l c h hl w
end
section
/- Contract of the statements' few: a row with at most ten words. -/
open Go.RowKit
def SliceOk (A:Option Addr) (l c:Nat):Prop:=l≤c∧c≤maxLen∧(A=none→l=0∧c=0)
end
section
/- EquationsAdd: the walk. -/
open Go.RowKit
set_option maxRecDepth 100000
theorem storeB_new (k s c:Int):storeB k s c []=sizesB k s c:=by
 rw [storeB_eq]
 unfold sizesB kB
 by_cases h:1≤c
 ·have:(0:Int)≤c:=by omega
  simp [allB,twiceB,this]
 ·simp [h]
theorem eadd_law (k s c:Int) (A:Option Addr) (l d:Nat) (xs:List SymR) (x:SymR) (w:World) (hx:Syms w A l xs) (hl:l≤d) (hd:d≤maxLen) (hn:A=none→d=0) (h66:xs.length≤66) :
  Calls Tryz.prog 91 #[.agg #[.int .i64 k,.int .i64 s,.int .i64 c,.slice A l d],.agg #[.int .u64 (x.1:Int),.string x.2]] w fun e w'=>∃ K S C A' zs d',e=.returned (.tuple #[.agg #[.int .i64 K,.int .i64 S,.int .i64 C,.slice A' zs.length d'],.int .i64 (addE k s c xs x)]) ∧
   ((addE k s c xs x=0→K=k∧S=s∧C=c∧zs=xs++[x])∧(¬ addE k s c xs x=0→K=0∧S=0∧C=0∧zs=[]))∧Syms w' A' zs.length zs∧zs.length≤d'∧d'≤maxLen∧(A'=none→d'=0)∧zs.length≤67∧Below w.heap.size w w':=by
 by_cases he:addE k s c xs x=0
 ·refine (eadd_yes k s c A l d xs x w hx hl hd hn he).mono ?_
  rintro e w' ⟨A',d',rfl,h1,h2,h3,h4,hb⟩
  exact⟨k,s,c,A',xs++[x],d',by rw [he],⟨fun _=>⟨rfl,rfl,rfl,rfl⟩,fun h=>absurd he h⟩,h1,h2,h3,h4,by rw [List.length_append];show xs.length+1≤67;omega,hb⟩
 ·refine (eadd_no k s c A l d xs x w hx hl hd he).mono ?_
  rintro e w' ⟨A',d',rfl,h1,h2,h3,h4,hb⟩
  exact⟨0,0,0,A',[],d',rfl,⟨fun h=>absurd h he,fun _=>⟨rfl,rfl,rfl,rfl⟩⟩,h1,h2,h3,h4,Nat.zero_le _,hb⟩
theorem addE_yes {k s c:Int} {xs:List SymR} {x:SymR} (h:storeB k s c xs=true):addE k s c xs x=whyI s c xs x:=by unfold addE;rw [if_pos h]
end
section
/- How a slice of words and a slice of ints that came in are opened (without rows). -/
open Go.RowKit Go.Joins Go.ChangeShapes Go.WideShapes
theorem cellsU64:Tryz.prog.cellsOf 22=1:=by kernel_rfl
theorem addr_at {w:World} {a:Addr} {v:Value} (h:w.cell? (a.add 0)=some v):∃ b o,a=⟨b,o,none⟩:=by
 obtain⟨b,o,s⟩:=a
 have:=World.cell?_spot h
 simp [Addr.add] at this
 subst this
 exact⟨b,o,rfl⟩
end
section
/- How a store and a symbol that came in are opened. -/
open Go.RowKit Go.Joins Go.ChangeShapes Go.WideShapes
set_option maxRecDepth 100000
theorem cellsSymO:Tryz.prog.cellsOf 29=2:=by kernel_rfl
theorem cellsStrO:Tryz.prog.cellsOf 9=1:=by kernel_rfl
theorem u64_nat {a:Int} (h:(Lit.int .u64 a).wf=true):∃ n:Nat,a=(n:Int)∧n<18446744073709551616:=by
 have:=bounds_u64 h
 exact⟨a.toNat,by omega,by omega⟩
theorem open_syms {H:Type} {enc:TypeId×Value→H} {W:World} {fuel:Nat} {cs:List Value} {x:DataW H×List MemPlace}
  (h:DataW.trod enc Tryz.prog W 0 (fun _=>true) true fuel 23 cs=some x):∃ A l c xs,cs=[.slice A l c]∧SliceOk A l c∧Syms W A l xs∧∀ j,(xs.getD j default).1<18446744073709551616:=by
 rcases Go.Deep.open_slice_pairs Tryz.underlying23 Tryz.underlying29 cellsSymO rfl rfl cellsU64 cellsStrO h with ⟨hcs,_⟩ |⟨a,len,cap,m,n,V0,V1,D0,D1,P0,P1,hcs,_,hl,hm,hmm,_,hx⟩
 ·exact⟨none,0,0,[],hcs,⟨Nat.le_refl _,Nat.zero_le _,fun _=>⟨rfl,rfl⟩⟩,Recs.nil _ _,fun j=>by simp [default]⟩
 ·have hmm':m=cap:=by simpa using hmm
  have each:∀ i,i<len→∃ r:SymR,V0 i=.int .u64 (r.1:Nat)∧V1 i=.string r.2∧r.1<18446744073709551616:=fun i hi=>by
   obtain⟨h0,h1,h2,h3⟩:=hx i (by omega)
   obtain⟨z,e0,-,wz⟩:=DataW.trod_int Tryz.underlying22 h2
   obtain⟨s,e1,-,ws⟩:=DataW.trod_string Tryz.underlying9 h3
   obtain⟨k,rfl,hk⟩:=u64_nat wz
   simp at e0 e1
   exact⟨(k,s),e0,e1,hk⟩
  obtain⟨q,hq⟩:=Go.Deep.choose_lt each
  have hg:∀ j,j<len→((List.range len).map q).getD j default=q j:=fun j hj=>by simp [List.getD,hj]
  refine⟨some a,len,cap,(List.range len).map q,hcs,⟨hl,hm,fun h=>by cases h⟩,⟨by simp,fun hp=>?_⟩,fun j=>?_⟩
  ·obtain⟨b,o,ha⟩:∃ b o,a=⟨b,o,none⟩:=by
    have:=(hx 0 (by omega)).1
    exact addr_at (by simpa using this)
   subst ha
   have hadd:∀ j,Addr.add { block:=b,off:=o } j=⟨b,o+j,none⟩:=fun j=>by
    by_cases h:j=0<;>simp [Addr.add,h]
   refine⟨b,o,rfl,?_,fun j hj k v hv=>?_⟩
   ·have:=block_lt_of_cell (hx 0 (by omega)).1
    rw [hadd] at this
    exact this
   ·obtain⟨h0,h1,-,-⟩:=hx j (by omega)
    rw [hadd] at h0 h1
    obtain⟨e0,e1,-⟩:=hq j hj
    rw [hg j hj] at hv
    match k,hv with
    | 0,hv=>
      simp [encS] at hv
      rw [Nat.add_zero,h0,e0,hv]
    | 1,hv=>
      simp [encS] at hv
      rw [Nat.add_assoc,h1,e1,hv]
  ·by_cases hj:j<len
   ·rw [hg j hj];exact (hq j hj).2.2
   ·have e:((List.range len).map q).getD j default=default:=by
     simp only [List.getD]
     rw [List.getElem?_eq_none (by simp;omega)];rfl
    rw [e];decide
end
section
/- How a row (a struct with a slice of words) and a slice of ints that came in are opened. -/
open Go.RowKit Go.Joins Go.ChangeShapes Go.WideShapes
end
section
/- Contracts of layer 2: block.sizeMayBe, block.Zero, block.Nought, the reference's Nought, the law's cut. -/
open Go.RowKit
def smb (n:Int):Bool:=decide (0≤n)&&decide (n≤64)
theorem smb_iff (n:Int):smb n=true↔0≤n∧n≤64:=by simp [smb]
theorem smb_no (n:Int):smb n=false↔¬ (0≤n∧n≤64):=by rw [← smb_iff];simp
theorem sizeMayBe_any (n:Int) (w:World):Calls Tryz.prog 183 #[.int .i64 n] w fun e w'=>e=.returned (.bool (smb n))∧w=w':=by
 by_cases h:0≤n
 ·by_cases h2:n≤64
  ·have e:smb n=true:=(smb_iff n).2 ⟨h,h2⟩
   rw [e];clear e
   go_enter Tryz.func183,Tryz.ntmps183
   go_wp2
   go_ret
   exact⟨rfl,rfl⟩
  ·have e:smb n=false:=(smb_no n).2 (by omega)
   rw [e];clear e
   have t:decide (n≤64)=false:=by simpa using h2
   go_enter Tryz.func183,Tryz.ntmps183
   go_wp2
   go_ret
   exact⟨by simp,rfl⟩
 ·have e:smb n=false:=(smb_no n).2 (by omega)
  rw [e];clear e
  have t:decide (0≤n)=false:=by simpa using h
  go_enter Tryz.func183,Tryz.ntmps183
  go_wp2
  go_ret
  exact⟨by simp,rfl⟩
def noughtL (l:List UInt8):Bool:=l.all fun b=>b==0
theorem take_snoc (s:ByteArray) (k:Nat) (h:k<s.size):s.data.toList.take (k+1)=s.data.toList.take k++[s[k]]:=by
 have hk:k<s.data.toList.length:=by simpa using h
 rw [List.take_succ_eq_append_getElem hk]
 rfl
theorem nought_not (s:ByteArray) (k:Nat) (h:k<s.size) (hz:¬ s[k]=0):noughtL s.data.toList=false:=by
 rw [Bool.eq_false_iff]
 intro ha
 have:=List.all_eq_true.1 ha (s[k]) (by rw [show s[k]=s.data.toList[k]'(by simpa using h) from rfl];exact List.getElem_mem _)
 exact hz (by simpa using this)
theorem nought_any (s:ByteArray) (hs:s.size≤maxLen) (w:World):Calls Tryz.prog 167 #[.string s] w fun e w'=>e=.returned (.bool (noughtL s.data.toList))∧w=w':=by
 unfold maxLen at hs
 go_enter Tryz.func167,Tryz.ntmps167
 go_wp2_with fail
 go_loop [6] (fun i=>∃ k:Nat,k≤s.size∧i=.int .i64 k∧Hid (noughtL (s.data.toList.take k)=true)) (fun i=>s.size-(intOf i).toNat)
 case atStart=>exact⟨0,by omega,rfl,hZ (by simp [noughtL])⟩
 case round=>
  obtain⟨k,hk,rfl,HN⟩:=hrel
  by_cases hlt:k<s.size
  ·by_cases hz:s[k]=0
   ·go_wp2
    go_round
    case rel=>exact⟨k+1,by omega,by go_num,hZ (by have:=HN.out;rw [take_snoc s k hlt];simp [noughtL,List.all_append] at this ⊢;exact⟨this,hz⟩)⟩
    case measure=>simp [intOf];omega
   ·have hz':s[k].toNat≠0:=fun h=>hz (UInt8.toNat_inj.1 (by simpa using h))
    have t:((s[k].toNat:Int) != 0)=true:=by simpa using hz'
    have HE:=hZ (nought_not s k hlt hz)
    go_wp2
    go_ret
    exact⟨by rw [HE.out];rfl,rfl⟩
  ·obtain rfl:k=s.size:=by omega
   have HE:=hZ (show noughtL s.data.toList=true by have:=HN.out;rwa [List.take_of_length_le (by simp)] at this)
   go_wp2
   go_ret
   exact⟨by rw [HE.out];rfl,rfl⟩
theorem uint8_info:(Tryz.prog.info? 5).map (fun i=>(i.zero,i.size,i.bytes))=some (some (.int .u8 0),1,1):=by kernel_rfl
def bytesA (l:List UInt8):Array Value:=(l.map fun (x:UInt8)=>Value.int .u8 (x.toNat:Int)).toArray
theorem bytesA_get (l:List UInt8) (j:Nat) (h:j<l.length):(bytesA l)[j]?=some (.int .u8 ((l.getD j 0).toNat:Int)):=by
 simp [bytesA,List.getD,h]
theorem bytesA_set (l:List UInt8) (k:Nat) (x:UInt8):(bytesA l).setIfInBounds k (.int .u8 (x.toNat:Int))=bytesA (l.set k x):=by
 simp [bytesA,List.map_set]
theorem makeB_any (n:Nat) (hn:n≤1000000) (w:World) :
  (Instr.makeSlice 147 (.int .i64 (n:Int)) (.int .i64 (n:Int))).run Tryz.prog w=.ok (.slice (some ⟨w.heap.size,0,none⟩) n n) (w.alloc (.cells (bytesA (List.replicate n 0)) 5)):=by
 obtain⟨i0,hi,hz0,hz1,hz2⟩:=info_parts uint8_info
 have hr:=run_make (P:=Tryz.prog) w _ _ i0 _ Tryz.underlying147 hi hz0 .i64 .i64 n n (by omega) (by omega) (by rw [hz2];omega) (by omega)
 simp only [Int.toNat_natCast,hz1,Nat.mul_one] at hr
 rw [hr]
 have:madeCells (Value.int .u8 0).cells n=bytesA (List.replicate n 0):=by
  apply Array.toList_inj.1
  have:=toList_madeCells_one (Value.int .u8 0) n
  simpa [Value.cells,bytesA] using this
 rw [this]
theorem backB {w:World} {g n:Nat} {t:TypeId} {l:List UInt8} (h:Box w g t (bytesA l)) (hn:l.length=n) :
  (convert 147 9 (.slice (some ⟨g,0,none⟩) n n)).run Tryz.prog w=.ok (.string ⟨l.toArray⟩) w:=by
 subst hn
 refine run_convert_bytes_back (P:=Tryz.prog) w 147 9 5 ⟨g,0,none⟩ _ l Tryz.underlying147 Tryz.underlying5 Tryz.underlying9 ?_
 intro j hj
 have hadd:Addr.add { block:=g,off:=0 } j=⟨g,j,none⟩:=by
  by_cases h:j=0<;>simp [Addr.add,h]
 rw [hadd,h.cell j,bytesA_get l j hj]
 simp [List.getD,hj]
def zeroB (n:Nat):ByteArray:=⟨(List.replicate n (0:UInt8)).toArray⟩
theorem zero_yes (n:Nat) (h:smb n=true) (w:World):Calls Tryz.prog 185 #[.int .i64 n] w fun e w'=>e=.returned (.tuple #[.string (zeroB n),.int .i64 0])∧Below w.heap.size w w':=by
 have H:=hZ (sizeMayBe_any n)
 have hn:=(smb_iff n).1 h
 have m:=makeB_any n (by omega) w
 have c:=backB (Box.new w 5 (bytesA (List.replicate n 0))) (n:=n) (by simp)
 go_enter Tryz.func185,Tryz.ntmps185
 go_wp2_with fail
 refine (H.out _).mono ?_
 rintro e w1 ⟨rfl,rfl⟩
 go_wp2_with fail
 go_ret2
 exact⟨rfl,(Below.refl _ _).alloc (Nat.le_refl _) _⟩
end
section
/- Contracts of layer 2: block.allHave, block.put. -/
open Go.RowKit
def Texts (w:World) (A:Option Addr) (len:Nat) (ss:List ByteArray):Prop:=
 ss.length=len∧(∀ j,(ss.getD j ByteArray.empty).size≤maxLen) ∧
  (0<len→∃ b off,A=some ⟨b,off,none⟩∧b<w.heap.size∧∀ j,j<len→w.cell? ⟨b,off+j,none⟩=some (.string (ss.getD j ByteArray.empty)))
theorem Texts.mono {w w':World} {A:Option Addr} {len:Nat} {ss:List ByteArray} (h:Texts w A len ss) {B:Nat} (hB:w.heap.size≤B) (hb:Below B w w'):Texts w' A len ss:=by
 refine⟨h.1,h.2.1,fun hp=>?_⟩
 obtain⟨b,off,rfl,hlt,hc⟩:=h.2.2 hp
 exact⟨b,off,rfl,Nat.lt_of_lt_of_le hlt hb.size,fun j hj=>(hb.cell (p:=⟨b,off+j,none⟩) (Nat.lt_of_lt_of_le hlt hB)).trans (hc j hj)⟩
theorem Texts.below {w w':World} {A:Option Addr} {len:Nat} {ss:List ByteArray} (h:Texts w A len ss) (hb:Below w.heap.size w w'):Texts w' A len ss:=h.mono (Nat.le_refl _) hb
theorem Texts.nil (w:World) (A:Option Addr):Texts w A 0 []:=⟨rfl,by simp [maxLen],fun h=>by omega⟩
def allL (n:Int) (ss:List ByteArray):Bool:=ss.all fun s=>(s.size:Int)==n
theorem allL_snoc (n:Int) (ss:List ByteArray) (j:Nat) (h:j<ss.length):allL n (ss.take (j+1))=(allL n (ss.take j)&&(((ss.getD j ByteArray.empty).size:Int)==n)):=by
 unfold allL
 rw [List.take_succ_eq_append_getElem h,List.all_append]
 simp [List.getD,h]
theorem allL_not (n:Int) (ss:List ByteArray) (j:Nat) (h:j<ss.length) (hz:¬ ((ss.getD j ByteArray.empty).size:Int)=n):allL n ss=false:=by
 rw [Bool.eq_false_iff]
 intro ha
 have:=List.all_eq_true.1 ha (ss[j]) (List.getElem_mem _)
 exact hz (by simpa [List.getD,h] using this)
theorem allHave_any (n:Int) (A:Option Addr) (l c:Nat) (ss:List ByteArray) (w:World) (ht:Texts w A l ss) (hl:l≤maxLen) :
  Calls Tryz.prog 184 #[.int .i64 n,.slice A l c] w fun e w'=>e=.returned (.bool (allL n ss))∧w=w':=by
 unfold maxLen at hl
 have hlen:=hZ ht.1
 have HT:=hZ ht
 clear ht
 go_enter Tryz.func184,Tryz.ntmps184
 go_wp2_with fail
 go_loop [9] (fun i=>∃ k:Nat,k≤l∧i=.int .i64 k∧Hid (allL n (ss.take k)=true)) (fun i=>l-(intOf i).toNat)
 case atStart=>exact⟨0,by omega,rfl,hZ (by simp [allL])⟩
 case round=>
  obtain⟨k,hk,rfl,HN⟩:=hrel
  by_cases hlt:k<l
  ·obtain⟨b,off,rfl,hb,hc⟩:=HT.out.2.2 (by omega)
   have c1:=hc k hlt
   have hm:=HT.out.2.1 k
   have HS:=hZ (allL_snoc n ss k (by rw [hlen.out];exact hlt))
   have HNO:=hZ (allL_not n ss k (by rw [hlen.out];exact hlt))
   generalize ss.getD k ByteArray.empty=s at *
   unfold maxLen at hm
   clear hc
   by_cases hz:(s.size:Int)=n
   ·have t:((s.size:Int) != n)=false:=by simpa using hz
    have HZ:=hZ hz
    clear hz
    go_wp2
    go_round
    case rel=>exact⟨k+1,by omega,by go_num,hZ (by rw [HS.out,HN.out,HZ.out];simp)⟩
    case measure=>simp [intOf];omega
   ·have t:((s.size:Int) != n)=true:=by simpa using hz
    go_wp2
    go_ret
    exact⟨by rw [HNO.out hz];rfl,rfl⟩
  ·obtain rfl:k=l:=by omega
   have HE:=hZ (show allL n ss=true by have:=HN.out;rwa [List.take_of_length_le (by rw [hlen.out];omega)] at this)
   go_wp2
   go_ret
   exact⟨by rw [HE.out];rfl,rfl⟩
def mixL (l t:List UInt8) (j:Nat):List UInt8:=(List.range l.length).map fun i=>if i<j then l.getD i 0^^^t.getD i 0 else l.getD i 0
def bxL (l t:List UInt8):List UInt8:=(List.range l.length).map fun i=>l.getD i 0^^^t.getD i 0
theorem mixL_length (l t:List UInt8) (j:Nat):(mixL l t j).length=l.length:=by simp [mixL]
theorem xorL_length (l t:List UInt8):(bxL l t).length=l.length:=by simp [bxL]
theorem mixL_zero (l t:List UInt8):mixL l t 0=l:=by
 apply List.ext_getElem
 ·simp [mixL]
 ·intro i h1 h2;simp [mixL,List.getD,h2]
theorem mixL_full (l t:List UInt8) (n:Nat) (h:l.length=n):mixL l t n=bxL l t:=by
 subst h
 apply List.ext_getElem
 ·simp [mixL,bxL]
 ·intro i h1 h2
  have:i<l.length:=by simpa [bxL] using h2
  simp [mixL,bxL,this]
theorem mixL_get (l t:List UInt8) (j:Nat) (h:j<l.length):(mixL l t j).getD j 0=l.getD j 0:=by
 simp [mixL,List.getD,h]
theorem mixL_set (l t:List UInt8) (j:Nat) (h:j<l.length):(mixL l t j).set j (l.getD j 0^^^t.getD j 0)=mixL l t (j+1):=by
 apply List.ext_getElem
 ·simp [mixL]
 ·intro i h1 h2
  have hi:i<l.length:=by simpa [mixL] using h2
  rw [List.getElem_set]
  by_cases e:j=i
  ·subst e;simp [mixL,List.getD,h]
  ·rw [if_neg e]
   have e2:(i<j+1)=(i<j):=by apply propext;omega
   simp [mixL,e2]
theorem xor_u8 (a b:UInt8):bits BinOp.xor IntKind.u8 (a.toNat:Int) (b.toNat:Int)=((a^^^b).toNat:Int):=by
 have ha:=a.toNat_lt
 have hb:=b.toNat_lt
 rw [u8_xor_nat _ _ (by omega) (by omega),UInt8.toNat_xor]
theorem put_any (g n:Nat) (l:List UInt8) (s:ByteArray) (w:World) (hg:Box w g 5 (bytesA l)) (hl:l.length=n) (hs:s.size=n) (hn:n≤1000000) :
  Calls Tryz.prog 186 #[.slice (some ⟨g,0,none⟩) n n,.string s] w fun e w'=>e=.returned (.tuple #[])∧Box w' g 5 (bytesA (bxL l s.data.toList))∧Below g w w':=by
 have HL:=hZ hl
 have HS:=hZ hs
 have HG:=hZ hg
 clear hl hs hg
 go_enter Tryz.func186,Tryz.ntmps186
 go_wp2_with fail
 go_loopw [7] (fun i wr=>∃ j:Nat,j≤n∧i=.int .i64 j∧Box wr g 5 (bytesA (mixL l s.data.toList j))∧Below g w wr)
  (fun i _=>n-(intOf i).toNat)
 case atStart=>exact⟨0,by omega,rfl,by rw [mixL_zero];exact HG.out,Below.refl _ _⟩
 case round=>
  obtain⟨j,hj,rfl,R,HB⟩:=hrel
  have R:=hZ R
  have HB:=hZ HB
  by_cases hlt:j<n
  ·have hlj:j<l.length:=by rw [HL.out];exact hlt
   have hsj:j<s.size:=by rw [HS.out];exact hlt
   have cg:wr.cell? ⟨g,j,none⟩=some (.int .u8 ((l.getD j 0).toNat:Int)):=by
    rw [R.out.cell j,bytesA_get _ j (by rw [mixL_length];exact hlj),mixL_get l _ j hlj]
   have fg:=R.out.free j
   have HE:=hZ (show s.data.toList.getD j 0=s[j] by simp [List.getD,hsj];rfl)
   have HX:=hZ (xor_u8 (l.getD j 0) s[j])
   have HLJ:=hZ hlj
   clear hlj
   obtain⟨a,ha⟩:∃ a,a=l.getD j 0:=⟨_,rfl⟩
   obtain⟨b,hb⟩:∃ b,b=s[j]:=⟨_,rfl⟩
   rw [← ha] at cg HX
   have HA:=hZ ha
   have t:=xor_u8 a s[j]
   clear ha hb b
   go_wp2
   go_region
   all_goals (
    have P1:=hZ ((R.out.put j (.int .u8 ((a^^^s[j]).toNat:Int))).drew)
    have e:(bytesA (mixL l s.data.toList j)).setIfInBounds j (.int .u8 ((a^^^s[j]).toNat:Int))=bytesA (mixL l s.data.toList (j+1)):=by
     rw [bytesA_set,HA.out,← HE.out,mixL_set l _ j HLJ.out]
    have E1:=hZ e
    clear e
    have P2:=hZ ((HB.out.setCell (p:=⟨g,j,none⟩) (Nat.le_refl _) (.int .u8 ((a^^^s[j]).toNat:Int))).drew)
    go_wp2
    go_roundw
    case rel=>exact⟨j+1,by omega,by go_num,by have:=P1.out;rw [E1.out] at this;simpa only [UInt8.toNat_xor] using this,by simpa only [UInt8.toNat_xor] using P2.out⟩
    case measure=>simp [intOf];omega)
  ·obtain rfl:j=n:=by omega
   go_wp2
   go_end0
   exact⟨rfl,by have:=R.out;rwa [mixL_full l _ _ HL.out] at this,HB.out⟩
end
section
/- How a slice of texts that came in is opened. -/
open Go.RowKit Go.Joins Go.ChangeShapes Go.WideShapes
end
section
/- Layer 22: events, calls and spans as values and cells; how events that came in are opened; two calls compared. -/
open Go.RowKit Go.Joins Go.ChangeShapes Go.WideShapes
set_option maxRecDepth 100000
abbrev CallR:=Int×Nat×Int×Int×Int×Nat×ByteArray
structure RepR where
 why:Int
 n:Int
 A:Option Addr
 l:Nat
 c:Nat
structure EvR where
 c:Int
 b:Int
 n:Int
 call:CallR
 rep:RepR
instance:Inhabited RepR:=⟨⟨0,0,none,0,0⟩⟩
instance:Inhabited EvR:=⟨⟨0,0,0,default,default⟩⟩
abbrev callL (c:CallR):List Value:=[.int .i64 c.1,.int .u64 (c.2.1:Nat),.int .i64 c.2.2.1,.int .i64 c.2.2.2.1,.int .i64 c.2.2.2.2.1,.int .u64 (c.2.2.2.2.2.1:Nat),.string c.2.2.2.2.2.2]
abbrev repL (r:RepR):List Value:=[.int .i64 r.why,.int .i64 r.n,.slice r.A r.l r.c]
def encE (e:EvR):List Value:=.int .i64 e.c::.int .i64 e.b::.int .i64 e.n::(callL e.call++repL e.rep)
def RepOk (w:World) (r:RepR):Prop:=∃ ss,Texts w r.A r.l ss∧r.l≤r.c∧r.c≤maxLen
structure Evs (w:World) (A:Option Addr) (l:Nat) (xs:List EvR):Prop where
 recs:Recs encE 13 w A l xs
 reps:∀ j,RepOk w (xs.getD j default).rep
theorem u64_natH {a:Int} (h:(Lit.int .u64 a).wf=true):∃ n:Nat,a=(n:Int)∧n<18446744073709551616:=by
 have:=bounds_u64 h
 exact⟨a.toNat,by omega,by omega⟩
section
variable {H:Type} {enc:TypeId×Value→H} {W:World} {fuel:Nat} {cs:List Value} {x:DataW H×List MemPlace}
end
end
section
/- Layer 18: objects, calls and replies as data and as values; how objects came in. -/
open Go.RowKit Go.Joins Go.ChangeShapes Go.WideShapes
set_option maxRecDepth 100000
abbrev StoR:=Int×Int×Int×List SymR
abbrev ObR:=Nat×StoR×Int
abbrev ReplyR:=Int×Int×List ByteArray
abbrev obA (o:ObR) (A:Option Addr) (d:Nat):Array Value:=#[.int .u64 (o.1:Nat),.int .i64 o.2.1.1,.int .i64 o.2.1.2.1,.int .i64 o.2.1.2.2.1,.slice A o.2.1.2.2.2.length d,.int .i64 o.2.2]
def ObAt (w:World) (v:Value) (o:ObR):Prop:=∃ A d,v=.agg (obA o A d)∧SliceOk A o.2.1.2.2.2.length d∧Syms w A o.2.1.2.2.2.length o.2.1.2.2.2
def RpAt (w:World) (v:Value) (r:ReplyR):Prop:=∃ A c,v=.agg #[.int .i64 r.1,.int .i64 r.2.1,.slice A r.2.2.length c]∧Texts w A r.2.2.length r.2.2∧r.2.2.length≤c∧c≤maxLen
theorem RpAt.below {w w':World} {v:Value} {r:ReplyR} (h:RpAt w v r) (hb:Below w.heap.size w w'):RpAt w' v r:=by
 obtain⟨A,c,h1,h2,h3⟩:=h
 exact⟨A,c,h1,h2.below hb,h3⟩
def rightO (o:ObR):Bool:=storeB o.2.1.1 o.2.1.2.1 o.2.1.2.2.1 o.2.1.2.2.2&&(decide (o.2.2=0)||decide (o.2.2=1))
instance decSto:DecidableEq StoR:=inferInstanceAs (DecidableEq (Int×Int×Int×List (Nat×ByteArray)))
instance decOb:DecidableEq ObR:=inferInstanceAs (DecidableEq (Nat×(Int×Int×Int×List (Nat×ByteArray))×Int))
def likeO (a b:ObR):Bool:=decide (a=b)
theorem likeB_eq (k s c:Int) (xs:List SymR) (k2 s2 c2:Int) (ys:List SymR):likeB k s c xs k2 s2 c2 ys=decide ((k,s,c,xs)=((k2,s2,c2,ys):StoR)):=by
 unfold likeB
 rw [Bool.eq_iff_iff]
 simp only [Bool.and_eq_true,beq_iff_eq,decide_eq_true_eq,Prod.mk.injEq]
 constructor
 ·rintro ⟨⟨⟨h1,h2⟩,h3⟩,h4⟩;exact⟨h1,h2,h3,h4⟩
 ·rintro ⟨h1,h2,h3,h4⟩;exact⟨⟨⟨h1,h2⟩,h3⟩,h4⟩
def obZ:ObR:=(0,(0,0,0,[]),0)
def openO (c:CallR):ObR×ReplyR:=
 if c.1=0 then (if sizesB c.2.2.1 c.2.2.2.1 c.2.2.2.2.1 then ((c.2.1,(c.2.2.1,c.2.2.2.1,c.2.2.2.2.1,[]),0),(0,c.2.2.1,[])) else (obZ,(2,0,[]))) else (obZ,(1,0,[]))
theorem cellsObO:Tryz.prog.cellsOf 27=6:=by kernel_rfl
theorem array7O {α:Type} {cs:Array α} (h:cs.size=7):∃ a b c d e f g,cs=#[a,b,c,d,e,f,g]:=by
 obtain⟨l⟩:=cs
 match l,h with
 | [a,b,c,d,e,f,g],_=>exact⟨a,b,c,d,e,f,g,rfl⟩
def Ids (xs:List SymR):Prop:=∀ j,(xs.getD j default).1<18446744073709551616
theorem open_obL {H:Type} {enc:TypeId×Value→H} {W:World} {fuel:Nat} {cs:List Value} {x:DataW H×List MemPlace} (hl:cs.length=6)
  (h:DataW.trod enc Tryz.prog W 0 (fun _=>true) true fuel 27 cs=some x):∃ (o:ObR) (A:Option Addr) (d:Nat),cs=(obA o A d).toList∧SliceOk A o.2.1.2.2.2.length d∧Syms W A o.2.1.2.2.2.length o.2.1.2.2.2∧Ids o.2.1.2.2.2∧o.1<18446744073709551616:=by
 match cs,hl with
 | [v0,v1,v2,v3,v4,v5],_=>
 obtain⟨xs,n,-,-,-,hxl,hf⟩:=DataW.trod_struct Tryz.underlying27 h
 match xs,hxl with
 | [y0,y1,y2],_=>
 have g0:=hf 0 _ rfl
 have g1:=hf 1 _ rfl
 have g2:=hf 2 _ rfl
 have ei:Tryz.prog.cellsOf 3=1:=by kernel_rfl
 have eu:Tryz.prog.cellsOf 22=1:=by kernel_rfl
 have es:Tryz.prog.cellsOf 25=4:=by kernel_rfl
 have esl:Tryz.prog.cellsOf 23=1:=by kernel_rfl
 simp [ei,eu,es] at g0 g1 g2
 obtain⟨a0,e0,-,w0⟩:=DataW.trod_int Tryz.underlying22 g0
 obtain⟨a2,e2,-,w2⟩:=DataW.trod_int Tryz.underlying3 g2
 obtain⟨z0,z1,z2,z3,n',hx,_,h0,h1,h2,h3⟩:=trod_struct4 Tryz.underlying25 g1
 simp [ei,esl] at h0 h1 h2 h3
 obtain⟨b0,f0,-,x0⟩:=DataW.trod_int Tryz.underlying3 h0
 obtain⟨b1,f1,-,x1⟩:=DataW.trod_int Tryz.underlying3 h1
 obtain⟨b2,f2,-,x2⟩:=DataW.trod_int Tryz.underlying3 h2
 obtain⟨A,l,c,us,f3,hs,hw,hb⟩:=open_syms h3
 obtain⟨q,rfl,hq⟩:=u64_nat w0
 simp at e0 e2 f0 f1 f2 f3
 subst e0 e2 f0 f1 f2 f3
 obtain rfl:us.length=l:=hw.1
 exact⟨(q,(b0,b1,b2,us),a2),A,c,rfl,hs,hw,hb,hq⟩
theorem cellsCaO:Tryz.prog.cellsOf 31=7:=by kernel_rfl
abbrev callV (c:CallR):Value:=.agg (callL c).toArray
theorem open_callB {H:Type} {enc:TypeId×Value→H} {W:World} {fuel:Nat} {cs:List Value} {x:DataW H×List MemPlace} (hl:cs.length=7) (h:DataW.trod enc Tryz.prog W 0 (fun _=>true) true fuel 31 cs=some x):∃ c:CallR,cs=callL c∧c.2.1<18446744073709551616∧c.2.2.2.2.2.1<18446744073709551616∧c.2.2.2.2.2.2.size≤maxLen:=by
 match cs,hl with
 | [v0,v1,v2,v3,v4,v5,v6],_=>
 obtain⟨xs,n,-,-,-,hxl,hf⟩:=DataW.trod_struct Tryz.underlying31 h
 match xs,hxl with
 | [y0,y1,y2,y3,y4,y5],_=>
 have g0:=hf 0 _ rfl
 have g1:=hf 1 _ rfl
 have g2:=hf 2 _ rfl
 have g3:=hf 3 _ rfl
 have g4:=hf 4 _ rfl
 have g5:=hf 5 _ rfl
 have ei:Tryz.prog.cellsOf 3=1:=by kernel_rfl
 have eu:Tryz.prog.cellsOf 22=1:=by kernel_rfl
 have es:Tryz.prog.cellsOf 29=2:=by kernel_rfl
 simp [ei,eu,es] at g0 g1 g2 g3 g4 g5
 obtain⟨a0,e0,-,w0⟩:=DataW.trod_int Tryz.underlying3 g0
 obtain⟨a1,e1,-,w1⟩:=DataW.trod_int Tryz.underlying22 g1
 obtain⟨a2,e2,-,w2⟩:=DataW.trod_int Tryz.underlying3 g2
 obtain⟨a3,e3,-,w3⟩:=DataW.trod_int Tryz.underlying3 g3
 obtain⟨a4,e4,-,w4⟩:=DataW.trod_int Tryz.underlying3 g4
 obtain⟨z0,z1,n',-,-,k0,k1⟩:=trod_struct2 Tryz.underlying29 g5
 simp [eu,show Tryz.prog.cellsOf 9=1 by kernel_rfl] at k0 k1
 obtain⟨a5,e5,-,w5⟩:=DataW.trod_int Tryz.underlying22 k0
 obtain⟨a6,e6,-,w6⟩:=DataW.trod_string Tryz.underlying9 k1
 obtain⟨q1,rfl,hq1⟩:=u64_natH w1
 obtain⟨q5,rfl,hq5⟩:=u64_natH w5
 simp at e0 e1 e2 e3 e4 e5 e6
 subst e0 e1 e2 e3 e4 e5 e6
 exact⟨(a0,q1,a2,a3,a4,q5,a6),rfl,hq1,hq5,w6⟩
theorem open_call {H:Type} {enc:TypeId×Value→H} {W:World} {r:Reach} {b0:Nat} {v:Value} {d:DataW H} {p:List MemPlace}
  (hv:Value.okWide Tryz.prog W r b0 31 v) (h:DataW.Trod enc Tryz.prog W 0 (fun _=>true) true 31 v d p) :
  ∃ c:CallR,v=callV c∧c.2.1<18446744073709551616∧c.2.2.2.2.2.1<18446744073709551616∧c.2.2.2.2.2.2.size≤maxLen:=by
 obtain⟨cs,rfl,hsz⟩:=okWide_struct Tryz.underlying31 hv
 obtain⟨c0,c1,c2,c3,c4,c5,c6,rfl⟩:=array7O (hsz.trans cellsCaO)
 obtain⟨fuel,hf⟩:=h
 obtain⟨c,e,h1,h2,h3⟩:=open_callB rfl hf
 exact⟨c,congrArg (fun l:List Value=>Value.agg l.toArray) e,h1,h2,h3⟩
end
section
/- Layer 19: receivers as data and in memory; how they came in. -/
open Go.RowKit Go.Joins Go.ChangeShapes Go.WideShapes
set_option maxRecDepth 100000
abbrev RawO:=ObR×(Option Addr×Nat)
abbrev encRO (p:RawO):List Value:=(obA p.1 p.2.1 p.2.2).toList
theorem encRO_len (p:RawO):(encRO p).length=6:=rfl
abbrev Raws (w:World) (A:Option Addr) (l:Nat) (ps:List RawO):Prop:=Recs encRO 6 w A l ps
def OkD (w:World) (p:RawO):Prop:=SliceOk p.2.1 p.1.2.1.2.2.2.length p.2.2∧Syms w p.2.1 p.1.2.1.2.2.2.length p.1.2.1.2.2.2
theorem OkD.below {w w':World} {p:RawO} (h:OkD w p) (hb:Below w.heap.size w w'):OkD w' p:=⟨h.1,Recs.below h.2 hb⟩
theorem OkD.at {w:World} {p:RawO} (h:OkD w p):ObAt w (.agg (obA p.1 p.2.1 p.2.2)) p.1:=⟨_,_,rfl,h.1,h.2⟩
theorem OkD.zero (w:World):OkD w default:=⟨⟨Nat.le_refl _,Nat.zero_le _,fun _=>⟨rfl,rfl⟩⟩,Recs.nil _ _⟩
abbrev OkDs (w:World) (ps:List RawO):Prop:=∀ j:Nat,OkD w (ps.getD j default)
theorem OkDs.below {w w':World} {ps:List RawO} (h:OkDs w ps) (hb:Below w.heap.size w w'):OkDs w' ps:=fun j=>(h j).below hb
def RcAt (w:World) (v:Value) (ps:List RawO):Prop:=∃ A c,v=.agg #[.slice A ps.length c]∧SliceOk A ps.length c∧Raws w A ps.length ps∧OkDs w ps
def IdsO (ps:List RawO):Prop:=∀ j:Nat,(ps.getD j default).1.1<18446744073709551616∧Ids (ps.getD j default).1.2.1.2.2.2
theorem Recs.six {w:World} {A:Option Addr} {l:Nat} {ps:List RawO} (h:Raws w A l ps) (j:Nat) (hj:j<l):∃ b off,A=some ⟨b,off,none⟩∧b<w.heap.size∧w.cell? ⟨b,off+j*6,none⟩=some (.int .u64 ((ps.getD j default).1.1:Nat))∧w.cell? ⟨b,off+j*6+1,none⟩=some (.int .i64 (ps.getD j default).1.2.1.1)∧w.cell? ⟨b,off+j*6+2,none⟩=some (.int .i64 (ps.getD j default).1.2.1.2.1)∧w.cell? ⟨b,off+j*6+3,none⟩=some (.int .i64 (ps.getD j default).1.2.1.2.2.1)∧w.cell? ⟨b,off+j*6+4,none⟩=some (.slice (ps.getD j default).2.1 (ps.getD j default).1.2.1.2.2.2.length (ps.getD j default).2.2)∧w.cell? ⟨b,off+j*6+5,none⟩=some (.int .i64 (ps.getD j default).1.2.2):=by
 obtain⟨b,off,h1,h2,h3⟩:=h.at j hj
 exact⟨b,off,h1,h2,h3 0 _ rfl,h3 1 _ rfl,h3 2 _ rfl,h3 3 _ rfl,h3 4 _ rfl,h3 5 _ rfl⟩
theorem open_objects {H:Type} {enc:TypeId×Value→H} {W:World} {fuel:Nat} {cs:List Value} {x:DataW H×List MemPlace} (h:DataW.trod enc Tryz.prog W 0 (fun _=>true) true fuel 46 cs=some x):∃ A l c ps,cs=[.slice A l c]∧SliceOk A l c∧Raws W A l ps∧OkDs W ps∧IdsO ps:=by
 rcases Go.Deep.open_slice Tryz.underlying46 h with ⟨hcs,_⟩ |⟨a,len,cap,m,n,D,Pl,hcs,_,hl,hm,hmm,_,hx⟩
 ·exact⟨none,0,0,[],hcs,⟨Nat.le_refl _,Nat.zero_le _,fun _=>⟨rfl,rfl⟩⟩,Recs.nil _ _,fun j=>OkD.zero _,fun j=>⟨by simp [default],fun k=>by simp [default]⟩⟩
 ·have hmm':m=cap:=by simpa using hmm
  have each:∀ i,i<len→∃ p:RawO,(∀ k v,(encRO p)[k]?=some v→W.cell? ((a.add (i*6)).add k)=some v)∧OkD W p∧(p.1.1<18446744073709551616∧Ids p.1.2.1.2.2.2):=fun i hi=>by
   obtain⟨cs',h1,h2⟩:=hx i (by omega)
   rw [cellsObO] at h1
   obtain⟨-,hlen,hcell⟩:=World.cells?_some h1
   obtain⟨o,A,d,rfl,hs,hw,hi1,hi2⟩:=open_obL hlen h2
   refine⟨(o,A,d),fun k v hv=>?_,⟨hs,hw⟩,hi2,hi1⟩
   have hk:k<6:=by have:=(List.getElem?_eq_some_iff.1 hv).1;rwa [encRO_len] at this
   rw [hcell k hk]
   exact hv
  obtain⟨q,hq⟩:=Go.Deep.choose_lt each
  have hg:∀ j,j<len→((List.range len).map q).getD j default=q j:=fun j hj=>by simp [List.getD,hj]
  have hz:∀ j,¬ j<len→((List.range len).map q).getD j default=default:=fun j hj=>by
   simp only [List.getD]
   rw [List.getElem?_eq_none (by simp;omega)];rfl
  refine⟨some a,len,cap,(List.range len).map q,hcs,⟨hl,hm,fun h=>by cases h⟩,⟨by simp,fun hp=>?_⟩,fun j=>?_,fun j=>?_⟩
  ·have h00:=(hq 0 hp).1 0 _ rfl
   have haa:∀ i k,(a.add i).add k=a.add (i+k):=fun i k=>Go.Deep.add_add a i k
   rw [haa] at h00
   obtain⟨b,o,ha⟩:∃ b o,a=⟨b,o,none⟩:=addr_at (by simpa using h00)
   subst ha
   refine⟨b,o,rfl,?_,fun j hj k v hv=>?_⟩
   ·have:=block_lt_of_cell h00
    rw [addP] at this
    exact this
   ·rw [hg j hj] at hv
    have:=(hq j hj).1 k v hv
    rw [haa,addP] at this
    rwa [Nat.add_assoc]
  ·by_cases hj:j<len
   ·rw [hg j hj];exact (hq j hj).2.1
   ·rw [hz j hj];exact OkD.zero _
  ·by_cases hj:j<len
   ·rw [hg j hj];exact (hq j hj).2.2
   ·rw [hz j hj];exact⟨by simp [default],fun k=>by simp [default]⟩
theorem cellsRcO:Tryz.prog.cellsOf 48=1:=by kernel_rfl
theorem open_receiver {H:Type} {enc:TypeId×Value→H} {W:World} {r:Reach} {b0:Nat} {v:Value} {d:DataW H} {p:List MemPlace}
  (hv:Value.okWide Tryz.prog W r b0 48 v) (h:DataW.Trod enc Tryz.prog W 0 (fun _=>true) true 48 v d p) :
  ∃ ps:List RawO,RcAt W v ps∧IdsO ps:=by
 obtain⟨cs,rfl,hsz⟩:=okWide_struct Tryz.underlying48 hv
 obtain⟨l⟩:=cs
 have hl:l.length=1:=hsz.trans cellsRcO
 match l,hl with
 | [c0],_=>
 obtain⟨fuel,hf⟩:=h
 match fuel,hf with
 | fuel+1,hf=>
 obtain⟨xs,n,-,-,-,hxl,hf⟩:=DataW.trod_struct Tryz.underlying48 hf
 match xs,hxl with
 | [y0],_=>
 have g0:=hf 0 _ rfl
 have es:Tryz.prog.cellsOf 46=1:=by kernel_rfl
 try simp [es] at g0
 obtain⟨A,l,c,ps,e,hs,hw,ho,hi⟩:=open_objects g0
 replace e:[c0]=[Value.slice A l c]:=e
 injection e with e _
 subst e
 obtain rfl:ps.length=l:=hw.1
 exact⟨ps,⟨A,c,rfl,hs,hw,ho⟩,hi⟩
end
end Go.Proofs.YtcikoaeiopbbbaaGreat
