/- Parts: Of, Same, Nb1, OwnR, Nb3, Nb5, RefD1, RefD2, RefD3, RefD4, RefD5, Deg3, Bitrow3, Order1, RefXor, RefOf, Nb2, OwnF, Nb4, Nb6, Nb7, NbX, NrX, RdM, RdA, RdB, XorO, RdT, Getr, Mat1, Mat2, Like, Mat3, Mat4, Chain, MatM, Mat5, Mat6, Mat7, Mat8, Rd1, Rd2, RngS. -/
import Derived.Test.YtcikoaeiopbbbaaGreatYc
import Derived.ArgAppend
import Derived.Deep.AppendLies
import Derived.Deep.RegionHeld3
import Derived.Deep.RegionLaw
import Derived.Deep.RegionWith
import Derived.Deep.SlicePairs
import Derived.OpenShut
import Derived.RangeFuncBound
import Derived.RangeFuncBox
import Derived.RangeFuncCalls
import Derived.RangeFuncLeaves
import Derived.RangeFuncNested
import Derived.Shelf.Abstract
import Derived.WalkKit
namespace Go.Proofs.YtcikoaeiopbbbaaGreat
set_option linter.unusedVariables false
set_option linter.unusedSimpArgs false
set_option linter.unusedSectionVars false
section
/- Contracts of bitrow.New and bitrow.Of. -/
open Go.RowKit
def NewOut (n:Int) (zs:List Nat) (w:World) (e:Ending) (w':World):Prop:=
 ∃ g,e=.returned (.tuple #[.agg #[.int .i64 n,.slice (some ⟨g,0,none⟩) zs.length zs.length],.int .i64 0])∧Box w' g 22 (numsA zs)∧w.heap.size≤g∧Below w.heap.size w w'
theorem new_yes (n:Nat) (h:lmb n=true) (w:World):Calls Tryz.prog 173 #[.int .i64 n] w (NewOut n (List.replicate (nw n) 0) w):=by
 have hn:=(lmb_iff n).1 h
 have hnw:nw n≤8:=by unfold nw;omega
 have q:=Box.new w 139 #[.int .i64 0,.slice none 0 0]
 have Q:=hZ q
 clear q
 have hmk:=make_any (nw n) (by omega)
 go_enter Tryz.func173,Tryz.ntmps173
 go_wp2_with fail
 refine (lengthMayBe_any n _).mono ?_
 rintro e w' ⟨rfl,rfl⟩
 go_wp2_with fail
 refine (wordsFor_any n (by omega) _).mono ?_
 rintro e w' ⟨rfl,rfl⟩
 go_wp2
 have q:=(Box.new w 139 #[.int .i64 n,.slice (some ⟨w.heap.size+1,0,none⟩) (nw n) (nw n)]).alloc (.cells (numsA (List.replicate (nw n) 0)) 22)
 have q2:=Box.new (w.alloc (.cells #[.int .i64 n,.slice (some ⟨w.heap.size+1,0,none⟩) (nw n) (nw n)] 139)) 22 (numsA (List.replicate (nw n) 0))
 simp only [World.size_alloc] at q2
 refine close_cell Tryz.results173 rfl rfl rfl q Tryz.underlying139 rfl (by kernel_rfl) ⟨w.heap.size+1,by rw [List.length_replicate];rfl,q2,by omega,((Below.refl _ _).alloc (Nat.le_refl _) _).alloc (by simp) _⟩
def orBit (ws:List Nat) (p:Nat):List Nat:=ws.set (p / 64) (ws.getD (p / 64) 0 ||| 2 ^ (p%64))
def ofBits (n:Nat) (ps:List Int):List Nat:=ps.foldl (fun ws p=>orBit ws p.toNat) (List.replicate (nw n) 0)
def there (n:Int) (ps:List Int):Bool:=ps.all fun p=>decide (0≤p)&&decide (p<n)
theorem orBit_length (ws:List Nat) (p:Nat):(orBit ws p).length=ws.length:=by simp [orBit]
theorem orBit_lt (ws:List Nat) (p:Nat) (h:∀ j,ws.getD j 0<18446744073709551616) (j:Nat):(orBit ws p).getD j 0<18446744073709551616:=by
 unfold orBit
 simp only [List.getD,List.getElem?_set]
 split
 ·split
  ·simp only [Option.getD_some]
   have:=h (p / 64)
   exact Nat.or_lt_two_pow (n:=64) this (Nat.pow_lt_pow_right (by omega) (by omega))
  ·simp
 ·exact h j
theorem foldl_bits (ps:List Int) (ws:List Nat) (h:∀ j,ws.getD j 0<18446744073709551616):(ps.foldl (fun ws p=>orBit ws p.toNat) ws).length=ws.length∧∀ j,(ps.foldl (fun ws p=>orBit ws p.toNat) ws).getD j 0<18446744073709551616:=by
 induction ps generalizing ws with
 | nil=>exact⟨rfl,h⟩
 | cons p ps ih=>
   have:=ih (orBit ws p.toNat) (orBit_lt ws _ h)
   rw [orBit_length] at this
   exact this
theorem zeros_lt (n j:Nat):(List.replicate n 0).getD j 0<18446744073709551616:=by
 simp [List.getD,List.getElem?_replicate]
 split<;>simp
theorem ofBits_len (n:Nat) (ps:List Int):(ofBits n ps).length=nw n:=by
 have:=(foldl_bits ps (List.replicate (nw n) 0) (zeros_lt _)).1
 rw [List.length_replicate] at this
 exact this
theorem ofBits_lt (n:Nat) (ps:List Int) (j:Nat):(ofBits n ps).getD j 0<18446744073709551616:=(foldl_bits ps _ (zeros_lt _)).2 j
theorem ofBits_snoc (n:Nat) (ps:List Int) (p:Int):ofBits n (ps++[p])=orBit (ofBits n ps) p.toNat:=by simp [ofBits]
theorem take_one {α:Type} (l:List α) (k:Nat) (d:α) (h:k<l.length):l.take (k+1)=l.take k++[l.getD k d]:=by
 rw [List.take_succ_eq_append_getElem h];simp [List.getD,h]
theorem or_val (x r:Nat) (hx:x<18446744073709551616) (hr:r<64):bits BinOp.or IntKind.u64 (x:Int) (IntKind.u64.wrap (2 ^ r))=((x ||| 2 ^ r:Nat):Int):=by
 have hp:2 ^ r<2 ^ 64:=Nat.pow_lt_pow_right (by omega) hr
 have e:(2:Int) ^ r%18446744073709551616=((2 ^ r:Nat):Int):=by
  have:(2:Int) ^ r=((2 ^ r:Nat):Int):=by simp
  rw [this]
  generalize 2 ^ r=p at *
  omega
 rw [IntKind.wrap_u64,e,u64_or_nat _ _ hx hp]
end
section
/- Contract of the reference's Same: two rows are the same. -/
open Go.RowKit
end
section
/- Contracts of layer 8: Places, Row. -/
open Go.RowKit
def nbState (id:Nat):Nat:=nextS (mixN id)
def nbMany (k id:Nat):Nat:=pickD (tbl (wgts k k)) (mixN (nbState id))
def nbL (k id:Nat):List Nat:=someN k (nbMany k id) (nbState id)
theorem nbState_lt (id:Nat):nbState id<18446744073709551616:=nextS_lt _
theorem nbMany_range (k id:Nat) (h1:1≤k) (h2:k≤64):1≤nbMany k id∧nbMany k id≤k:=by
 have:=pick_range (tab_k k h1 h2) (mixN (nbState id))
 rw [tbl_len,wgts_len] at this
 exact this
theorem srcMay_any (k:Int) (w:World):Calls Tryz.prog 146 #[.int .i64 k] w fun e w'=>e=.returned (.bool (kmb k))∧w=w':=by
 by_cases h:1≤k
 ·by_cases h2:k≤64
  ·rw [kmb_yes ⟨h,h2⟩]
   go_enter Tryz.func146,Tryz.ntmps146
   go_wp2
   go_ret
   exact⟨rfl,rfl⟩
  ·rw [kmb_no (fun x=>h2 x.2)]
   have t:decide (k≤64)=false:=by simpa using h2
   go_enter Tryz.func146,Tryz.ntmps146
   go_wp2
   go_ret
   exact⟨by simp,rfl⟩
 ·rw [kmb_no (fun x=>h x.1)]
  have t:decide (1≤k)=false:=by simpa using h
  go_enter Tryz.func146,Tryz.ntmps146
  go_wp2
  go_ret
  exact⟨by simp,rfl⟩
def PlOut (k id:Nat) (w:World) (e:Ending) (w':World):Prop:=
 ∃ g c,e=.returned (.slice (some ⟨g,0,none⟩) (nbMany k id) c)∧nbMany k id≤c∧NatsAt w' g (nbL k id)∧(nbL k id).length=nbMany k id∧w.heap.size≤g∧g<w'.heap.size∧Below w.heap.size w w'
set_option maxHeartbeats 1000000 in
theorem srcPlaces_any (k id:Nat) (h1:1≤k) (h2:k≤64) (hi:id<18446744073709551616) (w:World):Calls Tryz.prog 161 #[.int .i64 k,.int .u64 id] w (PlOut k id w):=by
 have HST:=hZ (start_any id hi)
 have HNX:=hZ (next_any (mixN id) (mixN_lt id))
 have HTB:=hZ (tableN_any k h1 h2)
 have HR:=hZ (nbMany_range k id h1 h2)
 have HTK:=hZ (tab_k k h1 h2)
 have HTL:=hZ (show (tbl (wgts k k)).length=k by rw [tbl_len,wgts_len])
 have HTW:=hZ (tbl_lt (wgts k k))
 have HSM:=hZ (some_yes (nbState id) k (nbMany k id) (nbState_lt id) h1 (by omega) HR.out.2)
 have HX:=hZ (mixN_lt (nbState id))
 have HPK:=hZ (show nbMany k id=pickD (tbl (wgts k k)) (mixN (nbState id)) from rfl)
 go_enter Tryz.func161,Tryz.ntmps161
 go_wp2_with fail
 refine (HST.out _).mono ?_
 rintro e w1 ⟨rfl,rfl⟩
 go_wp2_with fail
 refine (HNX.out _).mono ?_
 rintro e w1 ⟨rfl,rfl⟩
 go_wp2_with fail
 refine (HTB.out _).mono ?_
 rintro e w1 ⟨v,rfl,hown,hb⟩
 rw [HTL.out] at hown
 obtain⟨A,c,rfl,hlc,hcm,hw⟩:=own_slice hown HTW.out
 have HW:=hZ hw
 have B:=hZ hb
 clear hown hw hb HST HNX HTB
 go_wp2_with fail
 refine (pick_yes A k c _ _ _ HW.out (by unfold maxLen;omega) hlc HX.out HTK.out).mono ?_
 rintro e w2 ⟨rfl,hb⟩
 rw [← HPK.out]
 have B:=hZ (chain B.out hb)
 clear hb HW
 go_wp2_with fail
 refine (HSM.out _).mono ?_
 rintro e w3 ⟨g,c2,rfl,hc,hna,hl,hg0,hg1,hb⟩
 have B3:=hZ (chain B.out hb)
 have hsz:=B.out.size
 go_wp2_with fail
 go_ret
 exact⟨g,c2,rfl,hc,hna,hl,by omega,hg1,B3.out⟩
def nbZ (k id:Nat):List Int:=castZ (nbL k id)
def nbRow (k id:Nat):List Nat:=ofBits k (nbZ k id)
theorem nb_there (k id:Nat):there (k:Int) (nbZ k id)=true:=by
 simp only [there,nbZ,castZ,List.all_eq_true,List.mem_map]
 rintro x ⟨y,hy,rfl⟩
 have:=List.mem_filter.1 hy
 have h2:y<k:=by simpa using this.1
 simp;omega
theorem lmb_k (k:Nat) (h1:1≤k) (h2:k≤64):lmb (k:Int)=true:=(lmb_iff _).2 ⟨by omega,by omega⟩
end
section
/- Rows of words that are a call's own: bitrow.Of so. -/
open Go.RowKit
def OwnW (w:World) (A:Option Addr) (l c:Nat) (zs:List Nat):Prop:=w.ownsRow 0 22 1 (.slice A l c) l (zs.map u64V)
section
variable {w w':World} {A:Option Addr} {l c:Nat} {zs:List Nat}
theorem OwnW.words (h:OwnW w A l c zs) (hz:∀ j,zs.getD j 0<18446744073709551616):Words w A l zs:=own_words h hz
theorem OwnW.below (h:OwnW w A l c zs) (hb:Below w.heap.size w w'):OwnW w' A l c zs:=own_keep h hb
theorem OwnW.alloc (h:OwnW w A l c zs) (o:Obj):OwnW (w.alloc o) A l c zs:=World.ownsRow.alloc h o
theorem OwnW.drew (h:OwnW w A l c zs):OwnW w.drew A l c zs:=h
theorem OwnW.far (h:OwnW w A l c zs) {g:Nat} {t:TypeId} {cs:Array Value} (hb:Box w g t cs) (hne:22≠t) (i:Nat) (u:Value):OwnW (w.setCell ⟨g,i,none⟩ u) A l c zs:=own_far h hb hne i u
theorem OwnW.put2 (h:OwnW w A l c zs) {g:Nat} {a b:Value} (hb:Box w g 139 #[a,b]) (u v:Value):OwnW ((w.setCell ⟨g,0,none⟩ u).setCell ⟨g,1,none⟩ v) A l c zs:=
 (h.far hb (by decide) 0 u).far (hb.put 0 u) (by decide) 1 v
theorem OwnW.grown {v:Value} {base e size n:Nat} {xs:List Value} (h:OwnW w A l c zs) (ho:w.ownsRow base e size v n xs) (hne:e≠22) (hg:w.grownBy w' v.ownBlock):OwnW w' A l c zs:=by
 refine World.ownsRow.kept h hg ?_
 rcases h.2 with ⟨h0,_⟩ |⟨g,cap,cur,h0,_,hh,_⟩
 ·left;rw [h0];rfl
 ·right
  rw [h0]
  exact fun e=>own_ne ho hh hne e.symm
theorem Box.ownW {g n:Nat} (h:Box w g 22 (numsA zs)) (hl:zs.length=n) (hm:n≤maxLen):OwnW w (some ⟨g,0,none⟩) n n zs:=by
 refine⟨by simp [hl],.inr ⟨g,n,numsA zs,rfl,Nat.zero_le _,h,Nat.le_refl _,hm,by simp [numsA,hl],?_⟩⟩
 have e1:(numsA zs).toList=zs.map u64V:=rfl
 rw [e1,List.take_of_length_le (by simp [hl])]
end
def OwnOut (n:Int) (zs:List Nat) (w:World) (e:Ending) (w':World):Prop:=
 ∃ A l c,e=.returned (.tuple #[.agg #[.int .i64 n,.slice A l c],.int .i64 0])∧OwnW w' A l c zs∧Below w.heap.size w w'
def OneOwn (n:Int) (zs:List Nat) (w:World) (e:Ending) (w':World):Prop:=
 ∃ A l c,e=.returned (.agg #[.int .i64 n,.slice A l c])∧OwnW w' A l c zs∧Below w.heap.size w w'
set_option maxHeartbeats 1000000 in
theorem of_own (n:Nat) (A:Option Addr) (l c:Nat) (ps:List Int) (h:lmb n=true) (w:World) (hp:Ints w A l ps) (hl:l≤9223372036854775807) (hth0:there n ps=true):Calls Tryz.prog 160 #[.int .i64 n,.slice A l c] w (OwnOut n (ofBits n ps) w):=by
 have Q:=hZ (Box.new w 139 #[.int .i64 0,.slice none 0 0])
 have HP:=hZ hp
 have HTH:=hZ hth0
 clear hth0
 have hn:=(lmb_iff n).1 h
 have hnw:nw n≤8:=by unfold nw;omega
 clear hp
 go_enter Tryz.func160,Tryz.ntmps160
 go_wp2_with fail
 refine (new_yes n h _).mono ?_
 clear h
 rintro e x1 ⟨g,rfl,hg,hgs,hb⟩
 have Q:=hZ (Q.out.keep hb)
 have HB:=hZ (chain ((Below.refl _ _).alloc (Nat.le_refl _) _) hb)
 have hz:=Q.out.lt
 have hg1:=hg.lt
 have HG:=hZ hg
 rw [List.length_replicate]
 simp at hgs
 clear hb hg
 go_wp2
 have P0:=hZ (Q.out.alloc (.cells #[.int .i64 n,.slice (some ⟨g,0,none⟩) (nw n) (nw n)] 139))
 have P1:=hZ (Box.new x1 139 #[.int .i64 n,.slice (some ⟨g,0,none⟩) (nw n) (nw n)])
 have P2:=hZ (HG.out.alloc (.cells #[.int .i64 n,.slice (some ⟨g,0,none⟩) (nw n) (nw n)] 139))
 have P3:=hZ (HB.out.alloc HB.out.size (.cells #[.int .i64 n,.slice (some ⟨g,0,none⟩) (nw n) (nw n)] 139))
 clear Q HB HG
 go_loopw [21] (fun i wr=>∃ j:Nat,j≤l∧i=.int .i64 j∧there n (ps.take j)=true∧Box wr g 22 (numsA (ofBits n (ps.take j)))∧Box wr w.heap.size 139 #[.int .i64 0,.slice none 0 0]∧Box wr x1.heap.size 139 #[.int .i64 n,.slice (some ⟨g,0,none⟩) (nw n) (nw n)]∧Below w.heap.size w wr)
  (fun i _=>l-(intOf i).toNat)
 case atStart=>exact⟨0,by omega,rfl,rfl,P2.out,P0.out,P1.out,P3.out⟩
 case round=>
  obtain⟨j,hj,rfl,hth,B2,B0,B1,hbel⟩:=hrel
  have R0:=hZ B0
  have R1:=hZ B1
  have R2:=hZ B2
  have HB:=hZ hbel
  have HT:=hZ hth
  clear B0 B1 B2 hbel hth P0 P1 P2 P3
  obtain⟨a0,a1,f0,f1⟩:=R0.out.two
  obtain⟨b0,b1,-,-⟩:=R1.out.two
  by_cases hlt:j<l
  ·obtain⟨q,o,rfl,lt1,hc1⟩:=HP.out.2.2 (by omega)
   have cu:=(HB.out.cell (p:=⟨q,o+j,none⟩) lt1).trans (hc1 j hlt)
   obtain⟨x,ex⟩:∃ x,x=ps.getD j 0:=⟨_,rfl⟩
   rw [← ex] at cu
   have EX:=hZ ex
   clear ex hc1
   go_wp2_with fail
   refine (isPlace_any _ _ _ _ x _).mono ?_
   rintro e w2 ⟨rfl,hb⟩
   have S0:=hZ (R0.out.keep hb)
   have S1:=hZ (R1.out.keep hb)
   have S2:=hZ (R2.out.keep hb)
   have HC:=hZ (chain HB.out hb)
   clear hb a0 a1 f0 f1 b0 b1 cu
   obtain⟨a0,a1,f0,f1⟩:=S0.out.two
   obtain⟨b0,b1,-,-⟩:=S1.out.two
   have htk:ps.take (j+1)=ps.take j++[x]:=by rw [EX.out];exact take_one ps j 0 (by rw [HP.out.1];exact hlt)
   have HTk:=hZ htk
   clear htk
   by_cases hx:0≤x∧x<n
   ·obtain⟨y,rfl⟩:=Int.eq_ofNat_of_zero_le hx.1
    have t0:(decide (0≤(y:Int))&&decide ((y:Int)<n))=true:=by simp;omega
    rw [t0]
    clear t0
    have hlen:(ofBits n (ps.take j)).length=nw n:=ofBits_len n _
    have hy8:y / 64<nw n:=by unfold nw;omega
    have hv:=ofBits_lt n (ps.take j) (y / 64)
    have cg:w2.cell? ⟨g,y / 64,none⟩=some (.int .u64 ((ofBits n (ps.take j)).getD (y / 64) 0:Nat)):=by rw [S2.out.cell,numsA_get _ _ (by omega)]
    have fg:=S2.out.free (y / 64)
    have P2:=hZ ((S2.out.put (y / 64) (.int .u64 (((ofBits n (ps.take j)).getD (y / 64) 0 ||| 2 ^ (y%64):Nat):Int))).drew)
    have HV:=hZ (or_val ((ofBits n (ps.take j)).getD (y / 64) 0) (y%64) hv (by omega))
    have n1:w.heap.size≠g:=by omega
    have n2:x1.heap.size≠g:=by omega
    have P0:=hZ ((S0.out.far (p:=⟨g,y / 64,none⟩) n1 (.int .u64 (((ofBits n (ps.take j)).getD (y / 64) 0 ||| 2 ^ (y%64):Nat):Int))).drew)
    have P1:=hZ ((S1.out.far (p:=⟨g,y / 64,none⟩) n2 (.int .u64 (((ofBits n (ps.take j)).getD (y / 64) 0 ||| 2 ^ (y%64):Nat):Int))).drew)
    have P3:=hZ ((HC.out.setCell (p:=⟨g,y / 64,none⟩) (by simp;omega) (.int .u64 (((ofBits n (ps.take j)).getD (y / 64) 0 ||| 2 ^ (y%64):Nat):Int))).drew)
    have H4:Hid (there n (ps.take (j+1))=true):=by
     show there n (ps.take (j+1))=true
     rw [HTk.out]
     have:=HT.out
     simp only [there,List.all_append,Bool.and_eq_true] at this ⊢
     exact⟨this,by simp;omega⟩
    have H5:Hid ((numsA (ofBits n (ps.take j))).setIfInBounds (y / 64) (.int .u64 (((ofBits n (ps.take j)).getD (y / 64) 0 ||| 2 ^ (y%64):Nat):Int))=numsA (ofBits n (ps.take (j+1)))):=by
     show _=_
     rw [numsA_set,HTk.out,ofBits_snoc];rfl
    generalize (ofBits n (ps.take j)).getD (y / 64) 0=v at *
    go_wp2
    have g1:(y:Int).tdiv 64=((y / 64:Nat):Int):=by rw [Int.tdiv_eq_ediv_of_nonneg (by omega)];omega
    have g2:(y:Int).tmod 64=((y%64:Nat):Int):=by rw [Int.tmod_eq_emod_of_nonneg (by omega)];omega
    have g3:IntKind.i64.wrap ((y / 64:Nat):Int)=((y / 64:Nat):Int):=IntWalk.i64_in _ (by omega)
    have g4:(0:Int)≤((y / 64:Nat):Int):=by omega
    have g5:((y / 64:Nat):Int)<(nw n:Int):=by omega
    go_region
    rw [HV.out]
    clear g1 g2 g3 g4 g5 a0 a1 f0 f1 b0 b1 cg fg
    generalize (w2.setCell ⟨g,y / 64,none⟩ (.int .u64 ((v ||| 2 ^ (y%64):Nat):Int))).drew=wn at *
    go_wp2
    go_roundw
    case rel=>exact⟨j+1,by omega,by go_num,H4.out,by have:=P2.out;rw [H5.out] at this;exact this,P0.out,P1.out,P3.out⟩
    case measure=>simp [intOf];omega
   ·have t0:(decide (0≤x)&&decide (x<n))=false:=by simp;omega
    rw [t0]
    clear t0
    have H4:Hid (there n ps=false):=by
     show there n ps=false
     rw [← List.take_append_drop (j+1) ps,HTk.out]
     have:(decide (0≤x)&&decide (x<n))=false:=by simp;omega
     simp [there,List.all_append,this]
    exact absurd HTH.out (by rw [H4.out];decide)
  ·obtain rfl:j=l:=by omega
   have H4:Hid (ps.take j=ps):=by
    show ps.take j=ps
    exact List.take_of_length_le (by rw [HP.out.1];omega)
   go_wp2
   refine close_cell Tryz.results160 rfl rfl rfl R0.out.put2 Tryz.underlying139 rfl (by kernel_rfl) ?_
   have h6:=R2.out
   rw [H4.out] at h6
   have n1:g≠w.heap.size:=by omega
   have hw:=(h6.far (p:=⟨w.heap.size,0,none⟩) n1 (.int .i64 n)).far (p:=⟨w.heap.size,1,none⟩) n1 (.slice (some ⟨g,0,none⟩) (nw n) (nw n))
   exact⟨_,_,_,rfl,hw.ownW (ofBits_len n ps) (by unfold maxLen;omega),(HB.out.setCell (p:=⟨w.heap.size,0,none⟩) (Nat.le_refl _) _).setCell (p:=⟨w.heap.size,1,none⟩) (Nat.le_refl _) _⟩
end
section
/- Rows of words that are a call's own: bitrow.Of and source.row so. -/
open Go.RowKit
set_option maxHeartbeats 1000000 in
theorem srcRow_own (k id:Nat) (h1:1≤k) (h2:k≤64) (hi:id<18446744073709551616) (w:World):Calls Tryz.prog 147 #[.int .i64 k,.int .u64 id] w (OneOwn k (nbRow k id) w):=by
 have HS:=hZ (srcPlaces_any k id h1 h2 hi)
 have HM:=hZ (nbMany_range k id h1 h2)
 have HN:=hZ (lmb_k k h1 h2)
 have HT:=hZ (nb_there k id)
 have q0:=Box.new w 139 #[.int .i64 0,.slice none 0 0]
 have Q0:=hZ q0
 have HW:=hZ (show Below w.heap.size w (w.alloc (.cells #[.int .i64 0,.slice none 0 0] 139)) from (Below.refl _ _).alloc (Nat.le_refl _) _)
 clear q0
 go_enter Tryz.func147,Tryz.ntmps147
 go_wp2_with fail
 refine (HS.out _).mono ?_
 rintro e w1 ⟨g,c,rfl,hc,hna,hl,hg0,hg1,hb⟩
 have Q0:=hZ (Q0.out.keep hb)
 have HW:=hZ (chain HW.out hb)
 have HI:=hZ (nats_ints hna hl hg1 (some_bound k _ _ (by omega)))
 clear hna hb
 go_wp2_with fail
 refine (of_own k (some ⟨g,0,none⟩) (nbMany k id) c (nbZ k id) HN.out _ HI.out (by have:=HM.out.2;omega) HT.out).mono ?_
 rintro e w2 ⟨A,l,c2,rfl,hw,hb⟩
 have P0:=hZ ((Q0.out.keep hb).alloc (.cells #[.int .i64 k,.slice A l c2] 139))
 have T1:=hZ ((chain HW.out hb).alloc (chain HW.out hb).size (.cells #[.int .i64 k,.slice A l c2] 139))
 have HWo:=hZ (hw.alloc (.cells #[.int .i64 k,.slice A l c2] 139))
 clear hw hb
 obtain⟨r0,r1,r2,r3⟩:=P0.out.two
 go_wp2
 refine close_one Tryz.results147 rfl rfl P0.out.put2 Tryz.underlying139 rfl (by kernel_rfl) ⟨_,_,_,rfl,HWo.out.put2 P0.out _ _,?_⟩
 exact (T1.out.setCell (p:=⟨w.heap.size,0,none⟩) (Nat.le_refl _) _).setCell (p:=⟨w.heap.size,1,none⟩) (Nat.le_refl _) _
end
section
/- neighbours.Rows: the rows of several symbols. -/
open Go.RowKit
theorem own_drew {w:World} {base e size n:Nat} {v:Value} {xs:List Value} (h:w.ownsRow base e size v n xs):w.drew.ownsRow base e size v n xs:=h
def flatR (k:Int) (rs:List (Option Addr×Nat×Nat)):List Value:=rs.flatMap fun r=>[.int .i64 k,.slice r.1 r.2.1 r.2.2]
theorem flatR_snoc (k:Int) (rs:List (Option Addr×Nat×Nat)) (A:Option Addr) (l c:Nat):flatR k (rs++[(A,l,c)])=flatR k rs++[.int .i64 k,.slice A l c]:=by simp [flatR]
def MatW (w:World) (base:Nat) (k:Int) (v:Value) (ls:List (List Nat)):Prop:=
 ∃ rs,rs.length=ls.length∧w.ownsRow base 139 2 v ls.length (flatR k rs)∧∀ j,j<ls.length→OwnW w (rs.getD j (none,0,0)).1 (rs.getD j (none,0,0)).2.1 (rs.getD j (none,0,0)).2.2 (ls.getD j [])
theorem MatW.nil (w:World) (base:Nat) (k:Int):MatW w base k (.slice none 0 0) []:=⟨[],rfl,World.ownsRow_nil _ _ _ _,fun j hj=>by cases hj⟩
theorem MatW.below {w w':World} {base:Nat} {k:Int} {v:Value} {ls:List (List Nat)} (h:MatW w base k v ls) (hb:Below w.heap.size w w'):MatW w' base k v ls:=by
 obtain⟨rs,h1,h2,h3⟩:=h
 exact⟨rs,h1,own_keep h2 hb,fun j hj=>(h3 j hj).below hb⟩
theorem MatW.alloc {w:World} {base:Nat} {k:Int} {v:Value} {ls:List (List Nat)} (h:MatW w base k v ls) (o:Obj):MatW (w.alloc o) base k v ls:=h.below ((Below.refl _ _).alloc (Nat.le_refl _) o)
theorem MatW.far {w:World} {base:Nat} {k:Int} {v:Value} {ls:List (List Nat)} (h:MatW w base k v ls) {g:Nat} {t:TypeId} {cs:Array Value} (hb:Box w g t cs) (hne:22≠t) (hne2:139≠t) (i:Nat) (u:Value):MatW (w.setCell ⟨g,i,none⟩ u) base k v ls:=by
 obtain⟨rs,h1,h2,h3⟩:=h
 exact⟨rs,h1,own_far h2 hb hne2 i u,fun j hj=>(h3 j hj).far hb hne i u⟩
theorem MatW.snoc {w:World} {base:Nat} {k:Int} {v:Value} {rs:List (Option Addr×Nat×Nat)} {ls:List (List Nat)} {A:Option Addr} {l c:Nat} {z:List Nat} (h1:rs.length=ls.length) (h2:w.ownsRow base 139 2 v (ls.length+1) (flatR k rs++[.int .i64 k,.slice A l c]))
  (h3:∀ j,j<ls.length→OwnW w (rs.getD j (none,0,0)).1 (rs.getD j (none,0,0)).2.1 (rs.getD j (none,0,0)).2.2 (ls.getD j [])) (h4:OwnW w A l c z):MatW w base k v (ls++[z]):=by
 refine⟨rs++[(A,l,c)],by simp [h1],?_,fun j hj=>?_⟩
 ·rw [flatR_snoc,List.length_append];exact h2
 ·rw [List.length_append] at hj
  simp only [List.length_cons,List.length_nil] at hj
  by_cases h:j<ls.length
  ·have:=h3 j h
   simp only [List.getD,List.getElem?_append_left h,List.getElem?_append_left (h1 ▸ h)] at this ⊢
   exact this
  ·obtain rfl:j=ls.length:=by omega
   have e1:(rs++[(A,l,c)]).getD ls.length (none,0,0)=(A,l,c):=by rw [← h1];simp [List.getD]
   have e2:(ls++[z]).getD ls.length []=z:=by simp [List.getD]
   rw [e1,e2];exact h4
theorem row_info:(Tryz.prog.info? 139).map (fun i=>(i.zero,i.size,i.bytes))=some (some (.agg #[.int .i64 0,.slice none 0 0]),2,32):=by kernel_rfl
def MatOut (k:Nat) (f:Nat→List Nat) (zs:List Nat) (w:World) (e:Ending) (w':World):Prop:=
 ∃ v,e=.returned (.tuple #[.agg #[.int .i64 k,v],.int .i64 0])∧MatW w' w.heap.size k v (zs.map f)∧Below w.heap.size w w'
set_option maxRecDepth 100000 in
set_option maxHeartbeats 2000000 in
theorem rows_gen (k:Nat) (f:Nat→List Nat) (hk:1≤k∧k≤64) (hM:∀ w,Calls Tryz.prog 146 #[.int .i64 k] w fun e w'=>e=.returned (.bool true)∧w=w')
  (hS:∀ id:Nat,id<18446744073709551616→∀ w,Calls Tryz.prog 147 #[.int .i64 k,.int .u64 id] w (OneOwn k (f id) w))
  (A:Option Addr) (l c:Nat) (zs:List Nat) (w:World) (hz:Words w A l zs) (hl:l≤64) :
  Calls Tryz.prog 134 #[.int .i64 k,.slice A l c] w (MatOut k f zs w):=by
 have HM:=hZ hM
 have HS:=hZ hS
 have HZ:=hZ hz
 clear hM hS hz
 have hl2:¬ (64:Int)<l:=by omega
 obtain⟨i0,hi,hz0,hz1,hz2⟩:=info_parts row_info
 have HI:=hZ hi
 have HZ0:=hZ hz0
 have HZ1:=hZ hz1
 have HZ2:=hZ hz2
 clear hi hz0 hz1 hz2
 have Q0:=hZ ((Box.new w 102 #[.int .i64 0,.slice none 0 0]).alloc (.cells #[.int .i64 k,.slice none 0 0] 102))
 have q1:=Box.new (w.alloc (.cells #[.int .i64 0,.slice none 0 0] 102)) 102 #[.int .i64 k,.slice none 0 0]
 have HW:=hZ (show Below w.heap.size w ((w.alloc (.cells #[.int .i64 0,.slice none 0 0] 102)).alloc (.cells #[.int .i64 k,.slice none 0 0] 102)) from ((Below.refl _ _).alloc (Nat.le_refl _) _).alloc (by simp) _)
 simp only [World.size_alloc] at q1
 have Q1:=hZ q1
 clear q1
 go_enter Tryz.func134,Tryz.ntmps134
 go_wp2_with fail
 refine (HM.out _).mono ?_
 rintro e w1 ⟨rfl,rfl⟩
 go_wp2_with fail
 go_loopw [25] (fun t wr=>∃ (i:Nat) (v:Value),i≤l∧t=.int .i64 i∧Box wr (w.heap.size+1) 102 #[.int .i64 k,v]∧MatW wr w.heap.size k v ((zs.take i).map f)∧Box wr w.heap.size 102 #[.int .i64 0,.slice none 0 0]∧Below w.heap.size w wr) (fun t _=>l-(intOf t).toNat)
 case atStart=>exact⟨0,_,by omega,rfl,Q1.out,MatW.nil _ _ _,Q0.out,HW.out⟩
 case round=>
  obtain⟨i,v,hi,rfl,B1,hmat,B0,hbel⟩:=hrel
  have R1:=hZ B1
  have R0:=hZ B0
  have HMa:=hZ hmat
  have HB:=hZ hbel
  clear B1 B0 hmat hbel Q0 Q1 HW
  by_cases hlt:i<l
  ·have hlt':(i:Int)<(l:Int):=by omega
   obtain⟨q,o,rfl,lt1,hc1⟩:=HZ.out.2.2 (by omega)
   have cu:=(HB.out.cell (p:=⟨q,o+i,none⟩) lt1).trans (hc1 i hlt)
   have hx:=HZ.out.2.1 i
   have HTK:=hZ (show (zs.take (i+1)).map f=(zs.take i).map f++[f (zs.getD i 0)] by rw [take_one zs i 0 (by rw [HZ.out.1];exact hlt)];simp)
   have HTL:=hZ (show ((zs.take i).map f).length=i by have:=HZ.out.1;simp;omega)
   clear hc1 lt1
   generalize zs.getD i 0=x at *
   have HX:=hZ hx
   clear hx
   obtain⟨a0,a1,f0,f1⟩:=R1.out.two
   obtain⟨rs,hr1,hr2,hr3⟩:=HMa.out
   rw [HTL.out] at hr1 hr2 hr3
   have HOW:=hZ hr2
   have HRS:=hZ hr3
   clear hr2 hr3
   go_wp2_with fail
   go_region_law (first
    | (go_simp;go_at_call 147;refine (HS.out x HX.out _).mono ?_;rintro e1 x1 ⟨A1,l1,c1,rfl,hw,hb⟩;have S1:=hZ (R1.out.drew.keep hb);have S0:=hZ (R0.out.drew.keep hb);have SO:=hZ (own_keep (own_drew HOW.out) hb);have SR:=hZ (fun j hj=>(HRS.out j hj).drew.below hb);have SB:=hZ (chain HB.out.drew hb);have SW:=hZ hw;clear hb hw;have T1:=hZ (S1.out.alloc (.cells #[.int .i64 k,.slice A1 l1 c1] 139));obtain⟨s0,s1,sf0,sf1⟩:=S1.out.two;obtain⟨t0,t1,tf0,tf1⟩:=T1.out.two;have hb0:=SB.out.size;have hn0:=SO.out.lt)
    | (refine step_append_lies _ rfl (.tmp 30) (.tmp 34) 99 rfl w.heap.size 139 i0 (.agg #[.int .i64 0,.slice none 0 0]) 2 32 Tryz.underlying99 HI.out HZ0.out HZ1.out HZ2.out rfl (by decide) v i (flatR k rs) (by simp [Act.eval,Act.put]) (World.ownsRow.alloc SO.out (.cells #[.int .i64 k,.slice A1 l1 c1] 139)) ⟨x1.heap.size,0,none⟩ 1 1 [.int .i64 k,.slice A1 l1 c1] (by simp [Act.eval,Act.put]) rfl (World.news_of_block (Box.new x1 139 #[.int .i64 k,.slice A1 l1 c1])) (by simp [Value.oneCell']) (by omega) (by simp [maxLen];omega) (by omega) (by simp;omega) _ rfl ?_;intro g cap w1 hown hgrow _ _;have V1:=hZ (T1.out.grown hgrow (own_ne SO.out S1.out (by decide)));have HO2:=hZ hown;have HG:=hZ hgrow;clear hown hgrow;obtain⟨v0,v1,vf0,vf1⟩:=V1.out.two))
   all_goals
    have W0:=hZ ((S0.out.alloc (.cells #[.int .i64 k,.slice A1 l1 c1] 139)).grown HG.out (own_ne SO.out S0.out (by decide)))
    have WB:=hZ ((SB.out.alloc SB.out.size (.cells #[.int .i64 k,.slice A1 l1 c1] 139)).grown HG.out (SB.out.alloc SB.out.size (.cells #[.int .i64 k,.slice A1 l1 c1] 139)).size (fun k hk=>(SO.out.lt k hk).1))
    have WR:=hZ (fun j hj=>OwnW.grown ((SR.out j hj).alloc (.cells #[.int .i64 k,.slice A1 l1 c1] 139)) (World.ownsRow.alloc SO.out (.cells #[.int .i64 k,.slice A1 l1 c1] 139)) (by decide) HG.out)
    have WW:=hZ (OwnW.grown (SW.out.alloc (.cells #[.int .i64 k,.slice A1 l1 c1] 139)) (World.ownsRow.alloc SO.out (.cells #[.int .i64 k,.slice A1 l1 c1] 139)) (by decide) HG.out)
    have WM:=hZ (MatW.snoc (ls:=(zs.take i).map f) (by rw [HTL.out];exact hr1) (by rw [HTL.out];exact HO2.out) (by rw [HTL.out];exact WR.out) WW.out)
    clear HG SO SR SB SW S0 S1 T1 HOW HRS HO2 WR WW HMa R1 R0 HB
    go_wp2_with fail
    go_roundw
    case rel=>exact⟨i+1,_,by omega,by go_num,V1.out.put 1 _,by rw [HTK.out];exact WM.out.far V1.out (by decide) (by decide) 1 _,W0.out.far (p:=⟨w.heap.size+1,1,none⟩) (by simp) _,WB.out.setCell (p:=⟨w.heap.size+1,1,none⟩) (by simp) _⟩
    case measure=>simp [intOf]<;>omega
  ·obtain rfl:i=l:=by omega
   have hlt':¬ (i:Int)<(i:Int):=by omega
   have HTK:=hZ (show zs.take i=zs from List.take_of_length_le (by rw [HZ.out.1];omega))
   rw [HTK.out] at HMa
   obtain⟨A',c',hv⟩:∃ A' c',v=.slice A' zs.length c':=by
    obtain⟨rs,-,h2,-⟩:=HMa.out
    obtain⟨A',c',h,-⟩:=own_form h2
    rw [List.length_map] at h
    exact⟨A',c',h⟩
   subst hv
   obtain⟨a0,a1,-,-⟩:=R1.out.two
   obtain⟨b0,b1,f0,f1⟩:=R0.out.two
   go_wp2
   refine close_cell Tryz.results134 rfl rfl rfl R0.out.put2 Tryz.underlying102 rfl (by kernel_rfl) ⟨_,rfl,?_,?_⟩
   ·exact (HMa.out.far R0.out (by decide) (by decide) 0 _).far (R0.out.put 0 _) (by decide) (by decide) 1 _
   ·exact (HB.out.setCell (p:=⟨w.heap.size,0,none⟩) (Nat.le_refl _) _).setCell (p:=⟨w.heap.size,1,none⟩) (Nat.le_refl _) _
end
section
/- Contracts of layer 7's reference: Root, digits, Same. -/
open Go.RowKit
end
section
/- Contracts of layer 7's reference: Weight. -/
open Go.RowKit
end
section
/- Contracts of layer 7's reference: Weights, Table. -/
open Go.RowKit
end
section
/- Contract of layer 7's reference: Same. -/
open Go.RowKit
end
section
/- Contract of layer 7's reference: Table. -/
open Go.RowKit
end
section
/- Contracts of layer 7's reference: Right, Pick. -/
open Go.RowKit
end
section
/- Contracts of bitrow.And's join, and of bitrow.Xor and And. -/
open Go.RowKit
end
section
/- Rows of one size that may be: what Xor and And of them are; the plain laws of both. -/
open Go.RowKit
theorem right_len_eq {n:Int} {us:List Nat} (h:rightB n us=true):us.length=nw n.toNat:=by
 simp only [rightB,Bool.and_eq_true,beq_iff_eq] at h
 exact h.1.2
theorem right_lmb {n:Int} {us:List Nat} (h:rightB n us=true):lmb n=true:=by
 simp only [rightB,Bool.and_eq_true] at h
 exact h.1.1
theorem zip_last (g:Nat→Nat→Nat) (us vs:List Nat) (i:Nat) (hu:i<us.length) (hv:i<vs.length):(List.zipWith g us vs).getD i 0=g (us.getD i 0) (vs.getD i 0):=by
 simp [List.getD,List.getElem?_zipWith,hu,hv]
theorem right_zip (g:Nat→Nat→Nat) (hg:∀ x y k,x / 2 ^ k=0→y / 2 ^ k=0→g x y / 2 ^ k=0) {n:Int} {us vs:List Nat} (h1:rightB n us=true) (h2:rightB n vs=true):rightB n (List.zipWith g us vs)=true:=by
 have l1:=right_len_eq h1
 have l2:=right_len_eq h2
 have hl:(List.zipWith g us vs).length=us.length:=by simp;omega
 simp only [rightB,Bool.and_eq_true,Bool.or_eq_true,beq_iff_eq] at h1 h2 ⊢
 refine⟨⟨h1.1.1,by rw [hl];exact h1.1.2⟩,?_⟩
 rcases h1.2 with h | h
 ·exact .inl h
 ·rcases h2.2 with h' | h'
  ·exact .inl h'
  ·by_cases h0:us.length=0
   ·left
    rw [l1] at h0
    unfold nw at h0
    omega
   ·right
    rw [hl,zip_last g us vs _ (by omega) (by omega)]
    exact hg _ _ _ h (by rw [l2,← l1] at h';exact h')
theorem xor_div (x y k:Nat) (h:x / 2 ^ k=0) (h':y / 2 ^ k=0):(x^^^y) / 2 ^ k=0:=by
 have p:0<2 ^ k:=Nat.two_pow_pos k
 rw [Nat.div_eq_zero_iff] at h h' ⊢
 right
 exact Nat.xor_lt_two_pow (by omega) (by omega)
def xorL (us vs:List Nat):List Nat:=List.zipWith (·^^^·) us vs
theorem right_xor {n:Int} {us vs:List Nat} (h1:rightB n us=true) (h2:rightB n vs=true):rightB n (xorL us vs)=true:=right_zip _ xor_div h1 h2
end
section
/- Contracts of the reference's Xor and And. -/
open Go.RowKit
set_option maxRecDepth 100000
theorem bitAt_test (us:List Nat) (i:Nat):(bitAt us i==1)=(us.getD (i / 64) 0).testBit (i%64):=by
 rw [Nat.testBit_eq_decide_div_mod_eq];rfl
theorem right_bits {n:Nat} {us:List Nat} (h:rightB n us=true) (i:Nat) (hi:n≤i) (hl:i<64*us.length):bitAt us i=0:=by
 have hlm:=right_lmb h
 have hle:=right_len_eq h
 rw [Int.toNat_natCast] at hle
 rcases bitAt_le us i with h0 | h1
 ·exact h0
 ·have:=not_right_of_bit n us.length i us hlm rfl hle hi hl h1
  rw [h] at this
  cases this
end
section
/- Contracts of the reference's In, There and Of. -/
open Go.RowKit
theorem orBit_test (ws:List Nat) (p i j:Nat) (hi:i<ws.length):((orBit ws p).getD i 0).testBit j=((ws.getD i 0).testBit j||(p / 64==i&&p%64==j)):=by
 unfold orBit
 by_cases h:p / 64=i
 ·subst h
  have e:(ws.set (p / 64) (ws.getD (p / 64) 0 ||| 2 ^ (p%64))).getD (p / 64) 0=ws.getD (p / 64) 0 ||| 2 ^ (p%64):=by
   simp [List.getD,hi]
  rw [e,Nat.testBit_or,Nat.testBit_two_pow]
  simp
  rfl
 ·have e:(ws.set (p / 64) (ws.getD (p / 64) 0 ||| 2 ^ (p%64))).getD i 0=ws.getD i 0:=by
   simp [List.getD,List.getElem?_set,h]
  have h':(p / 64==i)=false:=by simpa using h
  rw [e,h'];simp
theorem foldl_test (ps:List Int) (ws:List Nat) (i j:Nat) (hi:i<ws.length):((ps.foldl (fun ws p=>orBit ws p.toNat) ws).getD i 0).testBit j=((ws.getD i 0).testBit j||ps.any fun p=>p.toNat / 64==i&&p.toNat%64==j):=by
 induction ps generalizing ws with
 | nil=>simp
 | cons p ps ih=>
   rw [List.foldl_cons,ih (orBit ws p.toNat) (by rw [orBit_length];exact hi),orBit_test ws p.toNat i j hi,List.any_cons,Bool.or_assoc]
theorem ofBits_test (n:Nat) (ps:List Int) (i j:Nat) (hi:i<nw n):((ofBits n ps).getD i 0).testBit j=ps.any fun p=>p.toNat / 64==i&&p.toNat%64==j:=by
 unfold ofBits
 rw [foldl_test ps _ i j (by simpa using hi)]
 have e:(List.replicate (nw n) 0).getD i 0=0:=by simp [List.getD,hi]
 rw [e];simp
end
section
/- Contracts of the reference's layer 8: Places, Row. -/
open Go.RowKit
end
section
/- The reference's From and Of: rows of words of the call's own. -/
open Go.RowKit
end
section
/- The reference's From, Of, Row: rows of words of the call's own. -/
open Go.RowKit
end
section
/- The reference's Rows. -/
open Go.RowKit
end
section
/- The reference's Same of two matrices. -/
open Go.RowKit
theorem flatR_at (k:Int) (rs:List (Option Addr×Nat×Nat)) (j:Nat) (hj:j<rs.length):(flatR k rs)[j*2]?=some (.int .i64 k)∧(flatR k rs)[j*2+1]?=some (.slice (rs.getD j (none,0,0)).1 (rs.getD j (none,0,0)).2.1 (rs.getD j (none,0,0)).2.2):=by
 induction rs generalizing j with
 | nil=>cases hj
 | cons r rs ih=>
   have e:flatR k (r::rs)=.int .i64 k::.slice r.1 r.2.1 r.2.2::flatR k rs:=rfl
   cases j with
   | zero=>rw [e];exact⟨rfl,rfl⟩
   | succ j=>
     have h:=ih j (by simpa using hj)
     rw [e,show (j+1)*2=j*2+1+1 by omega]
     exact h
theorem add_zero_off (g j:Nat):(⟨g,0,none⟩:Addr).add j=⟨g,j,none⟩:=by unfold Addr.add;split<;>simp_all
theorem MatW.at {w:World} {base:Nat} {k:Int} {A:Option Addr} {n c:Nat} {ls:List (List Nat)} (h:MatW w base k (.slice A n c) ls) (j:Nat) (hj:j<ls.length) :
  ∃ g B l d,A=some ⟨g,0,none⟩∧g<w.heap.size∧w.cell? ⟨g,j*2,none⟩=some (.int .i64 k)∧w.cell? ⟨g,j*2+1,none⟩=some (.slice B l d)∧OwnW w B l d (ls.getD j []):=by
 obtain⟨rs,h1,h2,h3⟩:=h
 obtain⟨f1,f2⟩:=flatR_at k rs j (by omega)
 have h3:=h3 j hj
 have hA:=h2.2
 rcases hA with ⟨-,h0⟩ |⟨g,cap,cur,hv,-⟩
 ·omega
 ·injection hv with hA _ _
  subst hA
  have hc:=World.ownsRow.cells h2 (g:=g) rfl
  have c1:=hc _ _ f1
  have c2:=hc _ _ f2
  rw [add_zero_off] at c1 c2
  exact⟨g,_,_,_,rfl,(h2.lt g rfl).2,c1,c2,h3⟩
end
section
/- NeighboursTell: the walk. -/
open Go.RowKit
end
section
/- NeighboursRows: the walk. -/
open Go.RowKit
theorem nbRow_lt (k id j:Nat):(nbRow k id).getD j 0<18446744073709551616:=ofBits_lt k _ j
theorem rowsRows_lt (k:Nat) (zs:List Nat) (j i:Nat):((zs.map (nbRow k)).getD j []).getD i 0<18446744073709551616:=by
 by_cases h:j<zs.length
 ·have e:(zs.map (nbRow k)).getD j []=nbRow k (zs.getD j 0):=by simp [List.getD,h]
  rw [e];exact nbRow_lt _ _ _
 ·have e:(zs.map (nbRow k)).getD j []=[]:=by simp [List.getD,List.getElem?_eq_none (Nat.le_of_not_lt h)]
  rw [e];simp
theorem rows_yes (k:Nat) (h1:1≤k) (h2:k≤64) (A:Option Addr) (l c:Nat) (zs:List Nat) (w:World) (hz:Words w A l zs) (hl:l≤64) :
  Calls Tryz.prog 134 #[.int .i64 k,.slice A l c] w (MatOut k (nbRow k) zs w):=by
 have HM:=srcMay_any k
 rw [kmb_yes (n:=k) (by omega)] at HM
 exact rows_gen k (nbRow k) ⟨h1,h2⟩ HM (fun id hi w=>srcRow_own k id h1 h2 hi w) A l c zs w hz hl
theorem MatW.form {w:World} {base:Nat} {k:Int} {v:Value} {ls:List (List Nat)} {n:Nat} (h:MatW w base k v ls) (hn:ls.length=n):∃ A c,v=.slice A n c:=by
 obtain⟨rs,-,h2,-⟩:=h
 obtain⟨A,c,h,-⟩:=own_form h2
 exact⟨A,c,by rw [h,hn]⟩
end
section
/- Rows that are numbers: what some of them span, by xor; reduced rows, and that they are one. No program. -/
def xs (S:List Nat):Nat:=S.foldr (·^^^·) 0
theorem xs_cons (a:Nat) (S:List Nat):xs (a::S)=a^^^xs S:=rfl
theorem xs_append (S T:List Nat):xs (S++T)=xs S^^^xs T:=by
 induction S with
 | nil=>simp [xs]
 | cons a S ih=>rw [List.cons_append,xs_cons,xs_cons,ih,Nat.xor_assoc]
def Sp (L:List Nat) (v:Nat):Prop:=∃ S:List Nat,(∀ x∈S,x∈L)∧v=xs S
theorem sp_zero (L:List Nat):Sp L 0:=⟨[],(fun _ h=>by cases h),rfl⟩
theorem sp_mem {L:List Nat} {r:Nat} (h:r∈L):Sp L r:=⟨[r],fun x hx=>by simp at hx;subst hx;exact h,by simp [xs]⟩
theorem sp_xor {L:List Nat} {v u:Nat} (hv:Sp L v) (hu:Sp L u):Sp L (v^^^u):=by
 obtain⟨S,h1,rfl⟩:=hv
 obtain⟨T,h2,rfl⟩:=hu
 exact⟨S++T,fun x hx=>by rcases List.mem_append.1 hx with h | h;exact h1 x h;exact h2 x h,(xs_append S T).symm⟩
theorem sp_ind {L:List Nat} {P:Nat→Prop} (h0:P 0) (hs:∀ r u,r∈L→P u→P (r^^^u)) {v:Nat} (h:Sp L v):P v:=by
 obtain⟨S,h1,rfl⟩:=h
 induction S with
 | nil=>exact h0
 | cons a S ih=>exact hs a _ (h1 a (by simp)) (ih (fun x hx=>h1 x (by simp [hx])))
theorem sp_sub {L M:List Nat} (h:∀ r∈L,Sp M r) {v:Nat} (hv:Sp L v):Sp M v:=
 sp_ind (sp_zero M) (fun r u hr hu=>sp_xor (h r hr) hu) hv
def SameSp (L M:List Nat):Prop:=∀ v,Sp L v↔Sp M v
theorem SameSp.of {L M:List Nat} (h1:∀ r∈L,Sp M r) (h2:∀ r∈M,Sp L r):SameSp L M:=fun _=>⟨sp_sub h1,sp_sub h2⟩
theorem SameSp.refl (L:List Nat):SameSp L L:=fun _=>Iff.rfl
theorem SameSp.trans {L M K:List Nat} (h:SameSp L M) (k:SameSp M K):SameSp L K:=fun v=>(h v).trans (k v)
theorem SameSp.symm {L M:List Nat} (h:SameSp L M):SameSp M L:=fun v=>(h v).symm
theorem xor_cancel {a b:Nat} (h:a^^^b=0):a=b:=by
 apply Nat.eq_of_testBit_eq
 intro i
 have:=congrArg (fun x=>x.testBit i) h
 simp only [Nat.testBit_xor,Nat.zero_testBit] at this
 revert this
 cases a.testBit i<;>cases b.testBit i<;>simp
theorem xor_back (a b:Nat):a^^^b^^^b=a:=by rw [Nat.xor_assoc,Nat.xor_self,Nat.xor_zero]
def IsLow (v p:Nat):Prop:=v.testBit p=true∧∀ q,q<p→v.testBit q=false
theorem IsLow.uniq {v p q:Nat} (h:IsLow v p) (k:IsLow v q):p=q:=by
 rcases Nat.lt_trichotomy p q with hl | hl | hl
 ·have:=k.2 p hl;rw [h.1] at this;cases this
 ·exact hl
 ·have:=h.2 q hl;rw [k.1] at this;cases this
structure Rref (L P:List Nat):Prop where
 len:L.length=P.length
 low:∀ i,i<L.length→IsLow (L.getD i 0) (P.getD i 0)
 one:∀ i j,i<L.length→j<L.length→(L.getD i 0).testBit (P.getD j 0)=decide (i=j)
 rise:∀ i j,i<j→j<L.length→P.getD i 0<P.getD j 0
def comb (L P:List Nat) (v:Nat):Nat→Nat
 | 0=>0
 | k+1=>comb L P v k^^^(if v.testBit (P.getD k 0) then L.getD k 0 else 0)
theorem comb_xor (L P:List Nat) (v u k:Nat):comb L P (v^^^u) k=comb L P v k^^^comb L P u k:=by
 induction k with
 | zero=>simp [comb]
 | succ k ih=>
   simp only [comb,ih,Nat.testBit_xor]
   generalize comb L P v k=a
   generalize comb L P u k=b
   generalize L.getD k 0=c
   cases v.testBit (P.getD k 0)<;>cases u.testBit (P.getD k 0)<;>simp
   ·rw [Nat.xor_assoc]
   ·rw [Nat.xor_assoc,Nat.xor_assoc,Nat.xor_comm c b]
   ·rw [Nat.xor_assoc,Nat.xor_comm c,Nat.xor_assoc,Nat.xor_self,Nat.xor_zero]
theorem comb_zero (L P:List Nat) (v k:Nat) (h:∀ j,j<k→v.testBit (P.getD j 0)=false):comb L P v k=0:=by
 induction k with
 | zero=>rfl
 | succ k ih=>rw [comb,ih (fun j hj=>h j (by omega)),h k (by omega)];simp
theorem comb_row {L P:List Nat} (h:Rref L P) (i:Nat) (hi:i<L.length):∀ k,k≤L.length→comb L P (L.getD i 0) k=if i<k then L.getD i 0 else 0
 | 0,_=>by simp [comb]
 | k+1,hk=>by
   rw [comb,comb_row h i hi k (by omega),h.one i k hi (by omega)]
   by_cases e:i=k
   ·subst e;simp
   ·by_cases hl:i<k
    ·simp [e,hl,show i<k+1 by omega]
    ·simp [e,hl,show ¬ i<k+1 by omega]
theorem mem_getD {L:List Nat} {r:Nat} (h:r∈L):∃ i,i<L.length∧L.getD i 0=r:=by
 obtain⟨i,hi,rfl⟩:=List.getElem_of_mem h
 exact⟨i,hi,by simp [List.getD,hi]⟩
theorem getD_mem {L:List Nat} {i:Nat} (h:i<L.length):L.getD i 0∈L:=by
 have:L.getD i 0=L[i]:=by simp [List.getD,h]
 rw [this];exact List.getElem_mem _
theorem Rref.comb {L P:List Nat} (h:Rref L P) {v:Nat} (hv:Sp L v):v=comb L P v L.length:=by
 refine sp_ind (P:=fun v=>v=YtcikoaeiopbbbaaGreat.comb L P v L.length) ?_ ?_ hv
 ·exact (comb_zero L P 0 _ (fun _ _=>by simp)).symm
 ·intro r u hr hu
  obtain⟨i,hi,rfl⟩:=mem_getD hr
  rw [comb_xor,← hu,comb_row h i hi _ (Nat.le_refl _),if_pos hi]
theorem Rref.zero {L P:List Nat} (h:Rref L P) {v:Nat} (hv:Sp L v) (hz:∀ j,j<L.length→v.testBit (P.getD j 0)=false):v=0:=by
 rw [h.comb hv];exact comb_zero L P v _ hz
theorem comb_below {L P:List Nat} (h:Rref L P) (v q i:Nat) (hi:∀ j,j<i→v.testBit (P.getD j 0)=false) (hq:i<L.length→q<P.getD i 0):∀ k,k≤L.length→(YtcikoaeiopbbbaaGreat.comb L P v k).testBit q=false
 | 0,_=>by simp [YtcikoaeiopbbbaaGreat.comb]
 | k+1,hk=>by
   rw [YtcikoaeiopbbbaaGreat.comb,Nat.testBit_xor,comb_below h v q i hi hq k (by omega)]
   by_cases hl:k<i
   ·rw [hi k hl];simp
   ·cases v.testBit (P.getD k 0) with
    | false=>simp
    | true=>
      have hr:P.getD i 0≤P.getD k 0:=by
       rcases Nat.lt_or_ge i k with h1 | h1
       ·exact Nat.le_of_lt (h.rise i k h1 (by omega))
       ·obtain rfl:i=k:=by omega
        exact Nat.le_refl _
      have:=(h.low k (by omega)).2 q (by have:=hq (by omega);omega)
      rw [if_pos rfl,this];rfl
theorem Rref.place {L P:List Nat} (h:Rref L P) (p:Nat):(p∈P)↔∃ v,Sp L v∧IsLow v p:=by
 constructor
 ·intro hp
  obtain⟨i,hi,rfl⟩:=mem_getD hp
  have hi':i<L.length:=by rw [h.len];exact hi
  exact⟨_,sp_mem (getD_mem hi'),h.low i hi'⟩
 ·rintro ⟨v,hv,hl⟩
  have ex:∃ i,i<L.length∧v.testBit (P.getD i 0)=true:=by
   by_cases hn:∃ i,i<L.length∧v.testBit (P.getD i 0)=true
   ·exact hn
   ·have:=h.zero hv (fun j hj=>by
     cases hb:v.testBit (P.getD j 0) with
     | false=>rfl
     | true=>exact absurd ⟨j,hj,hb⟩ hn)
    rw [this] at hl
    have h1:=hl.1
    simp at h1
  obtain⟨i,hi,hb,hmin⟩:∃ i,i<L.length∧v.testBit (P.getD i 0)=true∧∀ j,j<i→v.testBit (P.getD j 0)=false:=by
   obtain⟨i,hi,hb⟩:=ex
   induction i using Nat.strongRecOn with
   | _ i ih=>
     by_cases hq:∃ q,q<i∧v.testBit (P.getD q 0)=true
     ·obtain⟨q,hl,hb⟩:=hq;exact ih q hl (by omega) hb
     ·exact⟨i,hi,hb,fun q hl=>by
       cases hb:v.testBit (P.getD q 0) with
       | false=>rfl
       | true=>exact absurd ⟨q,hl,hb⟩ hq⟩
  have hlow:IsLow v (P.getD i 0):=⟨hb,fun q hq=>by rw [h.comb hv];exact comb_below h v q i hmin (fun _=>hq) _ (Nat.le_refl _)⟩
  rw [hl.uniq hlow]
  exact getD_mem (by rw [← h.len];exact hi)
theorem rising_uniq:∀ (P Q:List Nat),P.Pairwise (· < ·)→Q.Pairwise (· < ·)→(∀ x,x∈P↔x∈Q)→P=Q
 | [],[],_,_,_=>rfl
 | [],q::Q,_,_,h=>by have:=(h q).2 (by simp);cases this
 | p::P,[],_,_,h=>by have:=(h p).1 (by simp);cases this
 | p::P,q::Q,hp,hq,h=>by
   have hp':=List.pairwise_cons.1 hp
   have hq':=List.pairwise_cons.1 hq
   have e:p=q:=by
    have h1:=(h p).1 (by simp)
    have h2:=(h q).2 (by simp)
    rcases List.mem_cons.1 h1 with h1 | h1
    ·exact h1
    ·rcases List.mem_cons.1 h2 with h2 | h2
     ·exact h2.symm
     ·have:=hp'.1 q h2;have:=hq'.1 p h1;omega
   subst e
   congr 1
   refine rising_uniq P Q hp'.2 hq'.2 fun x=>⟨fun hx=>?_,fun hx=>?_⟩
   ·rcases List.mem_cons.1 ((h x).1 (by simp [hx])) with h1 | h1
    ·have:=hp'.1 x hx;omega
    ·exact h1
   ·rcases List.mem_cons.1 ((h x).2 (by simp [hx])) with h1 | h1
    ·have:=hq'.1 x hx;omega
    ·exact h1
theorem Rref.pairwise {L P:List Nat} (h:Rref L P):P.Pairwise (· < ·):=by
 rw [List.pairwise_iff_getElem]
 intro i j hi hj hij
 have:=h.rise i j hij (by rw [h.len];exact hj)
 simpa [List.getD,hi,hj] using this
theorem rref_uniq {L P M Q:List Nat} (h:Rref L P) (k:Rref M Q) (hs:SameSp L M):L=M∧P=Q:=by
 have hP:P=Q:=rising_uniq P Q h.pairwise k.pairwise fun x=>by
  rw [h.place,k.place]
  exact⟨fun ⟨v,a,b⟩=>⟨v,(hs v).1 a,b⟩,fun ⟨v,a,b⟩=>⟨v,(hs v).2 a,b⟩⟩
 subst hP
 have hl:L.length=M.length:=h.len.trans k.len.symm
 refine⟨List.ext_getElem hl fun i h1 h2=>?_,rfl⟩
 have hz:L.getD i 0^^^M.getD i 0=0:=h.zero (sp_xor (sp_mem (getD_mem h1)) ((hs _).2 (sp_mem (getD_mem h2)))) fun j hj=>by
  rw [Nat.testBit_xor,h.one i j h1 hj,k.one i j h2 (by omega)];simp
 have:=xor_cancel hz
 simpa [List.getD,h1,h2] using this
end
section
/- Rows reduced column by column. No program. -/
def swapL (L:List Nat) (d i:Nat):List Nat:=(L.set d (L.getD i 0)).set i (L.getD d 0)
def clearL (L:List Nat) (d c:Nat):List Nat:=(List.range L.length).map fun j=>if j≠d∧(L.getD j 0).testBit c=true then L.getD j 0^^^L.getD d 0 else L.getD j 0
theorem swapL_len (L:List Nat) (d i:Nat):(swapL L d i).length=L.length:=by simp [swapL]
theorem clearL_len (L:List Nat) (d c:Nat):(clearL L d c).length=L.length:=by simp [clearL]
theorem swapL_at (L:List Nat) (d i j:Nat) (hd:d<L.length) (hi:i<L.length):(swapL L d i).getD j 0=if j=i then L.getD d 0 else if j=d then L.getD i 0 else L.getD j 0:=by
 unfold swapL
 simp only [List.getD,List.getElem?_set,List.length_set]
 by_cases h1:j=i
 ·subst h1;simp [hi]
 ·by_cases h2:j=d
  ·subst h2;simp [h1,Ne.symm h1,hd]
  ·simp [h1,h2,Ne.symm h1,Ne.symm h2]
theorem clearL_at (L:List Nat) (d c j:Nat) (hj:j<L.length):(clearL L d c).getD j 0=if j≠d∧(L.getD j 0).testBit c=true then L.getD j 0^^^L.getD d 0 else L.getD j 0:=by
 simp [clearL,List.getD,hj]
structure Work (orig L:List Nat) (d c:Nat) (P:List Nat):Prop where
 span:SameSp orig L
 size:L.length=orig.length
 dp:P.length=d
 dl:d≤L.length
 low:∀ i,i<d→IsLow (L.getD i 0) (P.getD i 0)
 lt:∀ i,i<d→P.getD i 0<c
 rise:∀ i j,i<j→j<d→P.getD i 0<P.getD j 0
 one:∀ i j,i<L.length→j<d→(L.getD i 0).testBit (P.getD j 0)=decide (i=j)
 zero:∀ i,d≤i→i<L.length→∀ q,q<c→(L.getD i 0).testBit q=false
theorem work_start (orig:List Nat):Work orig orig 0 0 []:=
 ⟨SameSp.refl _,rfl,rfl,Nat.zero_le _,fun _ h=>absurd h (Nat.not_lt_zero _),fun _ h=>absurd h (Nat.not_lt_zero _),fun _ _ _ h=>absurd h (Nat.not_lt_zero _),fun _ _ _ h=>absurd h (Nat.not_lt_zero _),fun _ _ _ _ h=>absurd h (Nat.not_lt_zero _)⟩
theorem work_none {orig L P:List Nat} {d c:Nat} (h:Work orig L d c P) (hn:∀ i,d≤i→i<L.length→(L.getD i 0).testBit c=false):Work orig L d (c+1) P:=
 ⟨h.span,h.size,h.dp,h.dl,h.low,fun i hi=>by have:=h.lt i hi;omega,h.rise,h.one,fun i h1 h2 q hq=>by
  by_cases e:q=c
  ·subst e;exact hn i h1 h2
  ·exact h.zero i h1 h2 q (by omega)⟩
theorem swap_span (L:List Nat) (d i:Nat) (hd:d<L.length) (hi:i<L.length):SameSp L (swapL L d i):=by
 refine SameSp.of (fun r hr=>?_) (fun r hr=>?_)
 ·obtain⟨j,hj,rfl⟩:=mem_getD hr
  by_cases h1:j=i
  ·subst h1
   have e:=swapL_at L d j d hd hi
   by_cases h2:d=j
   ·subst h2;rw [if_pos rfl] at e;rw [← e];exact sp_mem (getD_mem (by rw [swapL_len];exact hd))
   ·rw [if_neg h2,if_pos rfl] at e;rw [← e];exact sp_mem (getD_mem (by rw [swapL_len];exact hd))
  ·by_cases h2:j=d
   ·subst h2
    have e:=swapL_at L j i i hd hi
    rw [if_pos rfl] at e;rw [← e];exact sp_mem (getD_mem (by rw [swapL_len];exact hi))
   ·have e:=swapL_at L d i j hd hi
    rw [if_neg h1,if_neg h2] at e;rw [← e];exact sp_mem (getD_mem (by rw [swapL_len];exact hj))
 ·obtain⟨j,hj,rfl⟩:=mem_getD hr
  rw [swapL_len] at hj
  rw [swapL_at L d i j hd hi]
  split
  ·exact sp_mem (getD_mem hd)
  ·split
   ·exact sp_mem (getD_mem hi)
   ·exact sp_mem (getD_mem hj)
theorem clear_span (L:List Nat) (d c:Nat) (hd:d<L.length):SameSp L (clearL L d c):=by
 have own:Sp (clearL L d c) (L.getD d 0):=by
  have e:=clearL_at L d c d hd
  simp only [ne_eq,not_true_eq_false,false_and,if_false] at e
  rw [← e];exact sp_mem (getD_mem (by rw [clearL_len];exact hd))
 refine SameSp.of (fun r hr=>?_) (fun r hr=>?_)
 ·obtain⟨j,hj,rfl⟩:=mem_getD hr
  have m:Sp (clearL L d c) ((clearL L d c).getD j 0):=sp_mem (getD_mem (by rw [clearL_len];exact hj))
  rw [clearL_at L d c j hj] at m
  split at m
  ·have:=sp_xor m own
   rw [xor_back] at this;exact this
  ·exact m
 ·obtain⟨j,hj,rfl⟩:=mem_getD hr
  rw [clearL_len] at hj
  rw [clearL_at L d c j hj]
  split
  ·exact sp_xor (sp_mem (getD_mem hj)) (sp_mem (getD_mem hd))
  ·exact sp_mem (getD_mem hj)
theorem getD_snoc (P:List Nat) (c j:Nat):(P++[c]).getD j 0=if j<P.length then P.getD j 0 else if j=P.length then c else 0:=by
 by_cases h:j<P.length
 ·rw [if_pos h];simp only [List.getD,List.getElem?_append_left h]
 ·by_cases e:j=P.length
  ·subst e;simp [List.getD]
  ·rw [if_neg h,if_neg e]
   have:(P++[c])[j]?=none:=List.getElem?_eq_none (by simp;omega)
   simp [List.getD,this]
theorem work_swap {orig L P:List Nat} {d c i:Nat} (h:Work orig L d c P) (h1:d≤i) (h2:i<L.length):Work orig (swapL L d i) d c P:=by
 have hd:d<L.length:=by omega
 refine⟨h.span.trans (swap_span L d i hd h2),(swapL_len _ _ _).trans h.size,h.dp,by rw [swapL_len];exact h.dl,fun j hj=>?_,h.lt,h.rise,fun j k hj hk=>?_,fun j hj1 hj2 q hq=>?_⟩
 ·rw [swapL_at L d i j hd h2,if_neg (by omega),if_neg (by omega)];exact h.low j hj
 ·rw [swapL_len] at hj
  rw [swapL_at L d i j hd h2]
  split
  ·rename_i e;subst e;rw [h.one d k hd hk];simp;omega
  ·split
   ·rename_i e;subst e;rw [h.one i k h2 hk];simp;omega
   ·exact h.one j k hj hk
 ·rw [swapL_len] at hj2
  rw [swapL_at L d i j hd h2]
  split
  ·exact h.zero d (Nat.le_refl _) hd q hq
  ·split
   ·exact h.zero i h1 h2 q hq
   ·exact h.zero j hj1 hj2 q hq
theorem work_clear {orig L P:List Nat} {d c:Nat} (h:Work orig L d c P) (hd:d<L.length) (hb:(L.getD d 0).testBit c=true):Work orig (clearL L d c) (d+1) (c+1) (P++[c]):=by
 have hz:=h.zero d (Nat.le_refl _) hd
 have low0:∀ j,j<L.length→∀ q,q<c→((clearL L d c).getD j 0).testBit q=(L.getD j 0).testBit q:=fun j hj q hq=>by
  rw [clearL_at L d c j hj]
  split
  ·rw [Nat.testBit_xor,hz q hq];simp
  ·rfl
 have atc:∀ j,j<L.length→((clearL L d c).getD j 0).testBit c=decide (j=d):=fun j hj=>by
  rw [clearL_at L d c j hj]
  by_cases e:j=d
  ·subst e;rw [if_neg (fun k=>k.1 rfl),hb];simp
  ·by_cases b:(L.getD j 0).testBit c=true
   ·rw [if_pos ⟨e,b⟩,Nat.testBit_xor,b,hb];simp [e]
   ·rw [if_neg (fun k=>b k.2),Bool.eq_false_iff.2 b];simp [e]
 refine⟨h.span.trans (clear_span L d c hd),(clearL_len _ _ _).trans h.size,by rw [List.length_append,h.dp];rfl,by rw [clearL_len];omega,fun j hj=>?_,fun j hj=>?_,fun j k hjk hk=>?_,fun j k hj hk=>?_,fun j h1 h2 q hq=>?_⟩
 ·rw [getD_snoc,h.dp]
  by_cases hjd:j<d
  ·rw [if_pos hjd]
   have hp:=h.lt j hjd
   have hl:=h.low j hjd
   exact⟨by rw [low0 j (by omega) _ hp];exact hl.1,fun q hq=>by rw [low0 j (by omega) q (by omega)];exact hl.2 q hq⟩
  ·obtain rfl:j=d:=by omega
   rw [if_neg (by omega),if_pos rfl]
   exact⟨by rw [atc j hd];simp,fun q hq=>by rw [low0 j hd q hq];exact hz q hq⟩
 ·rw [getD_snoc,h.dp]
  by_cases hjd:j<d
  ·rw [if_pos hjd];have:=h.lt j hjd;omega
  ·rw [if_neg hjd,if_pos (by omega)];omega
 ·rw [getD_snoc,getD_snoc,h.dp]
  rw [if_pos (show j<d by omega)]
  by_cases hkd:k<d
  ·rw [if_pos hkd];exact h.rise j k hjk hkd
  ·rw [if_neg hkd,if_pos (by omega)];exact h.lt j (by omega)
 ·rw [clearL_len] at hj
  rw [getD_snoc,h.dp]
  by_cases hkd:k<d
  ·rw [if_pos hkd,low0 j hj _ (h.lt k hkd)];exact h.one j k hj hkd
  ·obtain rfl:k=d:=by omega
   rw [if_neg (by omega),if_pos rfl];exact atc j hj
 ·rw [clearL_len] at h2
  by_cases e:q=c
  ·subst e;rw [atc j h2];simp;omega
  ·rw [low0 j h2 q (by omega)];exact h.zero j (by omega) h2 q (by omega)
theorem sp_lt {L:List Nat} {n:Nat} (h:∀ r∈L,r<2 ^ n) {v:Nat} (hv:Sp L v):v<2 ^ n:=
 sp_ind (P:=fun v=>v<2 ^ n) (Nat.two_pow_pos n) (fun r u hr hu=>Nat.xor_lt_two_pow (h r hr) hu) hv
theorem getD_take (L:List Nat) (d i:Nat) (h:i<d):(L.take d).getD i 0=L.getD i 0:=by simp [List.getD,List.getElem?_take,h]
theorem work_end {orig L P:List Nat} {d n:Nat} (h:Work orig L d n P) (hl:∀ r∈orig,r<2 ^ n):Rref (L.take d) P∧SameSp orig (L.take d):=by
 have hlen:(L.take d).length=d:=by rw [List.length_take];have:=h.dl;omega
 have hzero:∀ i,d≤i→i<L.length→L.getD i 0=0:=fun i h1 h2=>by
  apply Nat.eq_of_testBit_eq
  intro q
  rw [Nat.zero_testBit]
  by_cases hq:q<n
  ·exact h.zero i h1 h2 q hq
  ·have hlt:L.getD i 0<2 ^ n:=sp_lt hl ((h.span _).2 (sp_mem (getD_mem h2)))
   exact Nat.testBit_lt_two_pow (Nat.lt_of_lt_of_le hlt (Nat.pow_le_pow_right (by omega) (by omega)))
 refine⟨⟨by rw [hlen,h.dp],fun i hi=>?_,fun i j hi hj=>?_,fun i j hij hj=>?_⟩,h.span.trans (SameSp.of (fun r hr=>?_) (fun r hr=>?_))⟩
 ·rw [hlen] at hi;rw [getD_take L d i hi];exact h.low i hi
 ·rw [hlen] at hi hj;rw [getD_take L d i hi];exact h.one i j (by have:=h.dl;omega) hj
 ·rw [hlen] at hj;exact h.rise i j hij hj
 ·obtain⟨i,hi,rfl⟩:=mem_getD hr
  by_cases hd:i<d
  ·rw [← getD_take L d i hd];exact sp_mem (getD_mem (by rw [hlen];exact hd))
  ·rw [hzero i (by omega) hi];exact sp_zero _
 ·obtain⟨i,hi,rfl⟩:=mem_getD hr
  rw [hlen] at hi
  rw [getD_take L d i hi];exact sp_mem (getD_mem (by have:=h.dl;omega))
end
section
/- Rows reduced one behind the other: what is left of a row, and where it is put. No program. -/
end
section
/- bitrow.Xor and New: rows of words of the call's own. -/
open Go.RowKit
set_option maxHeartbeats 400000 in
theorem joined_own (n:Int) (A B:Option Addr) (l c k d:Nat) (us vs:List Nat) (w:World) (hu:Words w A l us) (hv:Words w B k vs) (h1:rightB n us=true) (h2:rightB n vs=true) :
  Calls Tryz.prog 195 #[.agg #[.int .i64 n,.slice A l c],.agg #[.int .i64 n,.slice B k d],.func (.func 196) #[] #[]] w (OwnOut n (List.zipWith (·^^^·) us vs) w):=by
 have hl:l≤8:=rightB_len8 h1 hu.1
 have hkl:k=l:=rightB_len h1 h2 hu.1 hv.1
 subst hkl
 have q0:=((Box.new w 139 #[.int .i64 n,.slice A k c]).alloc (.cells #[.int .i64 n,.slice B k d] 139)).alloc (.cells #[.int .i64 0,.slice none 0 0] 139)
 have q1:=(Box.new (w.alloc (.cells #[.int .i64 n,.slice A k c] 139)) 139 #[.int .i64 n,.slice B k d]).alloc (.cells #[.int .i64 0,.slice none 0 0] 139)
 have q2:=Box.new ((w.alloc (.cells #[.int .i64 n,.slice A k c] 139)).alloc (.cells #[.int .i64 n,.slice B k d] 139)) 139 #[.int .i64 0,.slice none 0 0]
 have hW:Below w.heap.size w (((w.alloc (.cells #[.int .i64 n,.slice A k c] 139)).alloc (.cells #[.int .i64 n,.slice B k d] 139)).alloc (.cells #[.int .i64 0,.slice none 0 0] 139)):=(((Below.refl _ _).alloc (Nat.le_refl _) _).alloc (by simp) _).alloc (by simp;omega) _
 simp only [World.size_alloc] at q1 q2
 have hu1:=hu.below hW
 have hv1:=hv.below hW
 have Q0:=hZ q0
 have Q1:=hZ q1
 have Q2:=hZ q2
 have HW:=hZ hW
 have HU:=hZ hu1
 have HV:=hZ hv1
 have HU0:=hZ hu
 have HV0:=hZ hv
 clear q0 q1 q2 hW hu1 hv1 hu hv
 go_enter Tryz.func195,Tryz.ntmps195
 go_wp2_with fail
 refine (right_any n A k c us _ HU.out).mono ?_
 rintro e x1 ⟨rfl,hb⟩
 have Q0:=hZ (Q0.out.keep hb)
 have Q1:=hZ (Q1.out.keep hb)
 have Q2:=hZ (Q2.out.keep hb)
 have HV:=hZ (HV.out.below hb)
 have HW:=hZ (chain HW.out hb)
 clear HU hb
 obtain⟨c0,c1,-,-⟩:=Q1.out.two
 go_wp2_with fail
 refine (right_any n B k d vs _ HV.out).mono ?_
 rintro e x2 ⟨rfl,hb⟩
 have Q0:=hZ (Q0.out.keep hb)
 have Q1:=hZ (Q1.out.keep hb)
 have Q2:=hZ (Q2.out.keep hb)
 have HW:=hZ (chain HW.out hb)
 clear hb c0 c1 HV
 obtain⟨r0,r1,r2,r3⟩:=Q2.out.two
 obtain⟨a0,a1,-,-⟩:=Q0.out.two
 obtain⟨b0,b1,-,-⟩:=Q1.out.two
 have t:(n != n)=false:=by simp
 have hmk:=make_any k (by omega) x2
 have HX2:=hZ Q2.out.lt
 have Q3:=hZ (Box.new x2 22 (numsA (List.replicate k 0)))
 have Q0:=hZ (Q0.out.alloc (.cells (numsA (List.replicate k 0)) 22))
 have Q1:=hZ (Q1.out.alloc (.cells (numsA (List.replicate k 0)) 22))
 have Q2:=hZ (Q2.out.alloc (.cells (numsA (List.replicate k 0)) 22))
 have HW:=hZ (HW.out.alloc HW.out.size (.cells (numsA (List.replicate k 0)) 22))
 go_wp2
 clear hmk t h1 h2 a0 a1 b0 b1 r0 r1 r2 r3
 go_loopw [31] (fun i wr=>∃ j:Nat,j≤k∧i=.int .i64 j∧Box wr x2.heap.size 22 (numsA (part (·^^^·) us vs j))∧Box wr w.heap.size 139 #[.int .i64 n,.slice A k c]∧Box wr (w.heap.size+1) 139 #[.int .i64 n,.slice B k d]∧Box wr (w.heap.size+1+1) 139 #[.int .i64 0,.slice none 0 0]∧Below w.heap.size w wr)
  (fun i _=>k-(intOf i).toNat)
 case atStart=>exact⟨0,by omega,rfl,by rw [part_zero,HU0.out.1];exact Q3.out,Q0.out,Q1.out,Q2.out,HW.out⟩
 case round=>
  obtain⟨j,hj,rfl,B3,B0,B1,B2,hbel⟩:=hrel
  have R3:=hZ B3
  have R0:=hZ B0
  have R1:=hZ B1
  have R2:=hZ B2
  have HB:=hZ hbel
  clear B3 B0 B1 B2 hbel Q0 Q1 Q2 Q3 HW
  obtain⟨a0,a1,-,-⟩:=R0.out.two
  obtain⟨b0,b1,-,-⟩:=R1.out.two
  by_cases hlt:j<k
  ·obtain⟨p,o,rfl,lt1,hc1⟩:=HU0.out.2.2 (by omega)
   obtain⟨p2,o2,rfl,lt2,hc2⟩:=HV0.out.2.2 (by omega)
   have cu:=(HB.out.cell (p:=⟨p,o+j,none⟩) lt1).trans (hc1 j hlt)
   have cv:=(HB.out.cell (p:=⟨p2,o2+j,none⟩) lt2).trans (hc2 j hlt)
   have hx:=HU0.out.2.1 j
   have hy:=HV0.out.2.1 j
   obtain⟨x,ex⟩:∃ x,x=us.getD j 0:=⟨_,rfl⟩
   obtain⟨y,ey⟩:∃ y,y=vs.getD j 0:=⟨_,rfl⟩
   rw [← ex] at cu hx
   rw [← ey] at cv hy
   have hxy:=hZ (And.intro ex ey)
   clear ex ey
   have cg:wr.cell? ⟨x2.heap.size,j,none⟩=some (.int .u64 0):=by rw [R3.out.cell j];exact part_fresh _ us vs j k HU0.out.1 HV0.out.1 hlt
   have fg:=R3.out.free j
   clear hc1 hc2
   have hz:=HX2.out
   have n1:¬ x2.heap.size=w.heap.size:=by omega
   have n2:¬ x2.heap.size=w.heap.size+1:=by omega
   have n3:¬ x2.heap.size=p:=by omega
   have n4:¬ x2.heap.size=p2:=by omega
   have n1':¬ w.heap.size=x2.heap.size:=by omega
   have n2':¬ w.heap.size+1=x2.heap.size:=by omega
   have n3':¬ p=x2.heap.size:=by omega
   have n4':¬ p2=x2.heap.size:=by omega
   have n5':¬ w.heap.size+1+1=x2.heap.size:=by omega
   go_wp2
   go_region_held3 (fun w'=>w'.cell? ⟨w.heap.size,1,none⟩=some (.slice (some ⟨p,o,none⟩) k c)∧w'.cell? ⟨w.heap.size+1,1,none⟩=some (.slice (some ⟨p2,o2,none⟩) k d)∧w'.cell? ⟨p,o+j,none⟩=some (.int .u64 x)∧w'.cell? ⟨p2,o2+j,none⟩=some (.int .u64 y)) (go_keep) (first | (go_at_call 196;refine (xor1_any x y hx hy _).mono ?_;rintro e w' ⟨rfl,rfl⟩))
   have P1:=hZ ((R3.out.put j (.int .u64 ((x^^^y:Nat):Int))).drew)
   have P0:=hZ ((R0.out.far (p:=⟨x2.heap.size,j,none⟩) n1' (.int .u64 ((x^^^y:Nat):Int))).drew)
   have P2:=hZ ((R1.out.far (p:=⟨x2.heap.size,j,none⟩) n2' (.int .u64 ((x^^^y:Nat):Int))).drew)
   have P3:=hZ ((R2.out.far (p:=⟨x2.heap.size,j,none⟩) n5' (.int .u64 ((x^^^y:Nat):Int))).drew)
   have P4:=hZ ((HB.out.setCell (p:=⟨x2.heap.size,j,none⟩) (by simp;omega) (.int .u64 ((x^^^y:Nat):Int))).drew)
   clear cg fg cu cv n1 n2 n3 n4 n1' n2' n3' n4' a0 a1 b0 b1
   generalize (wr.setCell ⟨x2.heap.size,j,none⟩ (.int .u64 ((x^^^y:Nat):Int))).drew=wn at *
   go_wp2
   go_roundw
   case rel=>exact⟨j+1,by omega,by go_num,by have:=P1.out;rw [numsA_set,hxy.out.1,hxy.out.2,part_set _ us vs j k HU0.out.1 HV0.out.1 hlt] at this;exact this,P0.out,P2.out,P3.out,P4.out⟩
   case measure=>simp [intOf];omega
  ·obtain⟨r0,r1,r2,r3⟩:=R2.out.two
   have hz:=HX2.out
   have n5':¬ w.heap.size+1+1=x2.heap.size:=by omega
   obtain rfl:j=k:=by omega
   go_wp2
   refine close_cell Tryz.results195 rfl rfl rfl R2.out.put2 Tryz.underlying139 rfl (by kernel_rfl) ?_
   have hp:part (·^^^·) us vs j=List.zipWith (·^^^·) us vs:=part_full _ us vs j HU0.out.1 HV0.out.1
   have hw:=Box.ownW ((R3.out.far (p:=⟨w.heap.size+1+1,0,none⟩) (by simp;omega) (.int .i64 n)).far (p:=⟨w.heap.size+1+1,1,none⟩) (by simp;omega) (.slice (some ⟨x2.heap.size,0,none⟩) j j)) (part_len _ us vs j j HU0.out.1 HV0.out.1) (by unfold maxLen;omega)
   rw [hp] at hw
   exact⟨_,_,_,rfl,hw,(HB.out.setCell (p:=⟨w.heap.size+1+1,0,none⟩) (by simp;omega) _).setCell (p:=⟨w.heap.size+1+1,1,none⟩) (by simp;omega) _⟩
set_option maxHeartbeats 400000 in
theorem xor_own (n:Int) (A B:Option Addr) (l c k d:Nat) (us vs:List Nat) (w:World) (hu:Words w A l us) (hv:Words w B k vs) (h1:rightB n us=true) (h2:rightB n vs=true) :
  Calls Tryz.prog 174 #[.agg #[.int .i64 n,.slice A l c],.agg #[.int .i64 n,.slice B k d]] w (OwnOut n (xorL us vs) w):=by
 have q2:=Box.new ((w.alloc (.cells #[.int .i64 n,.slice A l c] 139)).alloc (.cells #[.int .i64 n,.slice B k d] 139)) 139 #[.int .i64 0,.slice none 0 0]
 have hW:Below w.heap.size w (((w.alloc (.cells #[.int .i64 n,.slice A l c] 139)).alloc (.cells #[.int .i64 n,.slice B k d] 139)).alloc (.cells #[.int .i64 0,.slice none 0 0] 139)):=(((Below.refl _ _).alloc (Nat.le_refl _) _).alloc (by simp) _).alloc (by simp;omega) _
 simp only [World.size_alloc] at q2
 have Q2:=hZ q2
 have HW:=hZ hW
 have HU:=hZ (hu.below hW)
 have HV:=hZ (hv.below hW)
 clear q2 hW hu hv
 go_enter Tryz.func174,Tryz.ntmps174
 go_wp2_with fail
 refine (joined_own n A B l c k d us vs _ HU.out HV.out h1 h2).mono ?_
 rintro e x1 ⟨A1,l1,c1,rfl,hw,hb⟩
 have P2:=hZ (Q2.out.keep hb)
 have HB:=hZ (chain HW.out hb)
 have HWo:=hZ hw
 clear hb hw
 obtain⟨r0,r1,r2,r3⟩:=P2.out.two
 go_wp2
 refine close_cell Tryz.results174 rfl rfl rfl P2.out.put2 Tryz.underlying139 rfl (by kernel_rfl) ⟨_,_,_,rfl,?_,?_⟩
 ·exact HWo.out.put2 P2.out _ _
 ·exact (HB.out.setCell (p:=⟨w.heap.size+1+1,0,none⟩) (by simp;omega) _).setCell (p:=⟨w.heap.size+1+1,1,none⟩) (by simp;omega) _
theorem new_own (n:Nat) (h:lmb n=true) (w:World):Calls Tryz.prog 173 #[.int .i64 n] w (OwnOut n (List.replicate (nw n) 0) w):=by
 refine (new_yes n h w).mono ?_
 rintro e w' ⟨g,rfl,hg,-,hb⟩
 have hn:=(lmb_iff n).1 h
 have:=Box.ownW hg (n:=nw n) (by simp) (by unfold maxLen nw;omega)
 rw [List.length_replicate]
 exact⟨_,_,_,rfl,this,hb⟩
end
section
/- Rows of words, as numbers. -/
open Go.RowKit
def rowOf (N x:Nat):List Nat:=(List.range (nw N)).map fun i=>(x>>>(64*i))%2 ^ 64
theorem rowOf_len (N x:Nat):(rowOf N x).length=nw N:=by simp [rowOf]
theorem rowOf_at (N x i:Nat) (h:i<nw N):(rowOf N x).getD i 0=(x>>>(64*i))%2 ^ 64:=by simp [rowOf,List.getD,h]
theorem rowOf_lt (N x i:Nat):(rowOf N x).getD i 0<18446744073709551616:=by
 by_cases h:i<nw N
 ·rw [rowOf_at N x i h];exact Nat.mod_lt _ (by decide)
 ·have:(rowOf N x)[i]?=none:=List.getElem?_eq_none (by rw [rowOf_len];omega)
  simp [List.getD,this]
theorem rowOf_bit (N x p:Nat) (h:p<N):(bitAt (rowOf N x) p==1)=x.testBit p:=by
 rw [bitAt_test,rowOf_at N x (p / 64) (by unfold nw;omega),Nat.testBit_mod_two_pow,Nat.testBit_shiftRight]
 have e:64*(p / 64)+p%64=p:=by omega
 have l:p%64<64:=Nat.mod_lt _ (by omega)
 rw [e];simp [l]
theorem rowOf_bitN (N x p:Nat) (h:p<N):bitAt (rowOf N x) p=if x.testBit p then 1 else 0:=by
 have hb:=rowOf_bit N x p h
 rcases bitAt_le (rowOf N x) p with h0 | h0
 ·rw [h0] at hb ⊢;rw [← hb];rfl
 ·rw [h0] at hb ⊢;rw [← hb];rfl
theorem rowOf_xor (N x y:Nat):xorL (rowOf N x) (rowOf N y)=rowOf N (x^^^y):=by
 unfold xorL rowOf
 rw [List.zipWith_map_left,List.zipWith_map_right]
 simp only [List.zipWith_self,Nat.shiftRight_xor_distrib,Nat.xor_mod_two_pow]
def valW:List Nat→Nat
 | []=>0
 | u::us=>u+2 ^ 64*valW us
theorem valW_at:∀ (us:List Nat) (i:Nat),(∀ j,us.getD j 0<18446744073709551616)→i<us.length→(valW us>>>(64*i))%2 ^ 64=us.getD i 0
 | [],i,_,h=>by cases h
 | u::us,0,hl,_=>by
   have:=hl 0
   simp only [List.getD_cons_zero] at this ⊢
   simp only [valW,Nat.mul_zero,Nat.shiftRight_zero]
   omega
 | u::us,i+1,hl,h=>by
   have h0:=hl 0
   have ih:=valW_at us i (fun j=>by have:=hl (j+1);rwa [List.getD_cons_succ] at this) (by simpa using h)
   rw [List.getD_cons_succ,← ih,show 64*(i+1)=64+64*i by omega,Nat.shiftRight_add]
   congr 2
   simp only [List.getD_cons_zero] at h0
   rw [Nat.shiftRight_eq_div_pow,valW]
   omega
theorem valW_lt:∀ (us:List Nat),(∀ j,us.getD j 0<18446744073709551616)→valW us<2 ^ (64*us.length)
 | [],_=>by simp [valW]
 | u::us,hl=>by
   have h0:=hl 0
   have ih:=valW_lt us (fun j=>by have:=hl (j+1);rwa [List.getD_cons_succ] at this)
   simp only [List.getD_cons_zero] at h0
   rw [valW,List.length_cons,show 64*(us.length+1)=64+64*us.length by omega,Nat.pow_add]
   generalize 2 ^ (64*us.length)=m at *
   have:2 ^ 64*valW us+2 ^ 64≤2 ^ 64*m:=by rw [← Nat.mul_succ];exact Nat.mul_le_mul_left _ ih
   omega
theorem valW_row (N:Nat) (us:List Nat) (hl:∀ j,us.getD j 0<18446744073709551616) (hn:us.length=nw N):us=rowOf N (valW us):=by
 apply List.ext_getElem
 ·rw [rowOf_len,hn]
 ·intro i h1 h2
  have h:=valW_at us i hl h1
  simp only [rowOf,List.getElem_map,List.getElem_range]
  rw [h];simp [List.getD,h1]
theorem valW_bit (us:List Nat) (p:Nat) (hl:∀ j,us.getD j 0<18446744073709551616) (hp:p<64*us.length):(valW us).testBit p=(bitAt us p==1):=by
 rw [bitAt_test,← valW_at us (p / 64) hl (by omega),Nat.testBit_mod_two_pow,Nat.testBit_shiftRight]
 have e:64*(p / 64)+p%64=p:=by omega
 have l:p%64<64:=Nat.mod_lt _ (by omega)
 rw [e];simp [l]
theorem row_of {N:Nat} {us:List Nat} (h:rightB N us=true) (hl:∀ j,us.getD j 0<18446744073709551616):us=rowOf N (valW us)∧valW us<2 ^ N:=by
 have hn:us.length=nw N:=by
  have h':=h
  simp only [rightB,Bool.and_eq_true,beq_iff_eq,Int.toNat_natCast] at h'
  exact h'.1.2
 refine⟨valW_row N us hl hn,?_⟩
 apply Nat.lt_pow_two_of_testBit
 intro p hp
 by_cases hlt:p<64*us.length
 ·rw [valW_bit us p hl hlt,right_bits h p hp hlt];rfl
 ·exact Nat.testBit_lt_two_pow (Nat.lt_of_lt_of_le (valW_lt us hl) (Nat.pow_le_pow_right (by omega) (by omega)))
theorem rowOf_right (N x:Nat) (hN:N≤512) (hx:x<2 ^ N):rightB N (rowOf N x)=true:=by
 have hl:lmb (N:Int)=true:=(lmb_iff N).2 (by omega)
 simp only [rightB,hl,Bool.true_and,Int.toNat_natCast,rowOf_len,Bool.and_eq_true,beq_iff_eq,Bool.or_eq_true]
 refine⟨by simp,?_⟩
 by_cases h0:N%64=0
 ·exact .inl h0
 ·right
  have hnw:nw N-1<nw N:=by unfold nw;omega
  rw [rowOf_at N x _ hnw,Nat.shiftRight_eq_div_pow]
  have e:64*(nw N-1)+N%64=N:=by unfold nw;omega
  have h1:x / 2 ^ (64*(nw N-1))<2 ^ (N%64):=by
   rw [Nat.div_lt_iff_lt_mul (Nat.two_pow_pos _),Nat.mul_comm,← Nat.pow_add,e];exact hx
  rw [Nat.div_eq_zero_iff]
  right
  exact Nat.lt_of_le_of_lt (Nat.mod_le _ _) h1
theorem rowOf_zero (N:Nat):rowOf N 0=List.replicate (nw N) 0:=by
 apply List.ext_getElem
 ·rw [rowOf_len,List.length_replicate]
 ·intro i h1 h2
  simp [rowOf]
end
section
/- bitrow.Get. -/
open Go.RowKit
set_option maxHeartbeats 1000000 in
theorem get_yes (N i:Nat) (A:Option Addr) (len c:Nat) (us:List Nat) (w:World) (hr:rightB N us=true) (hi:i<N) (hW:Words w A len us) :
  Calls Tryz.prog 187 #[.agg #[.int .i64 N,.slice A len c],.int .i64 i] w fun e w'=>e=.returned (.tuple #[.int .i64 (bitAt us i:Nat),.int .i64 0])∧Below w.heap.size w w':=by
 have hl8:=rightB_len8 hr hW.1
 have hnw:i<64*len:=by
  have h:=hr
  simp only [rightB,Bool.and_eq_true,beq_iff_eq,Int.toNat_natCast] at h
  have h1:=h.1.2
  rw [hW.1] at h1
  unfold nw at h1
  omega
 have Q:=hZ (Box.new w 139 #[.int .i64 N,.slice A len c])
 have HB:=hZ (show Below w.heap.size w (w.alloc (.cells #[.int .i64 N,.slice A len c] 139)) from (Below.refl _ _).alloc (Nat.le_refl _) _)
 have HW:=hZ (hW.alloc (.cells #[.int .i64 N,.slice A len c] 139))
 have HR:=hZ (right_any N A len c us _ HW.out)
 rw [hr] at HR
 have HI:=hZ (isPlace_any N A len c i)
 rw [show (decide ((0:Int)≤i)&&decide ((i:Int)<N))=true by simp;omega] at HI
 obtain⟨r0,r1,-,-⟩:=Q.out.two
 clear hW hr
 go_enter Tryz.func187,Tryz.ntmps187
 go_wp2_with fail
 refine HR.out.mono ?_
 rintro e w1 ⟨rfl,hb⟩
 have B:=hZ (chain HB.out hb)
 have Q:=hZ (Q.out.keep hb)
 have HW:=hZ (HW.out.below hb)
 clear hb r0 r1
 obtain⟨r0,r1,-,-⟩:=Q.out.two
 go_wp2_with fail
 refine (HI.out _).mono ?_
 rintro e w2 ⟨rfl,hb⟩
 have B:=hZ (chain B.out hb)
 have Q:=hZ (Q.out.keep hb)
 have HW:=hZ (HW.out.below hb)
 clear hb r0 r1 HI HR HB
 obtain⟨r0,r1,-,-⟩:=Q.out.two
 obtain⟨b,off,rfl,hlb,hc⟩:=HW.out.2.2 (by omega)
 have c1:=hc (i / 64) (by omega)
 have hx:=HW.out.2.1 (i / 64)
 have hv:bits BinOp.and IntKind.u64 (((us.getD (i / 64) 0:Nat):Int) / 2 ^ (i%64)) 1=((bitAt us i:Nat):Int):=by
  have h1:=Nat.div_le_self (us.getD (i / 64) 0) (2 ^ (i%64))
  have:=u64_and_nat (us.getD (i / 64) 0 / 2 ^ (i%64)) 1 (by omega) (by omega)
  rw [show us.getD (i / 64) 0 / 2 ^ (i%64) &&& 1=bitAt us i from Nat.and_one_is_mod _,Int.natCast_ediv] at this
  simpa using this
 have hb1:bitAt us i≤1:=by rcases bitAt_le us i with h | h<;>omega
 clear hc
 generalize hme:bitAt us i=v at *
 have HE:=hZ hme
 clear hme
 generalize us.getD (i / 64) 0=x at *
 have g1:(i:Int).tdiv 64=((i / 64:Nat):Int):=by rw [Int.tdiv_eq_ediv_of_nonneg (by omega)];omega
 have g2:(i:Int).tmod 64=((i%64:Nat):Int):=by rw [Int.tmod_eq_emod_of_nonneg (by omega)];omega
 have g3:((i / 64:Nat):Int)<(len:Int):=by omega
 go_wp2
 go_ret2
 exact⟨by rw [HE.out];rfl,B.out⟩
end
section
/- Matrices in memory: a slice of rows, and what it reads. -/
open Go.RowKit Go.Joins Go.ChangeShapes Go.WideShapes
def RowAt (w:World) (b off:Nat) (r:Int×List Nat):Prop:=
 ∃ B l c,w.cell? ⟨b,off,none⟩=some (.int .i64 r.1)∧w.cell? ⟨b,off+1,none⟩=some (.slice B l c)∧SliceOk B l c∧Words w B l r.2
def MatAt (w:World) (lo:Nat) (A:Option Addr) (len:Nat) (ms:List (Int×List Nat)):Prop:=
 ms.length=len∧(0<len→∃ b off,A=some ⟨b,off,none⟩∧lo≤b∧b<w.heap.size∧∀ j,j<len→RowAt w b (off+j*2) (ms.getD j (0,[])))
section
variable {w w':World} {lo:Nat} {A:Option Addr} {len:Nat} {ms:List (Int×List Nat)}
theorem RowAt.below {b off:Nat} {r:Int×List Nat} (h:RowAt w b off r) (hl:b<w.heap.size) (hb:Below w.heap.size w w'):RowAt w' b off r:=by
 obtain⟨B,l,c,h0,h1,h2,h3⟩:=h
 exact⟨B,l,c,(hb.cell (p:=⟨b,off,none⟩) hl).trans h0,(hb.cell (p:=⟨b,off+1,none⟩) hl).trans h1,h2,h3.below hb⟩
theorem MatAt.below (h:MatAt w lo A len ms) (hb:Below w.heap.size w w'):MatAt w' lo A len ms:=by
 refine⟨h.1,fun hp=>?_⟩
 obtain⟨b,off,rfl,h1,h2,h3⟩:=h.2 hp
 exact⟨b,off,rfl,h1,Nat.lt_of_lt_of_le h2 hb.size,fun j hj=>(h3 j hj).below h2 hb⟩
theorem MatAt.mono (h:MatAt w lo A len ms) {B:Nat} (hB:w.heap.size≤B) (hb:Below B w w'):MatAt w' lo A len ms:=h.below (hb.mono hB)
theorem MatAt.alloc (h:MatAt w lo A len ms) (o:Obj):MatAt (w.alloc o) lo A len ms:=h.below ((Below.refl _ _).alloc (Nat.le_refl _) o)
theorem MatAt.drew (h:MatAt w lo A len ms):MatAt w.drew lo A len ms:=h
theorem MatAt.drewN (h:MatAt w lo A len ms) (n:Nat):MatAt (w.drewN n) lo A len ms:=h
theorem MatAt.low (h:MatAt w lo A len ms) {l2:Nat} (hl:l2≤lo):MatAt w l2 A len ms:=by
 refine⟨h.1,fun hp=>?_⟩
 obtain⟨b,off,rfl,h1,h2,h3⟩:=h.2 hp
 exact⟨b,off,rfl,by omega,h2,h3⟩
theorem MatAt.nil (w:World) (lo:Nat) (A:Option Addr):MatAt w lo A 0 []:=⟨rfl,fun h=>by omega⟩
theorem MatAt.at (h:MatAt w lo A len ms) (j:Nat) (hj:j<len):∃ b off B l c,A=some ⟨b,off,none⟩∧b<w.heap.size∧w.cell? ⟨b,off+j*2,none⟩=some (.int .i64 (ms.getD j (0,[])).1)∧w.cell? ⟨b,off+j*2+1,none⟩=some (.slice B l c)∧SliceOk B l c∧Words w B l (ms.getD j (0,[])).2:=by
 obtain⟨b,off,rfl,h1,h2,h3⟩:=h.2 (by omega)
 obtain⟨B,l,c,r0,r1,r2,r3⟩:=h3 j hj
 exact⟨b,off,B,l,c,rfl,h2,r0,r1,r2,r3⟩
theorem MatAt.far (h:MatAt w lo A len ms) {g:Nat} {t:TypeId} {x:Int} {S:Option Addr} {p q:Nat} (hb:Box w g t #[.int .i64 x,.slice S p q]) (hg:g<lo) (i:Nat) (u:Value):MatAt (w.setCell ⟨g,i,none⟩ u) lo A len ms:=by
 refine⟨h.1,fun hp=>?_⟩
 obtain⟨b,off,rfl,h1,h2,h3⟩:=h.2 hp
 refine⟨b,off,rfl,h1,by simpa [World.setCell] using h2,fun j hj=>?_⟩
 obtain⟨B,l,c,r0,r1,r2,r3⟩:=h3 j hj
 refine⟨B,l,c,?_,?_,r2,?_⟩
 ·rw [World.cell?_setCell_other _ _ _ _ (by intro e;injection e;omega)];exact r0
 ·rw [World.cell?_setCell_other _ _ _ _ (by intro e;injection e;omega)];exact r1
 ·refine⟨r3.1,r3.2.1,fun hp=>?_⟩
  obtain⟨b',off',rfl,hlt,hc⟩:=r3.2.2 hp
  have hne:=r3.off hb b' off' rfl hp
  refine⟨b',off',rfl,by simpa [World.setCell] using hlt,fun j hj=>?_⟩
  rw [World.cell?_setCell_other _ _ _ _ (by intro e;injection e;omega)]
  exact hc j hj
theorem MatAt.put2 (h:MatAt w lo A len ms) {g:Nat} {t:TypeId} {x y:Int} {S:Option Addr} {p q:Nat} (hb:Box w g t #[.int .i64 x,.slice S p q]) (hg:g<lo) (v:Value):MatAt ((w.setCell ⟨g,0,none⟩ (.int .i64 y)).setCell ⟨g,1,none⟩ v) lo A len ms:=
 (h.far hb hg 0 _).far (hb.put 0 (.int .i64 y)) hg 1 v
theorem MatAt.take (h:MatAt w lo A len ms) (k:Nat) (hk:k≤len):MatAt w lo A k (ms.take k):=by
 refine⟨by simp [h.1];omega,fun hp=>?_⟩
 obtain⟨b,off,rfl,h1,h2,h3⟩:=h.2 (by omega)
 refine⟨b,off,rfl,h1,h2,fun j hj=>?_⟩
 have:=h3 j (by omega)
 simpa [List.getD,List.getElem?_take,hj] using this
theorem MatAt.lt (h:MatAt w lo A len ms) (j i:Nat):(ms.getD j (0,[])).2.getD i 0<18446744073709551616:=by
 by_cases hj:j<len
 ·obtain⟨b,off,rfl,h1,h2,h3⟩:=h.2 (by omega)
  obtain⟨B,l,c,r0,r1,r2,r3⟩:=h3 j hj
  exact r3.2.1 i
 ·have:ms[j]?=none:=List.getElem?_eq_none (by rw [h.1];omega)
  simp [List.getD,this]
end
end
section
/- Contracts of layer 3: columnsMayBe, Right, the reference's Right. -/
open Go.RowKit
theorem columnsMayBe_any (n:Int) (w:World):Calls Tryz.prog 171 #[.int .i64 n] w fun e w'=>e=.returned (.bool (smb n))∧w=w':=by
 by_cases h:0≤n
 ·by_cases h2:n≤64
  ·have e:smb n=true:=(smb_iff n).2 ⟨h,h2⟩
   rw [e];clear e
   go_enter Tryz.func171,Tryz.ntmps171
   go_wp2
   go_ret
   exact⟨rfl,rfl⟩
  ·have e:smb n=false:=(smb_no n).2 (by omega)
   rw [e];clear e
   have t:decide (n≤64)=false:=by simpa using h2
   go_enter Tryz.func171,Tryz.ntmps171
   go_wp2
   go_ret
   exact⟨by simp,rfl⟩
 ·have e:smb n=false:=(smb_no n).2 (by omega)
  rw [e];clear e
  have t:decide (0≤n)=false:=by simpa using h
  go_enter Tryz.func171,Tryz.ntmps171
  go_wp2
  go_ret
  exact⟨by simp,rfl⟩
def rowsB (N:Int) (ms:List (Int×List Nat)):Bool:=ms.all fun r=>(r.1==N)&&rightB r.1 r.2
def rightM (N:Int) (ms:List (Int×List Nat)):Bool:=smb N&&decide (ms.length≤64)&&rowsB N ms
theorem rowsB_snoc (N:Int) (ms:List (Int×List Nat)) (j:Nat) (h:j<ms.length):rowsB N (ms.take (j+1))=(rowsB N (ms.take j)&&(((ms.getD j (0,[])).1==N)&&rightB (ms.getD j (0,[])).1 (ms.getD j (0,[])).2)):=by
 unfold rowsB
 rw [List.take_succ_eq_append_getElem h,List.all_append]
 simp [List.getD,h]
theorem rowsB_not (N:Int) (ms:List (Int×List Nat)) (j:Nat) (h:j<ms.length) (hz:(((ms.getD j (0,[])).1==N)&&rightB (ms.getD j (0,[])).1 (ms.getD j (0,[])).2)=false):rowsB N ms=false:=by
 rw [Bool.eq_false_iff]
 intro ha
 have:=List.all_eq_true.1 ha (ms[j]) (List.getElem_mem _)
 rw [show ms.getD j (0,[])=ms[j] by simp [List.getD,h]] at hz
 rw [this] at hz;cases hz
theorem rightM_at {N:Int} {ms:List (Int×List Nat)} (h:rightM N ms=true) (j:Nat) (hj:j<ms.length):(ms.getD j (0,[])).1=N∧rightB N (ms.getD j (0,[])).2=true:=by
 simp only [rightM,Bool.and_eq_true] at h
 have:=List.all_eq_true.1 h.2 (ms[j]) (List.getElem_mem _)
 rw [show ms.getD j (0,[])=ms[j] by simp [List.getD,hj]]
 simp only [Bool.and_eq_true,beq_iff_eq] at this
 exact⟨this.1,this.1 ▸ this.2⟩
theorem rightM_bd {N:Int} {ms:List (Int×List Nat)} (h:rightM N ms=true):0≤N∧N≤64∧ms.length≤64:=by
 simp only [rightM,Bool.and_eq_true,decide_eq_true_eq] at h
 have:=(smb_iff N).1 h.1.1
 exact⟨this.1,this.2,h.1.2⟩
set_option maxHeartbeats 1000000 in
theorem mright_any (N:Int) (A:Option Addr) (l c lo:Nat) (ms:List (Int×List Nat)) (w:World) (hm:MatAt w lo A l ms) (hl:l≤maxLen) :
  Calls Tryz.prog 156 #[.agg #[.int .i64 N,.slice A l c]] w fun e w'=>e=.returned (.bool (rightM N ms))∧Below w.heap.size w w':=by
 unfold maxLen at hl
 have H:=hZ (columnsMayBe_any N)
 have Q:=hZ (Box.new w 102 #[.int .i64 N,.slice A l c])
 have HW:=hZ (show Below w.heap.size w (w.alloc (.cells #[.int .i64 N,.slice A l c] 102)) from (Below.refl _ _).alloc (Nat.le_refl _) _)
 have HM:=hZ hm
 have HL:=hZ hm.1
 clear hm
 obtain⟨r0,r1,-,-⟩:=Q.out.two
 cases h:smb N with
 | false=>
   have HE:=hZ (show rightM N ms=false by simp [rightM,h])
   go_enter Tryz.func156,Tryz.ntmps156
   go_wp2_with fail
   refine (H.out _).mono ?_
   rintro e w1 ⟨rfl,rfl⟩
   go_wp2_with fail
   go_ret
   exact⟨by rw [HE.out];rfl,HW.out⟩
 | true=>
   by_cases h64:l≤64
   ·have g1:¬ (64:Int)<l:=by omega
    go_enter Tryz.func156,Tryz.ntmps156
    go_wp2_with fail
    refine (H.out _).mono ?_
    rintro e w1 ⟨rfl,rfl⟩
    go_wp2_with fail
    have HSM:=hZ h
    clear h r0 r1 H
    go_loopw [18] (fun i wr=>∃ k:Nat,k≤l∧i=.int .i64 k∧Hid (rowsB N (ms.take k)=true)∧Box wr w.heap.size 102 #[.int .i64 N,.slice A l c]∧Below w.heap.size w wr) (fun i _=>l-(intOf i).toNat)
    case atStart=>exact⟨0,by omega,rfl,hZ (by simp [rowsB]),Q.out,HW.out⟩
    case round=>
     obtain⟨k,hk,rfl,HN,hbx,hbel⟩:=hrel
     have R:=hZ hbx
     have B:=hZ hbel
     clear hbx hbel Q HW
     obtain⟨r0,r1,-,-⟩:=R.out.two
     by_cases hlt:k<l
     ·have hlt':(k:Int)<(l:Int):=by omega
      obtain⟨b,off,B1,l1,c1,rfl,hb,x0,x1,hs,hw⟩:=(HM.out.mono (Nat.le_refl _) B.out).at k hlt
      have HS:=hZ (rowsB_snoc N ms k (by rw [HL.out];exact hlt))
      have HNO:=hZ (rowsB_not N ms k (by rw [HL.out];exact hlt))
      generalize (ms.getD k (0,[])).1=n at *
      generalize (ms.getD k (0,[])).2=us at *
      have R2:=hZ (R.out.alloc (.cells #[.int .i64 n,.slice B1 l1 c1] 139))
      have B2:=hZ (B.out.alloc B.out.size (.cells #[.int .i64 n,.slice B1 l1 c1] 139))
      have HW1:=hZ (hw.alloc (.cells #[.int .i64 n,.slice B1 l1 c1] 139))
      have HR:=hZ (right_any n B1 l1 c1 us _ HW1.out)
      clear hw hs
      obtain⟨r0,r1,-,-⟩:=R2.out.two
      by_cases hn:n=N
      ·subst hn
       have t:(n != n)=false:=by simp
       cases hr:rightB n us with
       | true=>
         rw [hr] at HR HS
         go_wp2_with fail
         refine HR.out.mono ?_
         rintro e w2 ⟨rfl,hb2⟩
         have B3:=hZ (chain B2.out hb2)
         have R3:=hZ (R2.out.keep hb2)
         clear hb2
         go_wp2_with fail
         go_roundw
         case rel=>exact⟨k+1,by omega,by go_num,hZ (by rw [HS.out,HN.out];simp),R3.out,B3.out⟩
         case measure=>simp [intOf];omega
       | false=>
         rw [hr] at HR
         have HE:=hZ (show rightM n ms=false by rw [rightM,HNO.out (by simp [hr])];simp)
         clear hr
         go_wp2_with fail
         refine HR.out.mono ?_
         rintro e w2 ⟨rfl,hb2⟩
         have B3:=hZ (chain B2.out hb2)
         clear hb2
         go_wp2_with fail
         go_ret
         exact⟨by rw [HE.out];rfl,B3.out⟩
      ·have t:(n != N)=true:=by simpa using hn
       have t2:(n==N)=false:=by simpa using hn
       have HE:=hZ (show rightM N ms=false by rw [rightM,HNO.out (by simp [t2])];simp)
       clear hn t2
       go_wp2_with fail
       go_ret
       exact⟨by rw [HE.out];rfl,B2.out⟩
     ·obtain rfl:k=l:=by omega
      have hlt':¬ (k:Int)<(k:Int):=by omega
      have HE:=hZ (show rightM N ms=true by
       have:=HN.out
       rw [List.take_of_length_le (by rw [HL.out];omega)] at this
       simp [rightM,HSM.out,this,HL.out,h64])
      go_wp2_with fail
      go_ret
      exact⟨by rw [HE.out];rfl,B.out⟩
   ·have g1:(64:Int)<l:=by omega
    have HE:=hZ (show rightM N ms=false by simp [rightM,HL.out,h64])
    go_enter Tryz.func156,Tryz.ntmps156
    go_wp2_with fail
    refine (H.out _).mono ?_
    rintro e w1 ⟨rfl,rfl⟩
    go_wp2_with fail
    go_ret
    exact⟨by rw [HE.out];rfl,HW.out⟩
end
section
/- Contracts of slices.Equal at words and of bitrow.Like. -/
open Go.RowKit
end
section
/- Contracts of layer 3's reference: Right, Same; matrix.Like. -/
open Go.RowKit
end
section
/- Contracts of layer 3: slices.EqualFunc at rows, Like, rowsBy. -/
open Go.RowKit
abbrev RowV:=Int×Option Addr×Nat×Nat
def rowCells (rs:List RowV):List Value:=rs.flatMap fun r=>[.int .i64 r.1,.slice r.2.1 r.2.2.1 r.2.2.2]
theorem rowCells_cons (r:RowV) (rs:List RowV):rowCells (r::rs)=.int .i64 r.1::.slice r.2.1 r.2.2.1 r.2.2.2::rowCells rs:=rfl
theorem rowCells_snoc (rs:List RowV) (r:RowV):rowCells (rs++[r])=rowCells rs++[.int .i64 r.1,.slice r.2.1 r.2.2.1 r.2.2.2]:=by simp [rowCells]
theorem rowCells_at (rs:List RowV) (j:Nat) (hj:j<rs.length):(rowCells rs)[j*2]?=some (.int .i64 (rs.getD j (0,none,0,0)).1)∧(rowCells rs)[j*2+1]?=some (.slice (rs.getD j (0,none,0,0)).2.1 (rs.getD j (0,none,0,0)).2.2.1 (rs.getD j (0,none,0,0)).2.2.2):=by
 induction rs generalizing j with
 | nil=>cases hj
 | cons r rs ih=>
   cases j with
   | zero=>rw [rowCells_cons];exact⟨rfl,rfl⟩
   | succ j=>
     have h:=ih j (by simpa using hj)
     rw [rowCells_cons,show (j+1)*2=j*2+1+1 by omega]
     exact h
theorem rowCells_set (rs:List RowV) (j:Nat) (r:RowV):((rowCells rs).set (j*2) (.int .i64 r.1)).set (j*2+1) (.slice r.2.1 r.2.2.1 r.2.2.2)=rowCells (rs.set j r):=by
 induction rs generalizing j with
 | nil=>simp [rowCells]
 | cons q rs ih=>
   cases j with
   | zero=>rw [rowCells_cons];rfl
   | succ j=>
     rw [rowCells_cons,List.set_cons_succ,rowCells_cons,← ih j,show (j+1)*2=j*2+1+1 by omega]
     rfl
theorem row_infoM:(Tryz.prog.info? 139).map (fun i=>(i.zero,i.size,i.bytes))=some (some (.agg #[.int .i64 0,.slice none 0 0]),2,32):=by kernel_rfl
theorem Box.rows {w:World} {g:Nat} {t:TypeId} {rs:List RowV} (h:Box w g t (rowCells rs).toArray) {N:Int} {f:Nat→List Nat} (hf:∀ j,j<rs.length→(rs.getD j (0,none,0,0)).1=N∧SliceOk (rs.getD j (0,none,0,0)).2.1 (rs.getD j (0,none,0,0)).2.2.1 (rs.getD j (0,none,0,0)).2.2.2∧Words w (rs.getD j (0,none,0,0)).2.1 (rs.getD j (0,none,0,0)).2.2.1 (f j)) {lo:Nat} (hg:lo≤g) :
  MatAt w lo (some ⟨g,0,none⟩) rs.length ((List.range rs.length).map fun i=>(N,f i)):=by
 refine⟨by simp,fun _=>⟨g,0,rfl,hg,h.lt,fun j hj=>?_⟩⟩
 obtain⟨h1,h2,h3⟩:=hf j hj
 obtain⟨c1,c2⟩:=rowCells_at rs j hj
 have e:((List.range rs.length).map fun i=>((N,f i):Int×List Nat)).getD j (0,[])=(N,f j):=by simp [List.getD,hj]
 rw [e,Nat.zero_add]
 refine⟨_,_,_,?_,?_,h2,h3⟩
 ·rw [h.cell,List.getElem?_toArray,c1,h1]
 ·rw [h.cell,List.getElem?_toArray,c2]
theorem OwnW.ok {w:World} {A:Option Addr} {l c:Nat} {zs:List Nat} (h:OwnW w A l c zs):SliceOk A l c:=by
 rcases h.2 with ⟨hv,h0⟩ |⟨g,cap,cur,hv,hb,hh,hn,hm,hs,hx⟩
 ·injection hv with e1 e2 e3
  subst e1 e2 e3
  exact⟨Nat.le_refl _,Nat.zero_le _,fun _=>⟨rfl,rfl⟩⟩
 ·injection hv with e1 e2 e3
  subst e1 e3
  exact⟨hn,hm,fun h=>by cases h⟩
end
section
/- A chain of worlds that keep what was below. No program. -/
open Go.RowKit
theorem chainN {w w1 w2:World} {B:Nat} (h:Below B w w1) (hB:B≤w1.heap.size) (h2:Below w1.heap.size w1 w2):Below B w w2:=h.trans (h2.mono hB)
end
section
/- Mathematics of matrices: columns. -/
open Go.RowKit
def mbit (ms:List (Int×List Nat)) (j i:Nat):Nat:=bitAt (ms.getD j (0,[])).2 i
def castP (l:List Nat):List Int:=l.map fun (x:Nat)=>(x:Int)
end
section
/- Contracts of layer 3: alone, One. -/
open Go.RowKit
def oneL (n:Nat):List (Int×List Nat):=(List.range n).map fun (i:Nat)=>((n:Int),ofBits n [(i:Int)])
theorem oneL_len (n:Nat):(oneL n).length=n:=by simp [oneL]
end
section
/- Contracts of layer 3: column, Turn. -/
open Go.RowKit
end
section
/- Contract of law 03's few: a matrix of at most 66 rows, of three words each. -/
open Go.RowKit
theorem add_zeroM (g j:Nat):(⟨g,0,none⟩:Addr).add j=⟨g,j,none⟩:=by unfold Addr.add;split<;>simp_all
theorem own_mat {w:World} {base n:Nat} {v:Value} {rs:List RowV} (h:w.ownsRow base 139 2 v n (rowCells rs)) (hn:rs.length=n) (ms:List (Int×List Nat)) (hl:ms.length=n)
  (hf:∀ j,j<n→(rs.getD j (0,none,0,0)).1=(ms.getD j (0,[])).1∧SliceOk (rs.getD j (0,none,0,0)).2.1 (rs.getD j (0,none,0,0)).2.2.1 (rs.getD j (0,none,0,0)).2.2.2∧Words w (rs.getD j (0,none,0,0)).2.1 (rs.getD j (0,none,0,0)).2.2.1 (ms.getD j (0,[])).2) :
  ∃ A c,v=.slice A n c∧n≤c∧MatAt w base A n ms:=by
 rcases h.2 with ⟨hv,h0⟩ |⟨g,cap,cur,hv,hb,hh,hc,-⟩
 ·subst h0
  obtain rfl:ms=[]:=List.length_eq_zero_iff.1 hl
  exact⟨none,0,hv,Nat.le_refl _,MatAt.nil _ _ _⟩
 ·refine⟨some ⟨g,0,none⟩,cap,hv,hc,hl,fun hp=>⟨g,0,rfl,hb,(h.lt g (by rw [hv];rfl)).2,fun j hj=>?_⟩⟩
  obtain⟨f1,f2⟩:=rowCells_at rs j (by omega)
  obtain⟨a1,a2,a3⟩:=hf j hj
  have hc:=World.ownsRow.cells h (g:=g) (by rw [hv];rfl)
  have c1:=hc _ _ f1
  have c2:=hc _ _ f2
  rw [add_zeroM] at c1 c2
  refine⟨_,_,_,?_,?_,a2,a3⟩
  ·rw [Nat.zero_add,c1,a1]
  ·rw [Nat.zero_add,c2]
theorem MatAt.farB {w:World} {lo:Nat} {A:Option Addr} {len:Nat} {ms:List (Int×List Nat)} (h:MatAt w lo A len ms) {B:Nat} {t:TypeId} {x:Int} {S:Option Addr} {p q:Nat} (hne:∀ b o,A=some ⟨b,o,none⟩→0<len→b≠B) (hb:Box w B t #[.int .i64 x,.slice S p q]) (i:Nat) (u:Value):MatAt (w.setCell ⟨B,i,none⟩ u) lo A len ms:=by
 refine⟨h.1,fun hp=>?_⟩
 obtain⟨b,off,rfl,h1,h2,h3⟩:=h.2 hp
 have hnb:=hne b off rfl hp
 refine⟨b,off,rfl,h1,by simpa [World.setCell] using h2,fun j hj=>?_⟩
 obtain⟨Bw,l,c,r0,r1,r2,r3⟩:=h3 j hj
 refine⟨Bw,l,c,?_,?_,r2,?_⟩
 ·rw [World.cell?_setCell_other _ _ _ _ (by intro e;injection e;omega)];exact r0
 ·rw [World.cell?_setCell_other _ _ _ _ (by intro e;injection e;omega)];exact r1
 ·refine⟨r3.1,r3.2.1,fun hp=>?_⟩
  obtain⟨b',off',rfl,hlt,hc⟩:=r3.2.2 hp
  have hnw:=r3.off hb b' off' rfl hp
  refine⟨b',off',rfl,by simpa [World.setCell] using hlt,fun j hj=>?_⟩
  rw [World.cell?_setCell_other _ _ _ _ (by intro e;injection e;omega)]
  exact hc j hj
end
section
/- Layer 3's reference: One. -/
open Go.RowKit
theorem own_drewM {w:World} {base e size n:Nat} {v:Value} {xs:List Value} (h:w.ownsRow base e size v n xs):w.drew.ownsRow base e size v n xs:=h
def RowsW (w:World) (base:Nat) (v:Value) (ms:List (Int×List Nat)):Prop:=
 ∃ rs:List RowV,rs.length=ms.length∧w.ownsRow base 139 2 v ms.length (rowCells rs)∧∀ j,j<ms.length→(rs.getD j (0,none,0,0)).1=(ms.getD j (0,[])).1∧OwnW w (rs.getD j (0,none,0,0)).2.1 (rs.getD j (0,none,0,0)).2.2.1 (rs.getD j (0,none,0,0)).2.2.2 (ms.getD j (0,[])).2
theorem RowsW.nil (w:World) (base:Nat):RowsW w base (.slice none 0 0) []:=⟨[],rfl,World.ownsRow_nil _ _ _ _,fun j hj=>by cases hj⟩
theorem RowsW.below {w w':World} {base:Nat} {v:Value} {ms:List (Int×List Nat)} (h:RowsW w base v ms) (hb:Below w.heap.size w w'):RowsW w' base v ms:=by
 obtain⟨rs,h1,h2,h3⟩:=h
 exact⟨rs,h1,own_keep h2 hb,fun j hj=>⟨(h3 j hj).1,(h3 j hj).2.below hb⟩⟩
theorem RowsW.far {w:World} {base:Nat} {v:Value} {ms:List (Int×List Nat)} (h:RowsW w base v ms) {g:Nat} {t:TypeId} {cs:Array Value} (hb:Box w g t cs) (hne:22≠t) (hne2:139≠t) (i:Nat) (u:Value):RowsW (w.setCell ⟨g,i,none⟩ u) base v ms:=by
 obtain⟨rs,h1,h2,h3⟩:=h
 exact⟨rs,h1,own_far h2 hb hne2 i u,fun j hj=>⟨(h3 j hj).1,(h3 j hj).2.far hb hne i u⟩⟩
theorem RowsW.snoc {w:World} {base n:Nat} {v:Value} {rs:List RowV} {ms:List (Int×List Nat)} {N:Int} {A:Option Addr} {l c:Nat} {z:List Nat} (hn:ms.length=n) (h1:rs.length=n) (h2:w.ownsRow base 139 2 v (n+1) (rowCells rs++[.int .i64 N,.slice A l c]))
  (h3:∀ j,j<n→(rs.getD j (0,none,0,0)).1=(ms.getD j (0,[])).1∧OwnW w (rs.getD j (0,none,0,0)).2.1 (rs.getD j (0,none,0,0)).2.2.1 (rs.getD j (0,none,0,0)).2.2.2 (ms.getD j (0,[])).2) (h4:OwnW w A l c z):RowsW w base v (ms++[(N,z)]):=by
 subst hn
 refine⟨rs++[(N,A,l,c)],by simp [h1],?_,fun j hj=>?_⟩
 ·rw [rowCells_snoc,List.length_append];exact h2
 ·rw [List.length_append] at hj
  simp only [List.length_cons,List.length_nil] at hj
  by_cases h:j<ms.length
  ·have:=h3 j h
   simp only [List.getD,List.getElem?_append_left h,List.getElem?_append_left (h1 ▸ h)] at this ⊢
   exact this
  ·obtain rfl:j=ms.length:=by omega
   have e1:(rs++[(N,A,l,c)]).getD ms.length (0,none,0,0)=(N,A,l,c):=by rw [← h1];simp [List.getD]
   have e2:(ms++[(N,z)]).getD ms.length (0,[])=(N,z):=by simp [List.getD]
   rw [e1,e2];exact⟨rfl,h4⟩
theorem RowsW.mat {w:World} {base:Nat} {v:Value} {ms:List (Int×List Nat)} (h:RowsW w base v ms) (hz:∀ i j,((ms.getD i (0,[])).2).getD j 0<18446744073709551616):∃ A c,v=.slice A ms.length c∧ms.length≤c∧MatAt w base A ms.length ms:=by
 obtain⟨rs,h1,h2,h3⟩:=h
 exact own_mat h2 h1 ms rfl (fun j hj=>⟨(h3 j hj).1,(h3 j hj).2.ok,(h3 j hj).2.words (hz j)⟩)
theorem oneL_lt (n i j:Nat):(((oneL n).getD i (0,[])).2).getD j 0<18446744073709551616:=by
 by_cases h:i<n
 ·have e:(oneL n).getD i (0,[])=((n:Int),ofBits n [(i:Int)]):=by simp [oneL,List.getD,h]
  rw [e];exact ofBits_lt n _ j
 ·have e:(oneL n)[i]?=none:=List.getElem?_eq_none (by rw [oneL_len];omega)
  simp [List.getD,e]
end
section
/- Layer 4: rows of rows as numbers; has, find. -/
open Go.RowKit
set_option maxRecDepth 100000
def mkR (N x:Nat):Int×List Nat:=((N:Int),rowOf N x)
def mkM (N:Nat) (L:List Nat):List (Int×List Nat):=L.map (mkR N)
theorem mkM_len (N:Nat) (L:List Nat):(mkM N L).length=L.length:=by simp [mkM]
theorem mkM_at (N:Nat) (L:List Nat) (i:Nat) (h:i<L.length):(mkM N L).getD i (0,[])=mkR N (L.getD i 0):=by simp [mkM,List.getD,h]
def RowsN (w:World) (base:Nat) (v:Value) (N:Nat) (L:List Nat):Prop:=RowsW w base v (mkM N L)
section
variable {w w':World} {base:Nat} {v:Value} {N:Nat} {L:List Nat}
theorem RowsN.below (h:RowsN w base v N L) (hb:Below w.heap.size w w'):RowsN w' base v N L:=RowsW.below h hb
theorem RowsN.far (h:RowsN w base v N L) {g:Nat} {t:TypeId} {cs:Array Value} (hb:Box w g t cs) (hne:22≠t) (hne2:139≠t) (i:Nat) (u:Value):RowsN (w.setCell ⟨g,i,none⟩ u) base v N L:=RowsW.far h hb hne hne2 i u
theorem RowsN.form (h:RowsN w base v N L) (h0:0<L.length):∃ g cap,v=.slice (some ⟨g,0,none⟩) L.length cap∧base≤g∧g<w.heap.size∧L.length≤cap∧cap≤maxLen:=by
 obtain⟨rs,h1,h2,-⟩:=h
 rw [mkM_len] at h2
 rcases h2.2 with ⟨hv,hz⟩ |⟨g,cap,cur,hv,hb,hh,hc,hm,-⟩
 ·omega
 ·exact⟨g,cap,hv,hb,(show Box w g _ cur from hh).lt,hc,hm⟩
theorem RowsN.at (h:RowsN w base v N L) {g cap:Nat} (hv:v=.slice (some ⟨g,0,none⟩) L.length cap) (i:Nat) (hi:i<L.length) :
  ∃ A l c,w.cell? ⟨g,i*2,none⟩=some (.int .i64 N)∧w.cell? ⟨g,i*2+1,none⟩=some (.slice A l c)∧OwnW w A l c (rowOf N (L.getD i 0))∧w.frozen? ⟨g,i*2,none⟩=false∧w.frozen? ⟨g,i*2+1,none⟩=false:=by
 obtain⟨rs,h1,h2,h3⟩:=h
 rw [mkM_len] at h1 h2 h3
 obtain⟨e1,e2⟩:=h3 i hi
 rw [mkM_at N L i hi] at e1 e2
 obtain⟨r1,r2⟩:=rowCells_at rs i (by omega)
 have hc:=World.ownsRow.cells h2 (g:=g) (by rw [hv];rfl)
 have c1:=hc _ _ r1
 have c2:=hc _ _ r2
 rw [add_zeroM] at c1 c2
 rw [e1] at c1
 rw [hv] at h2
 exact⟨_,_,_,c1,c2,e2,h2.frozenAt _,h2.frozenAt _⟩
theorem RowsN.put {g cap:Nat} (h:RowsN w base (.slice (some ⟨g,0,none⟩) L.length cap) N L) (i:Nat) (hi:i<L.length) (x:Nat) {A:Option Addr} {l c:Nat} (hw:OwnW w A l c (rowOf N x)) :
  RowsN ((w.setCell ⟨g,i*2,none⟩ (.int .i64 N)).setCell ⟨g,i*2+1,none⟩ (.slice A l c)) base (.slice (some ⟨g,0,none⟩) L.length cap) N (L.set i x):=by
 obtain⟨rs,h1,h2,h3⟩:=h
 rw [mkM_len] at h1 h2 h3
 have hbox:∃ cur,Box w g 139 cur:=by
  rcases h2.2 with ⟨hv,_⟩ |⟨g',cap',cur,hv,hb,hh,-⟩
  ·cases hv
  ·injection hv with e1;injection e1 with e1;injection e1 with e1;subst e1;exact⟨cur,hh⟩
 obtain⟨cur,hbx⟩:=hbox
 have s1:=(h2.stored (i*2) (.int .i64 N)).1
 have s2:=(s1.stored (i*2+1) (.slice A l c)).1
 rw [show ((rowCells rs).set (i*2) (.int .i64 (N:Int))).set (i*2+1) (.slice A l c)=rowCells (rs.set i ((N:Int),A,l,c)) from rowCells_set rs i ((N:Int),A,l,c)] at s2
 refine⟨rs.set i ((N:Int),A,l,c),by simp [h1,mkM],by rw [mkM_len,List.length_set];exact s2,fun j hj=>?_⟩
 rw [mkM_len,List.length_set] at hj
 rw [mkM_at N _ j (by rw [List.length_set];exact hj)]
 have far:∀ {A:Option Addr} {l c:Nat} {zs:List Nat},OwnW w A l c zs→OwnW ((w.setCell ⟨g,i*2,none⟩ (.int .i64 N)).setCell ⟨g,i*2+1,none⟩ (.slice A l c)) A l c zs:=fun ho=>(ho.far hbx (by decide) _ _).far (hbx.put _ _) (by decide) _ _
 have far2:∀ {B:Option Addr} {m d:Nat} {zs:List Nat},OwnW w B m d zs→OwnW ((w.setCell ⟨g,i*2,none⟩ (.int .i64 N)).setCell ⟨g,i*2+1,none⟩ (.slice A l c)) B m d zs:=fun ho=>(ho.far hbx (by decide) _ _).far (hbx.put _ _) (by decide) _ _
 by_cases e:j=i
 ·subst e
  have e1:(rs.set j ((N:Int),A,l,c)).getD j (0,none,0,0)=((N:Int),A,l,c):=by simp [List.getD,h1,hi]
  have e2:(L.set j x).getD j 0=x:=by simp [List.getD,hi]
  rw [e1,e2]
  exact⟨rfl,far2 hw⟩
 ·have e1:(rs.set i ((N:Int),A,l,c)).getD j (0,none,0,0)=rs.getD j (0,none,0,0):=by simp only [List.getD];rw [List.getElem?_set_ne (by omega)]
  have e2:(L.set i x).getD j 0=L.getD j 0:=by simp only [List.getD];rw [List.getElem?_set_ne (by omega)]
  obtain⟨f1,f2⟩:=h3 j hj
  rw [mkM_at N L j hj] at f1 f2
  rw [e1,e2]
  exact⟨f1,far2 f2⟩
end
theorem has_any (N x:Nat) (hN:N≤512) (hx:x<2 ^ N) (A:Option Addr) (l c p:Nat) (hp:p<N) (w:World) (hw:Words w A l (rowOf N x)) :
  Calls Tryz.prog 176 #[.agg #[.int .i64 N,.slice A l c],.int .i64 (p:Int)] w fun e w'=>e=.returned (.bool (x.testBit p))∧Below w.heap.size w w':=by
 have hW:Below w.heap.size w (w.alloc (.cells #[.int .i64 N,.slice A l c] 139)):=(Below.refl _ _).alloc (Nat.le_refl _) _
 have Q:=Box.new w 139 #[.int .i64 (N:Int),.slice A l c]
 have HG:=hZ (get_yes N p A l c (rowOf N x) _ (rowOf_right N x hN hx) hp (hw.below hW))
 rw [rowOf_bitN N x p hp] at HG
 have HW:=hZ hW
 obtain⟨q0,q1,-,-⟩:=Q.two
 clear hw hW Q
 cases hb:x.testBit p with
 | true=>
   rw [hb] at HG
   clear hb
   go_enter Tryz.func176,Tryz.ntmps176
   go_wp2_with fail
   refine HG.out.mono ?_
   rintro e w1 ⟨rfl,hb⟩
   have B:=hZ (chainN HW.out HW.out.size hb)
   clear hb
   go_wp2_with fail
   go_ret
   exact⟨by simp,B.out⟩
 | false=>
   rw [hb] at HG
   clear hb
   go_enter Tryz.func176,Tryz.ntmps176
   go_wp2_with fail
   refine HG.out.mono ?_
   rintro e w1 ⟨rfl,hb⟩
   have B:=hZ (chainN HW.out HW.out.size hb)
   clear hb
   go_wp2_with fail
   go_ret
   exact⟨by simp,B.out⟩
theorem RowsN.keepW {w:World} {base:Nat} {N:Nat} {L:List Nat} {g n cap:Nat} (h:RowsN w base (.slice (some ⟨g,0,none⟩) n cap) N L) {B:Option Addr} {m k:Nat} {zs:List Nat} (ho:OwnW w B m k zs) (i j:Nat) (u v:Value) :
  OwnW ((w.setCell ⟨g,i,none⟩ u).setCell ⟨g,j,none⟩ v) B m k zs:=by
 obtain⟨rs,h1,h2,h3⟩:=h
 rcases h2.2 with ⟨hv,_⟩ |⟨g',cap',cur,hv,hb,hh,-⟩
 ·cases hv
 ·injection hv with e1;injection e1 with e1;injection e1 with e1
  subst e1
  have hbx:Box w g 139 cur:=hh
  exact (ho.far hbx (by decide) _ _).far (hbx.put _ _) (by decide) _ _
theorem Box.three {w:World} {g:Nat} {t:TypeId} {a b d:Value} (h:Box w g t #[a,b,d]):w.cell? ⟨g,0,none⟩=some a∧w.cell? ⟨g,1,none⟩=some b∧w.cell? ⟨g,2,none⟩=some d∧w.frozen? ⟨g,0,none⟩=false∧w.frozen? ⟨g,1,none⟩=false∧w.frozen? ⟨g,2,none⟩=false:=
 ⟨h.cell 0,h.cell 1,h.cell 2,h.free 0,h.free 1,h.free 2⟩
def FindOut (L:List Nat) (d c:Nat) (w:World) (e:Ending) (w':World):Prop:=
 ∃ i:Nat,e=.returned (.int .i64 (i:Int))∧d≤i∧i≤L.length∧(∀ j,d≤j→j<i→(L.getD j 0).testBit c=false)∧(i<L.length→(L.getD i 0).testBit c=true)∧Below w.heap.size w w'
set_option maxHeartbeats 2000000 in
theorem find_any (N:Nat) (hN:N≤512) (L:List Nat) (hL:∀ i,L.getD i 0<2 ^ N) (hlen:L.length≤64) (v:Value) (base wb d c:Nat) (hd:d≤L.length) (hc:c<N) (w:World) (hb:Box w wb 213 #[.int .i64 (N:Int),v,.int .i64 (d:Int)]) (hr:RowsN w base v N L) :
  Calls Tryz.prog 175 #[.pointer (some ⟨wb,0,none⟩),.int .i64 (c:Int)] w (FindOut L d c w):=by
 have HBX:=hZ hb
 have HR:=hZ hr
 obtain⟨A0,c0,hv,-⟩:=own_form hr.choose_spec.2.1
 rw [mkM_len] at hv
 subst hv
 obtain⟨b0,b1,b2,-,-,-⟩:=hb.three
 clear hb hr
 go_enter Tryz.func175,Tryz.ntmps175
 go_wp2_with fail
 clear b0 b1 b2
 go_loopw [5] (fun t wr=>∃ i:Nat,d≤i∧i≤L.length∧t=.int .i64 (i:Int)∧Hid (∀ j,d≤j→j<i→(L.getD j 0).testBit c=false)∧Hid (Below w.heap.size w wr)) (fun t _=>L.length-(intOf t).toNat)
 case atStart=>exact⟨d,Nat.le_refl _,hd,rfl,hZ (fun j h1 h2=>by omega),hZ (Below.refl _ _)⟩
 case round=>
  obtain⟨i,h1,h2,rfl,HF,HB⟩:=hrel
  obtain⟨b0,b1,b2,-,-,-⟩:=(HBX.out.keep HB.out).three
  by_cases hlt:i<L.length
  ·have hlt':(i:Int)<(L.length:Int):=by omega
   have hr1:=HR.out.below HB.out
   obtain⟨g,cap,hv,-,-,hcap,hcm⟩:=hr1.form (by omega)
   injection hv with e1 e2 e3
   subst e1
   obtain⟨A,l,cc,x0,x1,ow,-,-⟩:=hr1.at rfl i hlt
   have HH:=hZ (has_any N (L.getD i 0) hN (hL i) A l cc c hc _ (ow.words (rowOf_lt N _)))
   clear hr1 e3 ow
   cases hbit:(L.getD i 0).testBit c with
   | true=>
     rw [hbit] at HH
     have HBt:=hZ hbit
     clear hbit
     go_wp2_with fail
     refine HH.out.mono ?_
     rintro e w1 ⟨rfl,hb⟩
     have HB2:=hZ (chain HB.out hb)
     clear hb
     go_wp2_with fail
     go_ret
     exact⟨i,rfl,h1,by omega,HF.out,fun _=>HBt.out,HB2.out⟩
   | false=>
     rw [hbit] at HH
     have HBt:=hZ hbit
     clear hbit
     go_wp2_with fail
     refine HH.out.mono ?_
     rintro e w1 ⟨rfl,hb⟩
     have HB2:=hZ (chain HB.out hb)
     clear hb
     go_wp2_with fail
     go_roundw
     case rel=>exact⟨i+1,by omega,by omega,by go_num,hZ (fun j k1 k2=>by
      by_cases e:j=i
      ·subst e;exact HBt.out
      ·exact HF.out j k1 (by omega)),HB2⟩
     case measure=>simp [intOf];omega
  ·obtain rfl:i=L.length:=by omega
   have hlt':¬ (L.length:Int)<(L.length:Int):=by omega
   go_wp2_with fail
   go_ret
   exact⟨L.length,rfl,h1,Nat.le_refl _,HF.out,fun h=>absurd h (Nat.lt_irrefl _),HB.out⟩
end
section
/- Layer 4: clear: a column is put out of all rows but one. -/
open Go.RowKit
set_option maxRecDepth 100000
theorem gk_trans {w w1 w2:World} {g:Nat} (h:w.grownBy w1 (some g)) (k:w1.grownBy w2 (some g)):w.grownBy w2 (some g):=
 ⟨k.os.trans h.os,k.tape.trans h.tape,k.output.trans h.output,Nat.le_trans h.size k.size,fun b hb hne=>(k.block b (Nat.lt_of_lt_of_le hb h.size) hne).trans (h.block b hb hne)⟩
theorem gk_below {w w1:World} {r:Option Nat} (h:Below w.heap.size w w1):w.grownBy w1 r:=⟨h.os,h.tape,h.output,h.size,fun b hb _=>h.block b hb⟩
theorem gk_set (w:World) (g i:Nat) (u:Value):w.grownBy (w.setCell ⟨g,i,none⟩ u) (some g):=
 ⟨rfl,rfl,rfl,by simp [World.setCell],fun b _ hne=>Below.heap_setCell _ _ _ _ (fun e=>hne (by rw [e]))⟩
theorem gk_drew {w w1:World} {r:Option Nat} (h:w.grownBy w1 r):w.grownBy w1.drew r:=⟨h.os,h.tape,h.output,h.size,h.block⟩
theorem RowsN.drew {w:World} {base:Nat} {v:Value} {N:Nat} {L:List Nat} (h:RowsN w base v N L):RowsN w.drew base v N L:=h
theorem gk_refl (w:World) (r:Option Nat):w.grownBy w r:=⟨rfl,rfl,rfl,Nat.le_refl _,fun _ _ _=>rfl⟩
theorem gk_box {w w1:World} {g b:Nat} {t:TypeId} {cs:Array Value} (h:Box w b t cs) (k:w.grownBy w1 (some g)) (hne:b≠g):Box w1 b t cs:=(k.block b h.lt (fun e=>hne (Option.some.inj e))).trans h
def clearP (L:List Nat) (d c i:Nat):List Nat:=(List.range L.length).map fun j=>if j<i∧j≠d∧(L.getD j 0).testBit c=true then L.getD j 0^^^L.getD d 0 else L.getD j 0
theorem clearP_len (L:List Nat) (d c i:Nat):(clearP L d c i).length=L.length:=by simp [clearP]
theorem clearP_at (L:List Nat) (d c i j:Nat) (hj:j<L.length):(clearP L d c i).getD j 0=if j<i∧j≠d∧(L.getD j 0).testBit c=true then L.getD j 0^^^L.getD d 0 else L.getD j 0:=by simp [clearP,List.getD,hj]
theorem clearP_zero (L:List Nat) (d c:Nat):clearP L d c 0=L:=by
 apply List.ext_getElem (clearP_len _ _ _ _)
 intro j h1 h2
 simp [clearP,List.getD,h2]
theorem clearP_all (L:List Nat) (d c:Nat):clearP L d c L.length=clearL L d c:=by
 unfold clearP clearL
 apply List.map_congr_left
 intro j hj
 have:j<L.length:=by simpa using hj
 simp [this]
theorem clearP_yes (L:List Nat) (d c i:Nat) (hi:i<L.length) (hd:i≠d) (hb:(L.getD i 0).testBit c=true):clearP L d c (i+1)=(clearP L d c i).set i (L.getD i 0^^^L.getD d 0):=by
 apply List.ext_getElem (by simp [clearP])
 intro j h1 h2
 have hj:j<L.length:=by rw [clearP_len] at h1;exact h1
 have a:=clearP_at L d c (i+1) j hj
 have b:=clearP_at L d c i j hj
 rw [List.getElem_set]
 have e1:(clearP L d c (i+1)).getD j 0=(clearP L d c (i+1))[j]:=by simp only [List.getD,List.getElem?_eq_getElem h1,Option.getD_some]
 have h3:j<(clearP L d c i).length:=by rw [clearP_len];exact hj
 have e2:(clearP L d c i).getD j 0=(clearP L d c i)[j]:=by simp only [List.getD,List.getElem?_eq_getElem h3,Option.getD_some]
 rw [← e1,a]
 by_cases e:i=j
 ·subst e;rw [if_pos rfl,if_pos ⟨by omega,hd,hb⟩]
 ·rw [if_neg e,← e2,b]
  by_cases hl:j<i
  ·simp only [hl,show j<i+1 by omega]
  ·simp only [hl,show ¬ j<i+1 by omega]
theorem clearP_no (L:List Nat) (d c i:Nat) (h:¬ (i≠d∧(L.getD i 0).testBit c=true)):clearP L d c (i+1)=clearP L d c i:=by
 unfold clearP
 apply List.map_congr_left
 intro j hj
 by_cases e:j=i
 ·subst e;rw [if_neg (fun k=>h k.2),if_neg (fun k=>h k.2)]
 ·by_cases hl:j<i
  ·simp only [hl,show j<i+1 by omega]
  ·simp only [hl,show ¬ j<i+1 by omega]
theorem lt_all {N:Nat} {L:List Nat} (h:∀ r∈L,r<2 ^ N) (i:Nat):L.getD i 0<2 ^ N:=by
 by_cases hi:i<L.length
 ·exact h _ (getD_mem hi)
 ·have:L[i]?=none:=List.getElem?_eq_none (by omega)
  simp only [List.getD,this,Option.getD_none];exact Nat.two_pow_pos N
theorem xor_num (N x y:Nat) (hN:N≤512) (hx:x<2 ^ N) (hy:y<2 ^ N) (A B:Option Addr) (l c k d:Nat) (w:World) (hu:Words w A l (rowOf N x)) (hv:Words w B k (rowOf N y)) :
  Calls Tryz.prog 174 #[.agg #[.int .i64 (N:Int),.slice A l c],.agg #[.int .i64 (N:Int),.slice B k d]] w (OwnOut N (rowOf N (x^^^y)) w):=by
 have h:=xor_own (N:Int) A B l c k d (rowOf N x) (rowOf N y) w hu hv (rowOf_right N x hN hx) (rowOf_right N y hN hy)
 rw [rowOf_xor] at h
 exact h
theorem set2_cell {w:World} {g i j:Nat} {x:Value} (h:w.cell? ⟨g,j,none⟩=some x) (h1:¬ j=i) (h2:¬ j=i+1) (u v:Value):((w.setCell ⟨g,i,none⟩ u).setCell ⟨g,i+1,none⟩ v).cell? ⟨g,j,none⟩=some x:=by
 rw [World.cell?_setCell_other _ _ _ _ (by intro e;injection e;omega),World.cell?_setCell_other _ _ _ _ (by intro e;injection e;omega)]
 exact h
def ClearOut (N base wb g cap:Nat) (L:List Nat) (d c:Nat) (w:World) (e:Ending) (w':World):Prop:=
 (∃ v,e=.returned v)∧Box w' wb 213 #[.int .i64 (N:Int),.slice (some ⟨g,0,none⟩) L.length cap,.int .i64 ((d:Int)+1)]∧RowsN w' base (.slice (some ⟨g,0,none⟩) L.length cap) N (clearL L d c)∧w.grownBy w' (some g)
set_option maxHeartbeats 4000000 in
theorem clear_any (N:Nat) (hN:N≤512) (L:List Nat) (hL:∀ i,L.getD i 0<2 ^ N) (hlen:L.length≤64) (base wb g cap d c:Nat) (hd:d<L.length) (hc:c<N) (hwg:wb≠g) (w:World)
  (hb:Box w wb 213 #[.int .i64 (N:Int),.slice (some ⟨g,0,none⟩) L.length cap,.int .i64 ((d:Int)+1)]) (hr:RowsN w base (.slice (some ⟨g,0,none⟩) L.length cap) N L) (hg:g<w.heap.size) :
  Calls Tryz.prog 159 #[.pointer (some ⟨wb,0,none⟩),.int .i64 (c:Int)] w (ClearOut N base wb g cap L d c w):=by
 have HBX:=hZ hb
 have HR:=hZ hr
 obtain⟨b0,b1,b2,-,-,-⟩:=hb.three
 obtain⟨-,-,-,-,-,hcap,hcm⟩:∃ (_ _:Nat),True∧True∧True∧L.length≤cap∧cap≤maxLen:=by
  obtain⟨g',cap',hv,-,-,h1,h2⟩:=hr.form (by omega)
  injection hv with _ _ e3
  subst e3
  exact⟨0,0,trivial,trivial,trivial,h1,h2⟩
 unfold maxLen at hcm
 clear hb hr
 go_enter Tryz.func159,Tryz.ntmps159
 go_wp2_with fail
 clear b0 b1 b2
 go_loopw [17] (fun t wr=>∃ i:Nat,i≤L.length∧t=.int .i64 (i:Int)∧Box wr wb 213 #[.int .i64 (N:Int),.slice (some ⟨g,0,none⟩) L.length cap,.int .i64 ((d:Int)+1)]∧RowsN wr base (.slice (some ⟨g,0,none⟩) L.length cap) N (clearP L d c i)∧Hid (w.grownBy wr (some g))) (fun t _=>L.length-(intOf t).toNat)
 case atStart=>exact⟨0,Nat.zero_le _,rfl,HBX.out,by rw [clearP_zero];exact HR.out,hZ (gk_refl _ _)⟩
 case round=>
  obtain⟨i,hi,rfl,hbx,hrw,HG⟩:=hrel
  have HB:=hZ hbx
  have HRw:=hZ hrw
  clear hbx hrw HBX HR
  have HCL:=hZ (clearP_len L d c i)
  by_cases hlt:i<L.length
  ·have hlt':(i:Int)<(L.length:Int):=by omega
   obtain⟨A,l,cc,x0,x1,ow,-,-⟩:=HRw.out.at (by rw [HCL.out]) i (by rw [HCL.out];exact hlt)
   have hx:=clearP_at L d c i i hlt
   rw [if_neg (fun k=>Nat.lt_irrefl _ k.1)] at hx
   rw [hx] at ow
   clear hx
   -- the row's own variable
   have hal:Below wr.heap.size wr (wr.alloc (.cells #[.int .i64 (N:Int),.slice A l cc] 139)):=(Below.refl _ _).alloc (Nat.le_refl _) _
   have RB:=hZ (Box.new wr 139 #[.int .i64 (N:Int),.slice A l cc])
   have HB1:=hZ (HB.out.keep hal)
   have HRw1:=hZ (HRw.out.below hal)
   have HG1:=hZ (gk_trans HG.out (gk_below hal))
   have OW1:=hZ (ow.below hal)
   have hgs:wb<wr.heap.size:=HB.out.lt
   clear ow
   obtain⟨r0,r1,-,-⟩:=RB.out.two
   have HH:=hZ (has_any N (L.getD i 0) hN (hL i) A l cc c hc _ (OW1.out.words (rowOf_lt N _)))
   by_cases hid:i=d
   ·have t1:((i:Int) != (d:Int))=false:=by simp [hid]
    have HNo:=hZ (clearP_no L d c i (fun k=>k.1 hid))
    clear hid
    go_wp2_with fail
    go_roundw
    case rel=>exact⟨i+1,by omega,by go_num,HB1.out,by rw [HNo.out];exact HRw1.out,HG1⟩
    case measure=>simp [intOf];omega
   ·have t1:((i:Int) != (d:Int))=true:=by simp;omega
    have HNE:=hZ hid
    clear hid
    cases hbit:(L.getD i 0).testBit c with
    | false=>
      rw [hbit] at HH
      have HNo:=hZ (clearP_no L d c i (fun k=>by rw [hbit] at k;cases k.2))
      clear hbit
      go_wp2_with fail
      refine HH.out.mono ?_
      rintro e w1 ⟨rfl,hb⟩
      have HB2:=hZ (HB1.out.keep hb)
      have HRw2:=hZ (HRw1.out.below hb)
      have HG2:=hZ (gk_trans HG1.out (gk_below hb))
      clear hb
      go_wp2_with fail
      go_roundw
      case rel=>exact⟨i+1,by omega,by go_num,HB2.out,by rw [HNo.out];exact HRw2.out,HG2⟩
      case measure=>simp [intOf];omega
    | true=>
      rw [hbit] at HH
      have HYes:=hZ (clearP_yes L d c i hlt HNE.out hbit)
      clear hbit
      go_wp2_with fail
      refine HH.out.mono ?_
      rintro e w1 ⟨rfl,hb⟩
      have HB2:=hZ (HB1.out.keep hb)
      have HRw2:=hZ (HRw1.out.below hb)
      have HG2:=hZ (gk_trans HG1.out (gk_below hb))
      have RB2:=hZ (RB.out.keep hb)
      have OW2:=hZ (OW1.out.below hb)
      clear hb r0 r1 x0 x1
      obtain⟨A2,l2,c2,y0,y1,ow2,-,-⟩:=HRw2.out.at (by rw [HCL.out]) d (by rw [HCL.out];exact hd)
      have hx:=clearP_at L d c i d hd
      rw [if_neg (fun k=>k.2.1 rfl)] at hx
      rw [hx] at ow2
      clear hx
      have OW3:=hZ ow2
      clear ow2
      obtain⟨r0,r1,-,-⟩:=RB2.out.two
      obtain⟨b0,b1,b2,-,-,-⟩:=HB2.out.three
      have HX:=hZ (fun W (h1:Words W A l (rowOf N (L.getD i 0))) (h2:Words W A2 l2 (rowOf N (L.getD d 0)))=>xor_num N (L.getD i 0) (L.getD d 0) hN (hL i) (hL d) A A2 l cc l2 c2 W h1 h2)
      have WD1:=hZ (show Words w1.drew A l (rowOf N (L.getD i 0)) from OW2.out.words (rowOf_lt N _))
      have WD2:=hZ (show Words w1.drew A2 l2 (rowOf N (L.getD d 0)) from OW3.out.words (rowOf_lt N _))
      have HV:=hZ (show Value.slice (some ⟨g,0,none⟩) L.length cap=.slice (some ⟨g,0,none⟩) (clearP L d c i).length cap by rw [HCL.out])
      have HGl:=hZ (show g<w1.drew.heap.size from Nat.lt_of_lt_of_le hg HG2.out.size)
      have HI1:=hZ (show i<(clearP L d c i).length by rw [HCL.out];exact hlt)
      have hdc:(d:Int)<(L.length:Int):=by omega
      have hgr:g<wr.heap.size:=Nat.lt_of_lt_of_le hg HG.out.size
      have n1:¬ d*2=i*2:=by have:=HNE.out;omega
      have n2:¬ d*2=i*2+1:=by omega
      have n3:¬ d*2+1=i*2:=by omega
      have n4:¬ d*2+1=i*2+1:=by have:=HNE.out;omega
      have n5:¬ wb=g:=hwg
      have n6:¬ wr.heap.size=g:=by omega
      have m1:¬ i*2=d*2:=by have:=HNE.out;omega
      have m2:¬ i*2+1=d*2:=by omega
      have m3:¬ i*2=d*2+1:=by omega
      have m4:¬ i*2+1=d*2+1:=by have:=HNE.out;omega
      have m5:¬ g=wb:=fun e=>hwg e.symm
      have m6:¬ g=wr.heap.size:=by omega
      go_wp2_with fail
      go_region_held3 (fun w'=>w'.cell? ⟨wb,1,none⟩=some (.slice (some ⟨g,0,none⟩) L.length cap)∧w'.cell? ⟨wr.heap.size,0,none⟩=some (.int .i64 (N:Int))∧w'.cell? ⟨wr.heap.size,1,none⟩=some (.slice A l cc)∧w'.cell? ⟨g,d*2,none⟩=some (.int .i64 (N:Int))∧w'.cell? ⟨g,d*2+1,none⟩=some (.slice A2 l2 c2)) (go_keep)
       (first | (go_at_call 174;refine (HX.out _ WD1.out WD2.out).mono ?_;rintro f1 y1' ⟨A3,l3,c3,rfl,ow3,hb⟩;have HB3:=hZ (HB2.out.drew.keep hb);have HRw3:=hZ (HRw2.out.drew.below hb);have HG3:=hZ (gk_trans (gk_drew HG2.out) (gk_below hb));have RB3:=hZ (RB2.out.drew.keep hb);have OW4:=hZ ow3;have q0:=(hb.cell (p:=⟨g,d*2,none⟩) HGl.out).trans y0;have q1:=(hb.cell (p:=⟨g,d*2+1,none⟩) HGl.out).trans y1;clear ow3 hb;obtain⟨s0,s1,-,-⟩:=RB3.out.two;obtain⟨p0,p1,p2,-,-,-⟩:=HB3.out.three;obtain⟨A5,l5,c5,z0,z1,-,zf0,zf1⟩:=HRw3.out.at HV.out i HI1.out;have k0:=set2_cell q0 n1 n2 (.int .i64 (N:Int)) (.slice A3 l3 c3);have k1:=set2_cell q1 n3 n4 (.int .i64 (N:Int)) (.slice A3 l3 c3)))
      clear k0 k1 q0 q1
      go_wp2_with fail
      go_roundw
      case rel=>
       have hput:=RowsN.put (L:=clearP L d c i) (by rw [HCL.out];exact HRw3.out) i HI1.out (L.getD i 0^^^L.getD d 0) OW4.out
       rw [← HYes.out,HCL.out] at hput
       exact⟨i+1,by omega,by go_num,(HB3.out.far (p:=⟨g,i*2,none⟩) hwg _).far (p:=⟨g,i*2+1,none⟩) hwg _,hput,hZ (gk_trans (gk_trans HG3.out (gk_set _ g (i*2) _)) (gk_set _ g (i*2+1) _))⟩
      case measure=>simp [intOf];omega
  ·obtain rfl:i=L.length:=by omega
   have hlt':¬ (L.length:Int)<(L.length:Int):=by omega
   have hrw:=HRw.out
   rw [clearP_all] at hrw
   go_wp2_with fail
   go_end0
   exact⟨⟨_,rfl⟩,HB.out,hrw,HG.out⟩
end
section
/- A law of one's own for 'for .. := range seq' where the iterator (a function or a method's value) and the body share a state: what holds at a round's head, and what holds where the round is handed over. No program. -/
open Go.RowKit
variable {F:Fence} {n:Nat} {P:Program}
def postS {σ:Type} (I:σ→World→Prop) (s:σ) (W:World):Exit→Act→World→Prop
 | .normal,_,W'=>KeepsOthers W W'∧I s W'
 | .ret,_,_=>False
 | .exit _,_,_=>False
 | .goto _,_,_=>False
 | .panic _,_,_=>False
 | .outgrown,_,_=>False
theorem range_state {σ:Type} {g:Operand} {ps:Array Tmp} {assign body:Code} {Q:Exit→Act→World→Prop} {a:Act} {w:World}
  (hro:F.round=none) (h1:1≤n) {gf:Nat} {la lb:Array Value} (hg:a.eval g=.func (.func gf) la lb) (hFg:F.fn gf) (eg:∀ args w,(callFunc gf args).run P w=.ok (.enter gf args) w)
  {encs:σ→Array Value} (next:σ→σ) (Fin:σ→Prop) (hps:∀ x,(encs x).size=ps.size)
  (s₀:σ) (I M:σ→World→Prop) (hI:OwnFrom w.heap.size I) (hM:OwnFrom w.heap.size M)
  (hseq:∀ (l:Nat) (T:World→Prop),(∀ W W',T W→KeepsOthers W W'→T W') →
   (∀ s W,M s W→T W→YieldAt F (n-1-1) P l (encs s) W fun e W'=>e=.returned (.bool true)∧I (next s) W'∧T W') →
   ∀ s W1,I s W1→T W1→s=s₀→CallsIn F (n-1) P gf (la++#[.func (.yield l) #[] #[]]++lb) W1 fun e W'=>(∃ v,e=.returned v)∧∃ s,Fin s∧I s W'∧T W')
  (h0:I s₀ w) (a₁:σ→Act)
  (hassign:∀ (l:Nat) (x:σ) (W:World) (K:Act→World→Prop),K (a₁ x) W →
   assign.wpIn (F.inRound l) (n-1-1) P (Exit.then K (fun _ _ _=>False)) { tmps:=(ps.zip (encs x)).foldl (fun t (p,v)=>t.setIfInBounds p v) a.tmps,defers:=[] } W)
  (hbody:∀ (l:Nat) (s:σ) (W:World),M s W→body.wpIn (F.inRound l) (n-1-1) P (postS I (next s) W) (a₁ s) W)
  (hdone:∀ (D:Nat) (s:σ) (W:World),w.heap.size≤D→Fin s→I s W→W.heap[D]?=some (.deferred (some []))→Q .normal { a with defers:={ target:=.collected D,args:=#[] }::a.defers } W) :
  (Code.rangeFunc g ps assign body).wpIn F n P Q a w:=by
 refine wpIn_rangeFunc ?_
 intro fn hfn
 rw [hro]
 obtain⟨rc,hrc⟩:∃ rc:LoopState→Option Code→Loop,rc=fun st pe=>{ state:=st,pending:=pe,fn,tmps:=a.tmps,params:=ps,assign,body,defers:=w.heap.size }:=⟨_,rfl⟩
 obtain⟨W1,hW1⟩:∃ W1,(w.alloc (.deferred (some []))).alloc (.loop (rc .ready none))=W1:=⟨_,rfl⟩
 have hL1:W1.heap[w.heap.size+1]?=some (.loop (rc .ready none)):=by
  rw [← hW1];have:=World.alloc_heap_new (w.alloc (.deferred (some []))) (.loop (rc .ready none));rwa [World.size_alloc] at this
 have hK1:W1.heap[w.heap.size]?=some (.deferred (some [])):=by
  rw [← hW1];exact (Below.heap_alloc _ _ _ (by simp)).trans (World.alloc_heap_new w _)
 have hI1:I s₀ W1:=by rw [← hW1];exact hI.alloc _ (hI.alloc _ h0)
 refine⟨w.heap.size+1,[{ target:=.collected w.heap.size,args:=#[] }],W1,{ target:=.fn (.func gf) lb,args:=la++#[.func (.yield (w.heap.size+1)) #[] #[]] },W1,gf,
  la++#[.func (.yield (w.heap.size+1)) #[] #[]]++lb,W1,?_,?_,?_,?_,fun _=>h1,?_⟩
 ·rw [← hW1,hrc];exact run_enterLoop_outer _ _ _ _ _
 ·simp only [resolve,hg]
  simp [go_sem]
 ·intro f' hf';simp [Target.leads] at hf';subst hf';exact hFg
 ·simp [invoke,go_sem,eg]
 ·refine (hseq (w.heap.size+1)
   (fun W=>W.heap[w.heap.size+1]?=some (.loop (rc .ready none))∧W.heap[w.heap.size]?=some (.deferred (some [])))
   (fun W W' hs hk=>⟨hk.same _ _ hs.1 rfl,hk.same _ _ hs.2 rfl⟩) ?_ s₀ W1 hI1 ⟨hL1,hK1⟩ rfl).mono ?_
  ·rintro s W hm ⟨hl,hk⟩
   have hlt:w.heap.size+1<W.heap.size:=(Array.getElem?_eq_some_iff.1 hl).1
   have hy:=run_yield (P:=P) (args:=encs s) hl (by rw [hrc];exact hps _)
   rw [hrc] at hy
   refine⟨fn,_,assign,body,hy,roundIn_of_wpIn hfn (hassign _ s W _ ⟨_,run_beginRound hl (by rw [hrc]),?_⟩)⟩
   have hl2:(W.putObj (w.heap.size+1) (.loop { rc .ready none with state:=.busy })).heap[w.heap.size+1]?=some (.loop { rc .ready none with state:=.busy }):=World.putObj_heap_same hlt
   have hk2:(W.putObj (w.heap.size+1) (.loop { rc .ready none with state:=.busy })).heap[w.heap.size]?=some (.deferred (some [])):=(World.putObj_heap_other (by omega)).trans hk
   refine wpIn_mono (hbody _ s _ (hM.putObj _ hm (by omega) hl rfl)) ?_
   rintro e a3 W3 hp
   cases e with
   | normal=>
     obtain⟨hk3,hi3⟩:=hp
     have hl3:=hk3.same _ _ hl2 rfl
     have hr:=run_endRound (P:=P) none hl3
     have hl4:(W3.putObj (w.heap.size+1) (.loop (rc .ready none))).heap[w.heap.size+1]?=some (.loop (rc .ready none)):=World.putObj_heap_same (Array.getElem?_eq_some_iff.1 hl3).1
     have hk4:(W3.putObj (w.heap.size+1) (.loop (rc .ready none))).heap[w.heap.size]?=some (.deferred (some [])):=(World.putObj_heap_other (by omega)).trans (hk3.same _ _ hk2 rfl)
     have hi4:=hI.putObj (.loop (rc .ready none)) hi3 (by omega) hl3 rfl
     rw [hrc] at hr hl4 hk4 hi4 ⊢
     exact⟨_,_,hr,rfl,hi4,hl4,hk4⟩
   | ret=>exact hp.elim
   | exit id=>exact hp.elim
   | goto t=>exact hp.elim
   | panic ch=>exact hp.elim
   | outgrown=>exact hp.elim
  ·rintro e W2 ⟨⟨v,rfl⟩,s,hf,hi,hl,hk⟩
   exact⟨none,_,by have:=run_endLoop (P:=P) hl (by rw [hrc];simp);rw [hrc] at this;exact this,hdone _ s _ (Nat.le_refl _) hf (hI.putObj _ hi (by omega) hl rfl) ((World.putObj_heap_other (by omega)).trans hk)⟩
end
end Go.Proofs.YtcikoaeiopbbbaaGreat
