/- Parts: Block3, Block4, Words2, RefBlock, Ref1, From, FewT, RefTx, ObB, HeldM, RvB, RvC, RvE, RvF, RvG, RvH, RvI, RvJ, KTail, ObC, RvK, ObD. -/
import Derived.Test.YtcikoaeiopbbbaaGreatZa
import Derived.BigQuiet
import Derived.Deep.QuietTactic
import Derived.Deep.RegionHeld
import Derived.Deep.RegionHeld3
import Derived.Laws.CopyOwn
import Derived.Laws.OwnMore
import Derived.Lib.BufferWrite
import Derived.Lib.SliceRun
import Derived.Maps.AppendAt
import Derived.OrdersHeld
import Derived.RegionTactic
import Derived.Shelf.Abstract
namespace Go.Proofs.YtcikoaeiopbbbaaGreat
set_option linter.unusedVariables false
set_option linter.unusedSimpArgs false
set_option linter.unusedSectionVars false
section
/- Contract of block.Sum. -/
open Go.RowKit
def sumL (n:Nat) (ss:List ByteArray):List UInt8:=ss.foldl (fun acc s=>bxL acc s.data.toList) (List.replicate n 0)
theorem foldl_xorL_length (ss:List ByteArray) (l:List UInt8):(ss.foldl (fun acc s=>bxL acc s.data.toList) l).length=l.length:=by
 induction ss generalizing l with
 | nil=>rfl
 | cons s ss ih=>rw [List.foldl_cons,ih,xorL_length]
theorem sumL_length (n:Nat) (ss:List ByteArray):(sumL n ss).length=n:=by simp [sumL,foldl_xorL_length]
theorem xorL_zero (n:Nat) (s:ByteArray) (h:s.size=n):bxL (List.replicate n 0) s.data.toList=s.data.toList:=by
 subst h
 apply List.ext_getElem
 ·simp [bxL]
 ·intro i h1 h2
  have:i<s.size:=by simpa using h2
  simp [bxL,List.getD,this,List.getElem?_replicate]
theorem sumL_one (n:Nat) (ss:List ByteArray) (h:0<ss.length) (hs:(ss.getD 0 ByteArray.empty).size=n):sumL n (ss.take 1)=(ss.getD 0 ByteArray.empty).data.toList:=by
 cases ss with
 | nil=>simp at h
 | cons s r=>simp only [List.take_succ_cons,List.take_zero,sumL,List.foldl_cons,List.foldl_nil];simp at hs;rw [xorL_zero n s hs];simp
theorem sumL_snoc (n:Nat) (ss:List ByteArray) (j:Nat) (h:j<ss.length):bxL (sumL n (ss.take j)) (ss.getD j ByteArray.empty).data.toList=sumL n (ss.take (j+1)):=by
 unfold sumL
 rw [List.take_succ_eq_append_getElem h,List.foldl_append]
 simp [List.getD,h]
theorem allL_at {n:Int} {ss:List ByteArray} (h:allL n ss=true) (j:Nat) (hj:j<ss.length):((ss.getD j ByteArray.empty).size:Int)=n:=by
 have:=List.all_eq_true.1 h (ss[j]) (List.getElem_mem _)
 simpa [List.getD,hj] using this
theorem sum_size (n:Int) (A:Option Addr) (l c:Nat) (h:smb n=false) (w:World):Calls Tryz.prog 162 #[.int .i64 n,.slice A l c] w fun e w'=>e=.returned (.tuple #[.string ⟨#[]⟩,.int .i64 2])∧Below w.heap.size w w':=by
 have H:=hZ (sizeMayBe_any n)
 go_enter Tryz.func162,Tryz.ntmps162
 go_wp2_with fail
 refine (H.out _).mono ?_
 rintro e w1 ⟨rfl,rfl⟩
 go_wp2_with fail
 go_ret2
 exact⟨rfl,Below.refl _ _⟩
theorem sum_have (n:Int) (A:Option Addr) (l c:Nat) (ss:List ByteArray) (w:World) (ht:Texts w A l ss) (hl:l≤maxLen) (h:smb n=true) (h2:allL n ss=false):Calls Tryz.prog 162 #[.int .i64 n,.slice A l c] w fun e w'=>e=.returned (.tuple #[.string ⟨#[]⟩,.int .i64 2])∧Below w.heap.size w w':=by
 have H:=hZ (sizeMayBe_any n)
 have H2:=hZ (allHave_any n A l c ss w ht hl)
 clear ht
 go_enter Tryz.func162,Tryz.ntmps162
 go_wp2_with fail
 refine (H.out _).mono ?_
 rintro e w1 ⟨rfl,rfl⟩
 go_wp2_with fail
 refine H2.out.mono ?_
 rintro e w1 ⟨rfl,rfl⟩
 go_wp2_with fail
 go_ret2
 exact⟨rfl,Below.refl _ _⟩
theorem sum_many (n:Int) (A:Option Addr) (l c:Nat) (ss:List ByteArray) (w:World) (ht:Texts w A l ss) (hl:l≤maxLen) (h:smb n=true) (h2:allL n ss=true) (h3:64<l):Calls Tryz.prog 162 #[.int .i64 n,.slice A l c] w fun e w'=>e=.returned (.tuple #[.string ⟨#[]⟩,.int .i64 2])∧Below w.heap.size w w':=by
 have H:=hZ (sizeMayBe_any n)
 have H2:=hZ (allHave_any n A l c ss w ht hl)
 clear ht
 unfold maxLen at hl
 have g:(64:Int)<l:=by omega
 go_enter Tryz.func162,Tryz.ntmps162
 go_wp2_with fail
 refine (H.out _).mono ?_
 rintro e w1 ⟨rfl,rfl⟩
 go_wp2_with fail
 refine H2.out.mono ?_
 rintro e w1 ⟨rfl,rfl⟩
 go_wp2_with fail
 go_ret2
 exact⟨rfl,Below.refl _ _⟩
theorem sum_none (n:Nat) (A:Option Addr) (c:Nat) (w:World) (h:smb n=true):Calls Tryz.prog 162 #[.int .i64 n,.slice A 0 c] w fun e w'=>e=.returned (.tuple #[.string ⟨(sumL n []).toArray⟩,.int .i64 0])∧Below w.heap.size w w':=by
 have H:=hZ (sizeMayBe_any n)
 have H2:=hZ (allHave_any n A 0 c [] w (Texts.nil w A) (Nat.zero_le _))
 have t:allL n []=true:=rfl
 go_enter Tryz.func162,Tryz.ntmps162
 go_wp2_with fail
 refine (H.out _).mono ?_
 rintro e w1 ⟨rfl,rfl⟩
 go_wp2_with fail
 refine H2.out.mono ?_
 rintro e w1 ⟨rfl,rfl⟩
 go_wp2_with fail
 refine (zero_yes n h _).mono ?_
 rintro e w1 ⟨rfl,hb⟩
 go_wp2_with fail
 go_ret2
 exact⟨rfl,hb⟩
theorem copyB {w:World} {g n:Nat} {t:TypeId} {l:List UInt8} {s:ByteArray} (h:Box w g t (bytesA l)) (hl:l.length=n) (hs:s.size=n) :
  (Builtin.copy_ #[147,9] 3 #[.slice (some ⟨g,0,none⟩) n n,.string s]).run Tryz.prog w=.ok (goInt s.size) (w.setRow g (bytesA s.data.toList)):=by
 have hsz:(bytesA l).size=n:=by simp [bytesA,hl]
 have hi:(Tryz.prog.info? 5).map (·.size)=some 1:=by kernel_rfl
 have hcp:=Lib.run_copy_row_string (P:=Tryz.prog) w 147 9 3 5 g 0 n n s (bytesA l) t Tryz.underlying147 hi h (by omega) (by omega)
 rw [hcp]
 have:((bytesA l).toList.take 0++Lib.byteCells s.data.toList++(bytesA l).toList.drop (0+s.size)).toArray=bytesA s.data.toList:=by
  rw [List.take_zero,List.nil_append,List.drop_of_length_le (by rw [Array.length_toList];omega),List.append_nil]
  rfl
 rw [this]
set_option maxRecDepth 100000 in
set_option maxHeartbeats 1000000 in
theorem sum_some (n:Nat) (A:Option Addr) (l c:Nat) (ss:List ByteArray) (w:World) (ht:Texts w A l ss) (h:smb n=true) (h2:allL n ss=true) (h3:l≤64) (h0:0<l) (hlc:l≤c) (hcm:c≤maxLen) :
  Calls Tryz.prog 162 #[.int .i64 n,.slice A l c] w fun e w'=>e=.returned (.tuple #[.string ⟨(sumL n ss).toArray⟩,.int .i64 0])∧Below w.heap.size w w':=by
 have H:=hZ (sizeMayBe_any n)
 have H2:=hZ (allHave_any n A l c ss w ht (by unfold maxLen;omega))
 have HL:=hZ ht.1
 have HA:=hZ h2
 have hn:=(smb_iff n).1 h
 obtain⟨b,off,rfl,hb,hc⟩:=ht.2.2 h0
 have HC:=hZ hc
 have hs0:(ss.getD 0 ByteArray.empty).size=n:=by have:=allL_at h2 0 (by rw [ht.1];exact h0);omega
 have c0:(w.alloc (.cells (bytesA (List.replicate n 0)) 5)).cell? ⟨b,off,none⟩=some (.string (ss.getD 0 ByteArray.empty)):=
  (((Below.refl w.heap.size w).alloc (Nat.le_refl _) _).cell (p:=⟨b,off,none⟩) hb).trans (hc 0 h0)
 have m:=makeB_any n (by omega) w
 have bx:=Box.new w 5 (bytesA (List.replicate n 0))
 have cp:=copyB bx (n:=n) (s:=ss.getD 0 ByteArray.empty) (by simp) hs0
 have HY:=hZ (show Box ((w.alloc (.cells (bytesA (List.replicate n 0)) 5)).setRow w.heap.size (bytesA (ss.getD 0 ByteArray.empty).data.toList)) w.heap.size 5 (bytesA (sumL n (ss.take 1))) from by
  rw [sumL_one n ss (by rw [ht.1];exact h0) hs0];exact setRow_heap _ _ _ _ _ _ bx)
 have HB:=hZ (below_setRow ((Below.refl w.heap.size w).alloc (Nat.le_refl _) (.cells (bytesA (List.replicate n 0)) 5)) (Nat.le_refl _) (bytesA (ss.getD 0 ByteArray.empty).data.toList))
 generalize ss.getD 0 ByteArray.empty=s0 at *
 clear ht hc hs0 bx
 unfold maxLen at hcm
 have g1:¬ (64:Int)<l:=by omega
 have g2:¬ (l:Int)=0:=by omega
 have g3:((l:Int)==0)=false:=by simpa using (show ¬ l=0 by omega)
 have g4:(1:Int)≤l:=by omega
 have g5:(0:Int)<l:=by omega
 have g6:(l:Int)≤c:=by omega
 by_cases hc1:c=1
 ·subst hc1
  obtain rfl:l=1:=by omega
  go_enter Tryz.func162,Tryz.ntmps162
  go_wp2_with fail
  refine (H.out _).mono ?_
  rintro e w1 ⟨rfl,rfl⟩
  go_wp2_with fail
  refine H2.out.mono ?_
  rintro e w1 ⟨rfl,rfl⟩
  go_wp2_with fail
  generalize (w.alloc (.cells (bytesA (List.replicate n 0)) 5)).setRow w.heap.size (bytesA s0.data.toList)=W at *
  clear c0 m cp H H2
  go_loopw [40] (fun i wr=>∃ j:Nat,j≤0∧i=.int .i64 j∧Box wr w.heap.size 5 (bytesA (sumL n (ss.take (j+1))))∧Below w.heap.size w wr)
   (fun i _=>0-(intOf i).toNat)
  case atStart=>exact⟨0,by omega,rfl,HY.out,HB.out⟩
  case round=>
   obtain⟨j,hj,rfl,R,HB⟩:=hrel
   have R:=hZ R
   have HB:=hZ HB
   obtain rfl:j=0:=by omega
   have cv:=backB R.out (n:=n) (sumL_length _ _)
   have HF:=hZ (show ss.take (0+1)=ss from List.take_of_length_le (by rw [HL.out];omega))
   go_wp2_with fail
   go_ret2
   exact⟨by rw [HF.out];rfl,HB.out⟩
 ·have g7:¬ c=1:=hc1
  go_enter Tryz.func162,Tryz.ntmps162
  go_wp2_with fail
  refine (H.out _).mono ?_
  rintro e w1 ⟨rfl,rfl⟩
  go_wp2_with fail
  refine H2.out.mono ?_
  rintro e w1 ⟨rfl,rfl⟩
  go_wp2_with fail
  generalize (w.alloc (.cells (bytesA (List.replicate n 0)) 5)).setRow w.heap.size (bytesA s0.data.toList)=W at *
  clear c0 m cp H H2
  go_loopw [40] (fun i wr=>∃ j:Nat,j≤l-1∧i=.int .i64 j∧Box wr w.heap.size 5 (bytesA (sumL n (ss.take (j+1))))∧Below w.heap.size w wr)
   (fun i _=>l-1-(intOf i).toNat)
  case atStart=>exact⟨0,by omega,rfl,HY.out,HB.out⟩
  case round=>
   obtain⟨j,hj,rfl,R,HB⟩:=hrel
   have R:=hZ R
   have HB:=hZ HB
   by_cases hlt:j<l-1
   ·have c1:wr.cell? ⟨b,off+1+j,none⟩=some (.string (ss.getD (j+1) ByteArray.empty)):=
     (HB.out.cell (p:=⟨b,off+1+j,none⟩) hb).trans (by have:=HC.out (j+1) (by omega);rwa [show off+(j+1)=off+1+j by omega] at this)
    have hz:(ss.getD (j+1) ByteArray.empty).size=n:=by have:=allL_at HA.out (j+1) (by rw [HL.out];omega);omega
    have HZ:=hZ hz
    have HS:=hZ (sumL_snoc n ss (j+1) (by rw [HL.out];omega))
    clear hz
    generalize ss.getD (j+1) ByteArray.empty=s at *
    have q1:(j:Int)<((l-1:Nat):Int):=by omega
    go_wp2_with fail
    refine (put_any w.heap.size n _ s _ R.out (sumL_length _ _) HZ.out (by omega)).mono ?_
    rintro e w2 ⟨rfl,R2,hb2⟩
    have R2:=hZ R2
    have HB2:=hZ (HB.out.trans hb2)
    clear hb2
    go_wp2_with fail
    go_roundw
    case rel=>exact⟨j+1,by omega,by go_num,by have:=R2.out;rw [HS.out] at this;exact this,HB2.out⟩
    case measure=>simp [intOf];omega
   ·obtain rfl:j=l-1:=by omega
    have cv:=backB R.out (n:=n) (sumL_length _ _)
    have HF:=hZ (show ss.take (l-1+1)=ss from List.take_of_length_le (by rw [HL.out];omega))
    go_wp2_with fail
    go_ret2
    exact⟨by rw [HF.out];rfl,HB.out⟩
end
section
/- Contracts of block.Sum (all cases), block.Xor, the law's alive. -/
open Go.RowKit
def okS (n:Int) (ss:List ByteArray):Bool:=smb n&&allL n ss&&decide (ss.length≤64)
def sumS (n:Int) (ss:List ByteArray):ByteArray:=if okS n ss then ⟨(sumL n.toNat ss).toArray⟩ else ⟨#[]⟩
def sumE (n:Int) (ss:List ByteArray):Int:=if okS n ss then 0 else 2
theorem sum_any (n:Int) (A:Option Addr) (l c:Nat) (ss:List ByteArray) (w:World) (ht:Texts w A l ss) (hlc:l≤c) (hcm:c≤maxLen) :
  Calls Tryz.prog 162 #[.int .i64 n,.slice A l c] w fun e w'=>e=.returned (.tuple #[.string (sumS n ss),.int .i64 (sumE n ss)])∧Below w.heap.size w w':=by
 have hlen:=ht.1
 cases h:smb n with
 | false=>
   have e:okS n ss=false:=by simp [okS,h]
   unfold sumS sumE;rw [e]
   exact sum_size n A l c h w
 | true=>
   cases h2:allL n ss with
   | false=>
     have e:okS n ss=false:=by simp [okS,h2]
     unfold sumS sumE;rw [e]
     exact sum_have n A l c ss w ht (by omega) h h2
   | true=>
     by_cases h3:l≤64
     ·have e:okS n ss=true:=by simp [okS,h,h2,hlen,h3]
      unfold sumS sumE;rw [e]
      obtain⟨k,rfl⟩:=Int.eq_ofNat_of_zero_le ((smb_iff n).1 h).1
      by_cases h0:l=0
      ·subst h0
       obtain rfl:ss=[]:=List.length_eq_zero_iff.1 hlen
       exact sum_none k A c w h
      ·exact sum_some k A l c ss w ht h h2 h3 (by omega) hlc hcm
     ·have e:okS n ss=false:=by simp [okS,hlen,h3]
      unfold sumS sumE;rw [e]
      exact sum_many n A l c ss w ht (by omega) h h2 (by omega)
theorem pair_texts (w:World) (t:TypeId) (a b:ByteArray) (ha:a.size≤maxLen) (hb:b.size≤maxLen):Texts (w.alloc (.cells #[.string a,.string b] t)) (some ⟨w.heap.size,0,none⟩) 2 [a,b]:=by
 have bx:=Box.new w t #[.string a,.string b]
 refine⟨rfl,fun j=>?_,fun _=>⟨w.heap.size,0,rfl,by simp,fun j hj=>?_⟩⟩
 ·match j with
  | 0=>exact ha
  | 1=>exact hb
  | j+2=>simp [List.getD,maxLen]
 ·rw [Nat.zero_add,bx.cell j]
  match j,hj with
  | 0,_=>rfl
  | 1,_=>rfl
theorem bxor_any (a b:ByteArray) (ha:a.size≤maxLen) (hb:b.size≤maxLen) (w:World) :
  Calls Tryz.prog 188 #[.string a,.string b] w fun e w'=>e=.returned (.tuple #[.string (sumS a.size [a,b]),.int .i64 (sumE a.size [a,b])])∧Below w.heap.size w w':=by
 have HT:=hZ (pair_texts w 9 a b ha hb)
 unfold maxLen at ha hb
 go_enter Tryz.func188,Tryz.ntmps188
 go_wp2_with fail
 refine (sum_any a.size _ 2 2 [a,b] _ HT.out (Nat.le_refl _) (by unfold maxLen;omega)).mono ?_
 rintro e w1 ⟨rfl,hb⟩
 have HB:=hZ (chain ((Below.refl w.heap.size w).alloc (Nat.le_refl _) (.cells #[.string a,.string b] 9)) hb)
 clear hb
 go_wp2_with fail
 go_ret2
 exact⟨rfl,HB.out⟩
end
section
/- Two boxes of rows, stored anew one after the other. No program. -/
open Go.RowKit
end
section
/- Contracts of layer 2's reference: Why, Ones. -/
open Go.RowKit
end
section
/- Contracts of the reference's words, Bit and Right. -/
open Go.RowKit
theorem refWords_any (n:Nat) (h:n≤1000000) (w:World):Calls Tryz.prog 141 #[.int .i64 n] w fun e w'=>e=.returned (.int .i64 (nw n))∧w=w':=by
 go_enter Tryz.func141,Tryz.ntmps141
 go_wp2
 go_ret
 exact⟨congrArg (fun z=>Ending.returned (.int .i64 z)) (by unfold nw;omega),rfl⟩
def bitAt (us:List Nat) (i:Nat):Nat:=us.getD (i / 64) 0 / 2 ^ (i%64)%2
theorem bit_any (n:Int) (A:Option Addr) (l c i:Nat) (us:List Nat) (w:World) (hu:Words w A l us) (hi:i<64*l) (hl:l≤1000000) :
  Calls Tryz.prog 120 #[.agg #[.int .i64 n,.slice A l c],.int .i64 i] w fun e w'=>e=.returned (.int .i64 (bitAt us i:Nat))∧Below w.heap.size w w':=by
 obtain⟨b,o,rfl,hlt,hc⟩:=hu.2.2 (by omega)
 have c1:=hc (i / 64) (by omega)
 have hx:=hu.2.1 (i / 64)
 have HV:Hid ((((us.getD (i / 64) 0:Nat):Int) / 2 ^ (i%64))%2=((bitAt us i:Nat):Int)):=by
  show _=_
  unfold bitAt
  have e:((us.getD (i / 64) 0:Nat):Int) / 2 ^ (i%64)=((us.getD (i / 64) 0 / 2 ^ (i%64):Nat):Int):=by simp [Int.natCast_ediv]
  rw [e];omega
 generalize us.getD (i / 64) 0=x at *
 have hle:(x:Int) / 2 ^ (i%64)≤x:=by
  have e:(x:Int) / 2 ^ (i%64)=((x / 2 ^ (i%64):Nat):Int):=by simp [Int.natCast_ediv]
  rw [e]
  have:=Nat.div_le_self x (2 ^ (i%64))
  omega
 have hge:0≤(x:Int) / 2 ^ (i%64):=by
  have e:(x:Int) / 2 ^ (i%64)=((x / 2 ^ (i%64):Nat):Int):=by simp [Int.natCast_ediv]
  rw [e];exact Int.natCast_nonneg _
 clear hc hu
 go_enter Tryz.func120,Tryz.ntmps120
 go_wp2
 go_ret
 exact⟨congrArg (fun z=>Ending.returned (.int .i64 z)) HV.out,(Below.refl _ _).alloc (Nat.le_refl _) _⟩
theorem rightB_core (n l:Nat) (us:List Nat) (h:lmb n=true) (hl:us.length=l) (hn:l=nw n):rightB n us=(n%64==0||us.getD (l-1) 0 / 2 ^ (n%64)==0):=by
 unfold rightB
 rw [h,Int.toNat_natCast,hl,hn]
 simp
theorem right_of_bits (n l:Nat) (us:List Nat) (h:lmb n=true) (hl:us.length=l) (hn:l=nw n) (hlt:∀ j,us.getD j 0<18446744073709551616) (hb:∀ i,n≤i→i<64*l→bitAt us i=0):rightB n us=true:=by
 rw [rightB_core n l us h hl hn]
 by_cases h0:n%64=0
 ·simp [h0]
 ·have hp:1≤l:=by rw [hn];unfold nw;omega
  have hd:n / 64=l-1:=by rw [hn];unfold nw;omega
  have:us.getD (l-1) 0<2 ^ (n%64):=by
   apply Nat.lt_pow_two_of_testBit
   intro i hi
   by_cases hi64:i<64
   ·have:=hb (64*(l-1)+i) (by omega) (by omega)
    unfold bitAt at this
    rw [show (64*(l-1)+i) / 64=l-1 by omega,show (64*(l-1)+i)%64=i by omega] at this
    rw [Nat.testBit_eq_decide_div_mod_eq,this]
    rfl
   ·exact Nat.testBit_lt_two_pow (Nat.lt_of_lt_of_le (hlt (l-1)) (show 2 ^ 64≤2 ^ i from Nat.pow_le_pow_right (by omega) (by omega)))
  have e:us.getD (l-1) 0 / 2 ^ (n%64)=0:=Nat.div_eq_of_lt this
  rw [e];simp
theorem not_right_of_bit (n l i:Nat) (us:List Nat) (h:lmb n=true) (hl:us.length=l) (hn:l=nw n) (h1:n≤i) (h2:i<64*l) (hb:bitAt us i=1):rightB n us=false:=by
 rw [rightB_core n l us h hl hn]
 have hnw:nw n=(n+63) / 64:=rfl
 have h0:¬ n%64=0:=by omega
 have hd:i / 64=l-1:=by omega
 have hr:n%64≤i%64:=by omega
 unfold bitAt at hb
 rw [hd] at hb
 have hne:us.getD (l-1) 0 / 2 ^ (n%64)≠0:=by
  intro e
  have hp:0<2 ^ (n%64):=Nat.two_pow_pos _
  have hlt:us.getD (l-1) 0<2 ^ (n%64):=by
   rcases Nat.div_eq_zero_iff.1 e with h | h
   ·omega
   ·exact h
  have:us.getD (l-1) 0 / 2 ^ (i%64)=0:=Nat.div_eq_of_lt (Nat.lt_of_lt_of_le hlt (Nat.pow_le_pow_right (by omega) hr))
  rw [this] at hb
  simp at hb
 have e1:(n%64==0)=false:=by simpa using h0
 have e2:(us.getD (l-1) 0 / 2 ^ (n%64)==0)=false:=by rw [beq_eq_false_iff_ne];exact hne
 rw [e1,e2];rfl
theorem bitAt_le (us:List Nat) (i:Nat):bitAt us i=0∨bitAt us i=1:=by unfold bitAt;omega
end
section
/- Contract of the reference's From: a row of bits. -/
open Go.RowKit
def accM (b:Nat→Bool) (i:Nat):Nat→Nat
 | 0=>0
 | m+1=>2*accM b i m+if b (64*i+(63-m)) then 1 else 0
theorem accM_lt (b:Nat→Bool) (i m:Nat):accM b i m<2 ^ m:=by
 induction m with
 | zero=>simp [accM]
 | succ m ih=>
   simp only [accM,Nat.pow_succ]
   split<;>omega
def bitsOf (zs:List Int) (j:Nat):Bool:=decide (j<zs.length)&&zs.getD j 0==1
def fromL (b:Nat→Bool) (k:Nat):List Nat:=(List.range k).map fun i=>accM b i 64
theorem fromL_succ (b:Nat→Bool) (k:Nat):fromL b (k+1)=fromL b k++[accM b k 64]:=by simp [fromL,List.range_succ]
theorem fromL_len (b:Nat→Bool) (k:Nat):(fromL b k).length=k:=by simp [fromL]
theorem u64_info:(Tryz.prog.info? 22).map (fun i=>(i.zero,i.size,i.bytes))=some (some (.int .u64 0),1,8):=by kernel_rfl
end
section
/- Contract of law 02's few: the first 66 texts, each cut. -/
open Go.RowKit
theorem string_info:(Tryz.prog.info? 9).map (fun i=>(i.zero,i.size,i.bytes))=some (some (.string ⟨#[]⟩),1,16):=by kernel_rfl
theorem own_texts {w:World} {base e n:Nat} {v:Value} {ss:List ByteArray} (h:w.ownsRow base e 1 v n (ss.map Value.string)) (hz:∀ j,(ss.getD j ByteArray.empty).size≤maxLen):∃ A c,v=.slice A n c∧n≤c∧c≤maxLen∧Texts w A n ss:=by
 have hl:ss.length=n:=by have:=h.1;simpa using this
 rcases h.2 with ⟨rfl,h0⟩ |⟨g,cap,cur,rfl,hb,hh,hn,hm,hs,hx⟩
 ·subst h0
  obtain rfl:ss=[]:=List.length_eq_zero_iff.1 hl
  exact⟨none,0,rfl,Nat.le_refl _,Nat.zero_le _,Texts.nil _ _⟩
 ·refine⟨_,_,rfl,hn,hm,hl,hz,fun hp=>?_⟩
  have hbx:Box w g e cur:=hh
  refine⟨g,0,rfl,hbx.lt,fun j hj=>?_⟩
  rw [Nat.zero_add,hbx.cell j]
  have e1:(cur.toList.take (n*1))[j]?=(ss.map Value.string)[j]?:=by rw [hx]
  rw [Nat.mul_one,List.getElem?_take,if_pos hj] at e1
  have hjz:j<ss.length:=by omega
  simp only [List.getElem?_map,List.getElem?_eq_getElem hjz,Option.map_some] at e1
  rw [← Array.getElem?_toList,e1]
  simp [List.getD,hjz]
end
section
/- The reference's Texts: two rows of texts that are the same. -/
open Go.RowKit
end
section
/- Layer 18: contracts: what may be, what is the same, what is opened, of both sides. -/
open Go.RowKit Go.Lib
set_option maxRecDepth 100000
theorem Box.sixO {w:World} {g:Nat} {t:TypeId} {a b c d e f:Value} (h:Box w g t #[a,b,c,d,e,f]):w.cell? ⟨g,0,none⟩=some a∧w.cell? ⟨g,1,none⟩=some b∧w.cell? ⟨g,2,none⟩=some c∧w.cell? ⟨g,3,none⟩=some d∧w.cell? ⟨g,4,none⟩=some e∧w.cell? ⟨g,5,none⟩=some f:=⟨h.cell 0,h.cell 1,h.cell 2,h.cell 3,h.cell 4,h.cell 5⟩
theorem Box.sevenO {w:World} {g:Nat} {t:TypeId} {a b c d e f k:Value} (h:Box w g t #[a,b,c,d,e,f,k]):w.cell? ⟨g,0,none⟩=some a∧w.cell? ⟨g,1,none⟩=some b∧w.cell? ⟨g,2,none⟩=some c∧w.cell? ⟨g,3,none⟩=some d∧w.cell? ⟨g,4,none⟩=some e∧w.cell? ⟨g,5,none⟩=some f∧w.cell? ⟨g,6,none⟩=some k:=⟨h.cell 0,h.cell 1,h.cell 2,h.cell 3,h.cell 4,h.cell 5,h.cell 6⟩
theorem Box.threeO {w:World} {g:Nat} {t:TypeId} {a b c:Value} (h:Box w g t #[a,b,c]):w.cell? ⟨g,0,none⟩=some a∧w.cell? ⟨g,1,none⟩=some b∧w.cell? ⟨g,2,none⟩=some c:=⟨h.cell 0,h.cell 1,h.cell 2⟩
theorem close_two {P:Program} {fn:Func} {R:Ending→World→Prop} {a:Act} {W:World} {p q:Tmp} {T U:TypeId} {g g':Nat} {cs ds:Array Value} {d d':TypeDesc} (hr:fn.results=#[.cell p T,.cell q U])
  (hp:a.tmps.getD p undef=.pointer (some ⟨g,0,none⟩)) (hq:a.tmps.getD q undef=.pointer (some ⟨g',0,none⟩)) (hd:a.defers=[]) (hbox:Box W g T cs) (hbox':Box W g' U ds) (hu:P.underlying T=some d) (hu':P.underlying U=some d')
  (hk:(match d with | .struct _ | .array _ _=>true | _=>false)=true) (hk':(match d' with | .struct _ | .array _ _=>true | _=>false)=true) (hi:(P.info? T).map (·.size)=some cs.size) (hi':(P.info? U).map (·.size)=some ds.size)
  (hR:R (.returned (.tuple #[.agg cs,.agg ds])) W):bodyPost P fn R .ret a W:=by
 refine bodyPost_ret ?_ hd hR
 have hp':a.tmps[p]?.getD undef=.pointer (some ⟨g,0,none⟩):=by simpa using hp
 have hq':a.tmps[q]?.getD undef=.pointer (some ⟨g',0,none⟩):=by simpa using hq
 simp [results,hr,hp',hq',asAddr,run_loadVar_row W g T T cs (0,0) d hbox hu hk hi,run_loadVar_row W g' U U ds (0,0) d' hbox' hu' hk' hi']
set_option maxHeartbeats 1000000 in
theorem oright_any (v:Value) (o:ObR) (w:World) (h:ObAt w v o):Calls Tryz.prog 27 #[v] w fun e w'=>e=.returned (.bool (rightO o))∧Below w.heap.size w w':=by
 obtain⟨A,d,rfl,hs,hx⟩:=h
 obtain⟨id,⟨k,s,c,xs⟩,cl⟩:=o
 dsimp only at hs hx
 have b1:Below w.heap.size w (w.alloc (.cells (obA (id,(k,s,c,xs),cl) A d) 27)):=(Below.refl _ _).alloc (Nat.le_refl _) _
 have Q:=hZ (Box.new w 27 (obA (id,(k,s,c,xs),cl) A d))
 have HB:=hZ b1
 have HR:=hZ (eright_any k s c A xs.length d xs _ (Recs.below hx b1) hs.1 hs.2.1)
 have HE:rightO (id,(k,s,c,xs),cl)=(storeB k s c xs&&(decide (cl=0)||decide (cl=1))):=rfl
 rw [HE]
 obtain⟨r0,r1,r2,r3,r4,r5⟩:=Q.out.sixO
 clear b1 hs hx HE
 cases hb:storeB k s c xs with
 | false=>
   rw [hb] at HR
   clear hb
   go_enter Tryz.func27,Tryz.ntmps27
   go_wp2_with fail
   refine HR.out.mono ?_
   rintro e w2 ⟨rfl,hb2⟩
   have HB2:=hZ (chain HB.out hb2)
   clear hb2
   go_wp2_with fail
   go_ret
   exact⟨rfl,HB2.out⟩
 | true=>
   rw [hb] at HR
   clear hb
   go_enter Tryz.func27,Tryz.ntmps27
   go_wp2_with fail
   refine HR.out.mono ?_
   rintro e w2 ⟨rfl,hb2⟩
   have HB2:=hZ (chain HB.out hb2)
   have Q2:=hZ (Q.out.keep hb2)
   clear hb2 r0 r1 r2 r3 r4 r5
   obtain⟨r0,r1,r2,r3,r4,r5⟩:=Q2.out.sixO
   by_cases h0:cl=0
   ·subst h0
    go_wp2_with fail
    go_ret
    exact⟨by simp,HB2.out⟩
   ·have t0:(cl==0)=false:=by simpa using h0
    by_cases h1:cl=1
    ·subst h1
     go_wp2_with fail
     go_ret
     exact⟨by simp,HB2.out⟩
    ·have t1:(cl==1)=false:=by simpa using h1
     go_wp2_with fail
     go_ret
     exact⟨by simp [h0,h1],HB2.out⟩
set_option maxHeartbeats 1000000 in
theorem oright18_any (v:Value) (o:ObR) (w:World) (h:ObAt w v o):Calls Tryz.prog 30 #[v] w fun e w'=>e=.returned (.bool (rightO o))∧Below w.heap.size w w':=by
 obtain⟨A,d,rfl,hs,hx⟩:=h
 obtain⟨id,⟨k,s,c,xs⟩,cl⟩:=o
 dsimp only at hs hx
 have b1:Below w.heap.size w (w.alloc (.cells (obA (id,(k,s,c,xs),cl) A d) 27)):=(Below.refl _ _).alloc (Nat.le_refl _) _
 have Q:=hZ (Box.new w 27 (obA (id,(k,s,c,xs),cl) A d))
 have HB:=hZ b1
 have HR:=hZ (refRight12_any k s c A xs.length d xs _ (Recs.below hx b1) hs.1 hs.2.1)
 have HE:rightO (id,(k,s,c,xs),cl)=(storeB k s c xs&&(decide (cl=0)||decide (cl=1))):=rfl
 have HN:(decide (cl=0)||decide (cl=1))=(decide (0≤cl)&&decide (cl≤1)):=by
  rw [Bool.eq_iff_iff];simp only [Bool.or_eq_true,Bool.and_eq_true,decide_eq_true_eq];omega
 rw [HE,HN]
 obtain⟨r0,r1,r2,r3,r4,r5⟩:=Q.out.sixO
 clear b1 hs hx HE HN
 cases hb:storeB k s c xs with
 | false=>
   rw [hb] at HR
   clear hb
   go_enter Tryz.func30,Tryz.ntmps30
   go_wp2_with fail
   refine HR.out.mono ?_
   rintro e w2 ⟨rfl,hb2⟩
   have HB2:=hZ (chain HB.out hb2)
   clear hb2
   go_wp2_with fail
   go_ret
   exact⟨rfl,HB2.out⟩
 | true=>
   rw [hb] at HR
   clear hb
   go_enter Tryz.func30,Tryz.ntmps30
   go_wp2_with fail
   refine HR.out.mono ?_
   rintro e w2 ⟨rfl,hb2⟩
   have HB2:=hZ (chain HB.out hb2)
   have Q2:=hZ (Q.out.keep hb2)
   clear hb2 r0 r1 r2 r3 r4 r5
   obtain⟨r0,r1,r2,r3,r4,r5⟩:=Q2.out.sixO
   by_cases h0:cl≥0
   ·by_cases h1:cl≤1
    ·go_wp2_with fail
     go_ret
     exact⟨by simp;omega,HB2.out⟩
    ·go_wp2_with fail
     go_ret
     exact⟨by simp;omega,HB2.out⟩
   ·go_wp2_with fail
    go_ret
    exact⟨by simp;omega,HB2.out⟩
theorem likeO_eq (id:Nat) (k s c:Int) (xs:List SymR) (cl:Int) (id2:Nat) (k2 s2 c2:Int) (ys:List SymR) (cl2:Int):likeO (id,(k,s,c,xs),cl) (id2,(k2,s2,c2,ys),cl2)=(((id:Int)==(id2:Int))&&((cl==cl2)&&likeB k s c xs k2 s2 c2 ys)):=by
 unfold likeO
 rw [likeB_eq,Bool.eq_iff_iff]
 simp only [Bool.and_eq_true,beq_iff_eq,decide_eq_true_eq,Prod.mk.injEq]
 constructor
 ·rintro ⟨h1,h2,h3⟩;exact⟨by rw [h1],h3,h2⟩
 ·rintro ⟨h1,h3,h2⟩;exact⟨by omega,h2,h3⟩
set_option maxHeartbeats 2000000 in
theorem olike_any (va:Value) (a:ObR) (vb:Value) (b:ObR) (w:World) (ha:ObAt w va a) (hb:ObAt w vb b):Calls Tryz.prog 44 #[va,vb] w fun e w'=>e=.returned (.bool (likeO a b))∧Below w.heap.size w w':=by
 obtain⟨A,d,rfl,hs,hx⟩:=ha
 obtain⟨B,d2,rfl,hs2,hy⟩:=hb
 obtain⟨id,⟨k,s,c,xs⟩,cl⟩:=a
 obtain⟨id2,⟨k2,s2,c2,ys⟩,cl2⟩:=b
 dsimp only at hs hx hs2 hy
 have b1:Below w.heap.size w (w.alloc (.cells (obA (id,(k,s,c,xs),cl) A d) 27)):=(Below.refl _ _).alloc (Nat.le_refl _) _
 have b2:=b1.alloc b1.size (.cells (obA (id2,(k2,s2,c2,ys),cl2) B d2) 27)
 have Q:=hZ ((Box.new w 27 (obA (id,(k,s,c,xs),cl) A d)).alloc (.cells (obA (id2,(k2,s2,c2,ys),cl2) B d2) 27))
 have u0:=Box.new (w.alloc (.cells (obA (id,(k,s,c,xs),cl) A d) 27)) 27 (obA (id2,(k2,s2,c2,ys),cl2) B d2)
 simp only [World.size_alloc] at u0
 have U:=hZ u0
 have HB:=hZ b2
 have HL:=hZ (elike_any k s c A xs.length d xs k2 s2 c2 B ys.length d2 ys _ (Recs.below hx b2) (Recs.below hy b2) (Nat.le_trans hs.1 hs.2.1) (Nat.le_trans hs2.1 hs2.2.1))
 rw [likeO_eq]
 obtain⟨r0,r1,r2,r3,r4,r5⟩:=Q.out.sixO
 obtain⟨s0,s1,s2,s3,s4,s5⟩:=U.out.sixO
 clear b1 b2 hs hx hs2 hy u0
 cases h0:((id:Int)==(id2:Int)) with
 | false=>
   go_enter Tryz.func44,Tryz.ntmps44
   go_wp2_with fail
   go_ret
   exact⟨rfl,HB.out⟩
 | true=>
   cases h1:(cl==cl2) with
   | false=>
     go_enter Tryz.func44,Tryz.ntmps44
     go_wp2_with fail
     go_ret
     exact⟨rfl,HB.out⟩
   | true=>
     go_enter Tryz.func44,Tryz.ntmps44
     go_wp2_with fail
     refine HL.out.mono ?_
     rintro e w2 ⟨rfl,hb2⟩
     have HB2:=hZ (chain HB.out hb2)
     clear hb2
     go_wp2_with fail
     go_ret
     exact⟨by simp,HB2.out⟩
set_option maxHeartbeats 2000000 in
theorem osame_any (va:Value) (a:ObR) (vb:Value) (b:ObR) (w:World) (ha:ObAt w va a) (hb:ObAt w vb b):Calls Tryz.prog 12 #[va,vb] w fun e w'=>e=.returned (.bool (likeO a b))∧Below w.heap.size w w':=by
 obtain⟨A,d,rfl,hs,hx⟩:=ha
 obtain⟨B,d2,rfl,hs2,hy⟩:=hb
 obtain⟨id,⟨k,s,c,xs⟩,cl⟩:=a
 obtain⟨id2,⟨k2,s2,c2,ys⟩,cl2⟩:=b
 dsimp only at hs hx hs2 hy
 have b1:Below w.heap.size w (w.alloc (.cells (obA (id,(k,s,c,xs),cl) A d) 27)):=(Below.refl _ _).alloc (Nat.le_refl _) _
 have b2:=b1.alloc b1.size (.cells (obA (id2,(k2,s2,c2,ys),cl2) B d2) 27)
 have Q:=hZ ((Box.new w 27 (obA (id,(k,s,c,xs),cl) A d)).alloc (.cells (obA (id2,(k2,s2,c2,ys),cl2) B d2) 27))
 have u0:=Box.new (w.alloc (.cells (obA (id,(k,s,c,xs),cl) A d) 27)) 27 (obA (id2,(k2,s2,c2,ys),cl2) B d2)
 simp only [World.size_alloc] at u0
 have U:=hZ u0
 have HB:=hZ b2
 have HL:=hZ (refSame12_any k s c A xs.length d xs k2 s2 c2 B ys.length d2 ys _ (Recs.below hx b2) (Recs.below hy b2) (Nat.le_trans hs.1 hs.2.1) (Nat.le_trans hs2.1 hs2.2.1))
 rw [likeO_eq]
 obtain⟨r0,r1,r2,r3,r4,r5⟩:=Q.out.sixO
 obtain⟨s0,s1,s2,s3,s4,s5⟩:=U.out.sixO
 clear b1 b2 hs hx hs2 hy u0
 cases h0:((id:Int)==(id2:Int)) with
 | false=>
   go_enter Tryz.func12,Tryz.ntmps12
   go_wp2_with fail
   go_ret
   exact⟨rfl,HB.out⟩
 | true=>
   cases h1:(cl==cl2) with
   | false=>
     go_enter Tryz.func12,Tryz.ntmps12
     go_wp2_with fail
     go_ret
     exact⟨rfl,HB.out⟩
   | true=>
     go_enter Tryz.func12,Tryz.ntmps12
     go_wp2_with fail
     refine HL.out.mono ?_
     rintro e w2 ⟨rfl,hb2⟩
     have HB2:=hZ (chain HB.out hb2)
     clear hb2
     go_wp2_with fail
     go_ret
     exact⟨by simp,HB2.out⟩
end
section
/- The kit's laws of a region that draws its order, with the operation written out by unification over the list. No program. -/
section
variable {P:Program} {l:List Oper} {Q:Exit→Act→World→Prop} {md:Region.Mode} {S:World→Prop}
theorem takeHL {i:Nat} {oi:Oper} {v:Value} {fuel:Nat} {listed:Array Bool} {a:Act} {w:World} (hi:l[i]?=some oi)
  (hall:(Region.noSelect l.toArray&&Region.free md l.toArray listed i&&(Region.ready md l.toArray listed).contains i)=true)
  (hQ:∀ c a w,Q (.panic c) (a.put oi.dst v) w→Q (.panic c) a w) (hy:YieldsIf P l.toArray S oi v a) (hS:S w)
  (h:wpAnyH P md l.toArray Q S fuel (listed.setIfInBounds i true) (a.put oi.dst v) w):wpAnyH P md l.toArray Q S (fuel+1) listed a w:=by
 simp only [Bool.and_eq_true] at hall
 exact wpAnyH_take (by simpa using hi) hall.1.1 hall.1.2 hall.2 hQ hy hS h
theorem callHL {i:Nat} {oi:Oper} {fuel:Nat} {listed:Array Bool} {a:Act} {w:World} (hi:l[i]?=some oi) (hr:(Region.ready md l.toArray listed==[i])=true)
  (h:∀ K':Act→World→Prop,Shut (∀ a w,S w→(S w→wpAnyH P md l.toArray Q S fuel (listed.setIfInBounds i true) a w)→K' a w)→if Region.wanted oi (yielded l.toArray a.tmps)=true then Oper.wp P oi a w K' Q else K' (a.put oi.dst undef) w) :
  wpAnyH P md l.toArray Q S (fuel+1) listed a w:=
 wpAnyH_ready (rs:=[i]) (by simpa using hr) (by simp) (AllReadyH.cons (by simpa using hi) h AllReadyH.nil)
end
end
section
/- Layer 19: what may be: both sides. -/
open Go.RowKit Go.Lib
set_option maxRecDepth 100000
theorem allR_snoc (p:Nat→Bool) (k:Nat):(List.range (k+1)).all p=((List.range k).all p&&p k):=by
 rw [List.range_succ,List.all_append];simp
theorem allR_no (p:Nat→Bool) (n k:Nat) (h:k<n) (hp:p k=false):(List.range n).all p=false:=by
 rw [Bool.eq_false_iff]
 intro h2
 have:=List.all_eq_true.1 h2 k (List.mem_range.2 h)
 rw [hp] at this
 cases this
def stR (ps:List RawO) (i:Nat):Bool:=rightO (ps.getD i default).1&&(decide (i=0)||decide ((ps.getD (i-1) default).1.1<(ps.getD i default).1.1))
def rowsR (ps:List RawO) (m:Nat):Bool:=(List.range m).all (stR ps)
def rightR (ps:List RawO):Bool:=decide (ps.length≤8)&&rowsR ps ps.length
theorem rowsR_snoc (ps:List RawO) (k:Nat):rowsR ps (k+1)=(rowsR ps k&&stR ps k):=allR_snoc _ k
theorem rowsR_no (ps:List RawO) (m k:Nat) (h:k<m) (hp:stR ps k=false):rowsR ps m=false:=allR_no _ m k h hp
theorem OkD.drew {w:World} {p:RawO} (h:OkD w p):OkD w.drew p:=h
set_option maxHeartbeats 1000000 in
theorem rcright_any (v:Value) (ps:List RawO) (w:World) (h:RcAt w v ps):Calls Tryz.prog 19 #[v] w fun e w'=>e=.returned (.bool (rightR ps))∧Below w.heap.size w w':=by
 obtain⟨A,c,rfl,hs,hx,hd⟩:=h
 have HX:=hZ hx
 have HD:=hZ hd
 clear hx hd
 have W1:=hZ ((Below.refl w.heap.size w).alloc (Nat.le_refl _) (.cells #[.slice A ps.length c] 48))
 have Q:=hZ (Box.new w 48 #[.slice A ps.length c])
 have r0:=Q.out.cell 0
 by_cases h8:(ps.length:Int)>8
 ·go_enter Tryz.func19,Tryz.ntmps19
  go_wp2_with fail
  go_ret
  exact⟨by have h9:¬ ps.length≤8:=by omega
           simp [rightR,h9],W1.out⟩
 ·go_enter Tryz.func19,Tryz.ntmps19
  go_wp2_with fail
  go_loopw [12] (fun t wr=>∃ i:Nat,i≤ps.length∧t=.int .i64 (i:Int)∧Hid (rowsR ps i=true)∧Hid (Box wr w.heap.size 48 #[.slice A ps.length c])∧Hid (Below w.heap.size w wr)) (fun t _=>ps.length-(Go.RowKit.intOf t).toNat)
  case atStart=>exact⟨0,Nat.zero_le _,rfl,hZ rfl,Q,W1⟩
  case round=>
   obtain⟨i,hi,rfl,HT,HQ,HB⟩:=hrel
   by_cases hlt:i<ps.length
   ·have hlt':(i:Int)<(ps.length:Int):=Int.ofNat_lt.2 hlt
    obtain⟨b,off,rfl,hb,x0,x1,x2,x3,x4,x5⟩:=(HX.out.six i hlt)
    have HN:=hZ (rowsR_snoc ps i)
    have HU:=hZ (rowsR_no ps ps.length i hlt)
    have HO:=hZ ((HD.out i).below (HB.out.mono (Nat.le_refl _)))
    obtain⟨p,hp⟩:∃ y,y=ps.getD i default:=⟨_,rfl⟩
    have HS:=hZ (show stR ps i=(rightO p.1&&(decide (i=0)||decide ((ps.getD (i-1) default).1.1<p.1.1))) by rw [hp];rfl)
    have x0:=(HB.out.cell (p:=⟨b,_,none⟩) hb).trans x0
    have x1:=(HB.out.cell (p:=⟨b,_,none⟩) hb).trans x1
    have x2:=(HB.out.cell (p:=⟨b,_,none⟩) hb).trans x2
    have x3:=(HB.out.cell (p:=⟨b,_,none⟩) hb).trans x3
    have x4:=(HB.out.cell (p:=⟨b,_,none⟩) hb).trans x4
    have x5:=(HB.out.cell (p:=⟨b,_,none⟩) hb).trans x5
    rw [← hp] at HO x0 x1 x2 x3 x4 x5
    clear hp
    have G:=hZ (Box.new wr 27 (obA p.1 p.2.1 p.2.2))
    have HQ2:=hZ (HQ.out.alloc (.cells (obA p.1 p.2.1 p.2.2) 27))
    have HB2:=hZ (HB.out.alloc HB.out.size (.cells (obA p.1 p.2.1 p.2.2) 27))
    have HO2:=hZ (HO.out.below ((Below.refl _ _).alloc (Nat.le_refl _) (.cells (obA p.1 p.2.1 p.2.2) 27)))
    have HR:=hZ (fun wy (h:OkD wy p)=>oright_any _ p.1 wy h.at)
    obtain⟨g0,g1,g2,g3,g4,g5⟩:=G.out.sixO
    have q0:=HQ2.out.cell 0
    cases hr:rightO p.1 with
    | false=>
      rw [hr] at HR HS
      have HE:=hZ (HU.out HS.out)
      clear HS HN HU HT hr
      go_wp2_with fail
      refine wp_region_held_drew (S:=fun w'=>w'.cell? ⟨wr.heap.size,0,none⟩=some (.int .u64 (p.1.1:Nat))∧w'.cell? ⟨wr.heap.size,1,none⟩=some (.int .i64 p.1.2.1.1)∧w'.cell? ⟨wr.heap.size,2,none⟩=some (.int .i64 p.1.2.1.2.1)∧w'.cell? ⟨wr.heap.size,3,none⟩=some (.int .i64 p.1.2.1.2.2.1)∧w'.cell? ⟨wr.heap.size,4,none⟩=some (.slice p.2.1 p.1.2.1.2.2.2.length p.2.2)∧w'.cell? ⟨wr.heap.size,5,none⟩=some (.int .i64 p.1.2.2)) (by kernel_rfl) ?hS1 (fun hHeld=>?hR1)
      case hS1=>exact⟨g0,g1,g2,g3,g4,g5⟩
      case hR1=>
      refine takeHL (i:=0) (v:=?_) rfl (by kernel_rfl) (fun _ _ _ h=>h) (Or.inl ⟨by rfl,?hy2⟩) (by assumption) ?hr2
      case hy2=>intro w hSw;(try dsimp only at hSw);(try obtain⟨hc0,hc1,hc2,hc3,hc4,hc5,hc6,hc7⟩:=hSw);(try obtain⟨hc0,hc1,hc2,hc3,hc4,hc5⟩:=hSw);go_simp;try (with_reducible rfl)
      case hr2=>
      try simp only [pZa,pZb,pZc,pZd]
      refine callHL (i:=1) rfl (by kernel_rfl) (fun K hK=>?_)
      go_simp
      refine (HR.out _ (OkD.drew HO2.out)).mono ?_
      rintro f3 y1 ⟨rfl,hb⟩
      have HB3:=hZ (chain HB2.out.drew hb)
      have HQ3:=hZ (HQ2.out.drew.keep hb)
      have G3:=hZ (G.out.drew.keep hb)
      obtain⟨g0,g1,g2,g3,g4,g5⟩:=G3.out.sixO
      have q0:=HQ3.out.cell 0
      clear hb
      clear hHeld
      refine hK.out _ _ ⟨g0,g1,g2,g3,g4,g5⟩ (fun hHeld=>?_)
      clear hK K
      try simp only [pZa,pZb,pZc,pZd]
      refine takeHL (i:=2) (v:=?_) rfl (by kernel_rfl) (fun _ _ _ h=>h) (Or.inl ⟨by rfl,?hy4⟩) (by assumption) ?hr4
      case hy4=>intro w hSw;(try dsimp only at hSw);(try obtain⟨hc0,hc1,hc2,hc3,hc4,hc5,hc6,hc7⟩:=hSw);(try obtain⟨hc0,hc1,hc2,hc3,hc4,hc5⟩:=hSw);go_simp;try (with_reducible rfl)
      case hr4=>
      try simp only [pZa,pZb,pZc,pZd]
      refine takeHL (i:=3) (v:=?_) rfl (by kernel_rfl) (fun _ _ _ h=>h) (Or.inl ⟨by rfl,?hy5⟩) (by assumption) ?hr5
      case hy5=>intro w hSw;(try dsimp only at hSw);(try obtain⟨hc0,hc1,hc2,hc3,hc4,hc5,hc6,hc7⟩:=hSw);(try obtain⟨hc0,hc1,hc2,hc3,hc4,hc5⟩:=hSw);go_simp;try (with_reducible rfl)
      case hr5=>
      try simp only [pZa,pZb,pZc,pZd]
      refine takeHL (i:=4) (v:=undef) rfl (by kernel_rfl) (fun _ _ _ h=>h) (Or.inr ⟨by rfl,rfl⟩) (by assumption) ?hr6
      case hr6=>
      try simp only [pZa,pZb,pZc,pZd]
      refine takeHL (i:=5) (v:=undef) rfl (by kernel_rfl) (fun _ _ _ h=>h) (Or.inr ⟨by rfl,rfl⟩) (by assumption) ?hr7
      case hr7=>
      try simp only [pZa,pZb,pZc,pZd]
      refine takeHL (i:=6) (v:=undef) rfl (by kernel_rfl) (fun _ _ _ h=>h) (Or.inr ⟨by rfl,rfl⟩) (by assumption) ?hr8
      case hr8=>
      try simp only [pZa,pZb,pZc,pZd]
      refine takeHL (i:=7) (v:=undef) rfl (by kernel_rfl) (fun _ _ _ h=>h) (Or.inr ⟨by rfl,rfl⟩) (by assumption) ?hr9
      case hr9=>
      try simp only [pZa,pZb,pZc,pZd]
      refine takeHL (i:=8) (v:=undef) rfl (by kernel_rfl) (fun _ _ _ h=>h) (Or.inr ⟨by rfl,rfl⟩) (by assumption) ?hr10
      case hr10=>
      try simp only [pZa,pZb,pZc,pZd]
      refine takeHL (i:=9) (v:=undef) rfl (by kernel_rfl) (fun _ _ _ h=>h) (Or.inr ⟨by rfl,rfl⟩) (by assumption) ?hr11
      case hr11=>
      try simp only [pZa,pZb,pZc,pZd]
      refine takeHL (i:=10) (v:=undef) rfl (by kernel_rfl) (fun _ _ _ h=>h) (Or.inr ⟨by rfl,rfl⟩) (by assumption) ?hr12
      case hr12=>
      try simp only [pZa,pZb,pZc,pZd]
      refine takeHL (i:=11) (v:=undef) rfl (by kernel_rfl) (fun _ _ _ h=>h) (Or.inr ⟨by rfl,rfl⟩) (by assumption) ?hr13
      case hr13=>
      try simp only [pZa,pZb,pZc,pZd]
      refine takeHL (i:=12) (v:=undef) rfl (by kernel_rfl) (fun _ _ _ h=>h) (Or.inr ⟨by rfl,rfl⟩) (by assumption) ?hr14
      case hr14=>
      try simp only [pZa,pZb,pZc,pZd]
      refine takeHL (i:=13) (v:=undef) rfl (by kernel_rfl) (fun _ _ _ h=>h) (Or.inr ⟨by rfl,rfl⟩) (by assumption) ?hr15
      case hr15=>
      try simp only [pZa,pZb,pZc,pZd]
      refine takeHL (i:=14) (v:=undef) rfl (by kernel_rfl) (fun _ _ _ h=>h) (Or.inr ⟨by rfl,rfl⟩) (by assumption) ?hr16
      case hr16=>
      try simp only [pZa,pZb,pZc,pZd]
      refine takeHL (i:=15) (v:=undef) rfl (by kernel_rfl) (fun _ _ _ h=>h) (Or.inr ⟨by rfl,rfl⟩) (by assumption) ?hr17
      case hr17=>
      try simp only [pZa,pZb,pZc,pZd]
      refine takeHL (i:=16) (v:=undef) rfl (by kernel_rfl) (fun _ _ _ h=>h) (Or.inr ⟨by rfl,rfl⟩) (by assumption) ?hr18
      case hr18=>
      try simp only [pZa,pZb,pZc,pZd]
      refine takeHL (i:=17) (v:=undef) rfl (by kernel_rfl) (fun _ _ _ h=>h) (Or.inr ⟨by rfl,rfl⟩) (by assumption) ?hr19
      case hr19=>
      try simp only [pZa,pZb,pZc,pZd]
      refine takeHL (i:=18) (v:=?_) rfl (by kernel_rfl) (fun _ _ _ h=>h) (Or.inl ⟨by rfl,?hy20⟩) (by assumption) ?hr20
      case hy20=>intro w hSw;(try dsimp only at hSw);(try obtain⟨hc0,hc1,hc2,hc3,hc4,hc5,hc6,hc7⟩:=hSw);(try obtain⟨hc0,hc1,hc2,hc3,hc4,hc5⟩:=hSw);go_simp;try (with_reducible rfl)
      case hr20=>
      try simp only [pZa,pZb,pZc,pZd]
      refine wpAnyH_done (by kernel_rfl) ?_ _
      go_wp2_with fail
      go_ret
      exact⟨by simp [rightR,HE.out],HB3.out⟩
    | true=>
      rw [hr] at HR HS
      clear hr
      go_wp2_with fail
      clear x0 x1 x2 x3 x4 x5
      by_cases hi0:i=0
      ·subst hi0
       have HN2:=hZ (show rowsR ps (0+1)=true by rw [HN.out,HT.out,HS.out];rfl)
       have hz:¬ (0:Int)>((0:Nat):Int):=by decide
       clear HS HN HU HT
       refine wp_region_held_drew (S:=fun w'=>w'.cell? ⟨wr.heap.size,0,none⟩=some (.int .u64 (p.1.1:Nat))∧w'.cell? ⟨wr.heap.size,1,none⟩=some (.int .i64 p.1.2.1.1)∧w'.cell? ⟨wr.heap.size,2,none⟩=some (.int .i64 p.1.2.1.2.1)∧w'.cell? ⟨wr.heap.size,3,none⟩=some (.int .i64 p.1.2.1.2.2.1)∧w'.cell? ⟨wr.heap.size,4,none⟩=some (.slice p.2.1 p.1.2.1.2.2.2.length p.2.2)∧w'.cell? ⟨wr.heap.size,5,none⟩=some (.int .i64 p.1.2.2)) (by kernel_rfl) ?hS21 (fun hHeld=>?hR21)
       case hS21=>exact⟨g0,g1,g2,g3,g4,g5⟩
       case hR21=>
       refine takeHL (i:=0) (v:=?_) rfl (by kernel_rfl) (fun _ _ _ h=>h) (Or.inl ⟨by rfl,?hy22⟩) (by assumption) ?hr22
       case hy22=>intro w hSw;(try dsimp only at hSw);(try obtain⟨hc0,hc1,hc2,hc3,hc4,hc5,hc6,hc7⟩:=hSw);(try obtain⟨hc0,hc1,hc2,hc3,hc4,hc5⟩:=hSw);go_simp;try (with_reducible rfl)
       case hr22=>
       try simp only [pZa,pZb,pZc,pZd]
       refine callHL (i:=1) rfl (by kernel_rfl) (fun K hK=>?_)
       go_simp
       refine (HR.out _ (OkD.drew HO2.out)).mono ?_
       rintro f23 y1 ⟨rfl,hb⟩
       have HB3:=hZ (chain HB2.out.drew hb)
       have HQ3:=hZ (HQ2.out.drew.keep hb)
       have G3:=hZ (G.out.drew.keep hb)
       obtain⟨g0,g1,g2,g3,g4,g5⟩:=G3.out.sixO
       have q0:=HQ3.out.cell 0
       clear hb
       clear hHeld
       refine hK.out _ _ ⟨g0,g1,g2,g3,g4,g5⟩ (fun hHeld=>?_)
       clear hK K
       try simp only [pZa,pZb,pZc,pZd]
       refine takeHL (i:=2) (v:=?_) rfl (by kernel_rfl) (fun _ _ _ h=>h) (Or.inl ⟨by rfl,?hy24⟩) (by assumption) ?hr24
       case hy24=>intro w hSw;(try dsimp only at hSw);(try obtain⟨hc0,hc1,hc2,hc3,hc4,hc5,hc6,hc7⟩:=hSw);(try obtain⟨hc0,hc1,hc2,hc3,hc4,hc5⟩:=hSw);go_simp;try (with_reducible rfl)
       case hr24=>
       try simp only [pZa,pZb,pZc,pZd]
       refine takeHL (i:=3) (v:=?_) rfl (by kernel_rfl) (fun _ _ _ h=>h) (Or.inl ⟨by rfl,?hy25⟩) (by assumption) ?hr25
       case hy25=>intro w hSw;(try dsimp only at hSw);(try obtain⟨hc0,hc1,hc2,hc3,hc4,hc5,hc6,hc7⟩:=hSw);(try obtain⟨hc0,hc1,hc2,hc3,hc4,hc5⟩:=hSw);go_simp;try (with_reducible rfl)
       case hr25=>
       try simp only [pZa,pZb,pZc,pZd]
       refine takeHL (i:=4) (v:=?_) rfl (by kernel_rfl) (fun _ _ _ h=>h) (Or.inl ⟨by rfl,?hy26⟩) (by assumption) ?hr26
       case hy26=>intro w hSw;(try dsimp only at hSw);(try obtain⟨hc0,hc1,hc2,hc3,hc4,hc5,hc6,hc7⟩:=hSw);(try obtain⟨hc0,hc1,hc2,hc3,hc4,hc5⟩:=hSw);go_simp;try (with_reducible rfl)
       case hr26=>
       try simp only [pZa,pZb,pZc,pZd]
       refine takeHL (i:=5) (v:=?_) rfl (by kernel_rfl) (fun _ _ _ h=>h) (Or.inl ⟨by rfl,?hy27⟩) (by assumption) ?hr27
       case hy27=>intro w hSw;(try dsimp only at hSw);(try obtain⟨hc0,hc1,hc2,hc3,hc4,hc5,hc6,hc7⟩:=hSw);(try obtain⟨hc0,hc1,hc2,hc3,hc4,hc5⟩:=hSw);go_simp;try (with_reducible rfl)
       case hr27=>
       try simp only [pZa,pZb,pZc,pZd]
       refine takeHL (i:=6) (v:=?_) rfl (by kernel_rfl) (fun _ _ _ h=>h) (Or.inl ⟨by rfl,?hy28⟩) (by assumption) ?hr28
       case hy28=>intro w hSw;(try dsimp only at hSw);(try obtain⟨hc0,hc1,hc2,hc3,hc4,hc5,hc6,hc7⟩:=hSw);(try obtain⟨hc0,hc1,hc2,hc3,hc4,hc5⟩:=hSw);go_simp;try (with_reducible rfl)
       case hr28=>
       try simp only [pZa,pZb,pZc,pZd]
       refine takeHL (i:=7) (v:=undef) rfl (by kernel_rfl) (fun _ _ _ h=>h) (Or.inr ⟨by rfl,rfl⟩) (by assumption) ?hr29
       case hr29=>
       try simp only [pZa,pZb,pZc,pZd]
       refine takeHL (i:=8) (v:=undef) rfl (by kernel_rfl) (fun _ _ _ h=>h) (Or.inr ⟨by rfl,rfl⟩) (by assumption) ?hr30
       case hr30=>
       try simp only [pZa,pZb,pZc,pZd]
       refine takeHL (i:=9) (v:=undef) rfl (by kernel_rfl) (fun _ _ _ h=>h) (Or.inr ⟨by rfl,rfl⟩) (by assumption) ?hr31
       case hr31=>
       try simp only [pZa,pZb,pZc,pZd]
       refine takeHL (i:=10) (v:=undef) rfl (by kernel_rfl) (fun _ _ _ h=>h) (Or.inr ⟨by rfl,rfl⟩) (by assumption) ?hr32
       case hr32=>
       try simp only [pZa,pZb,pZc,pZd]
       refine takeHL (i:=11) (v:=undef) rfl (by kernel_rfl) (fun _ _ _ h=>h) (Or.inr ⟨by rfl,rfl⟩) (by assumption) ?hr33
       case hr33=>
       try simp only [pZa,pZb,pZc,pZd]
       refine takeHL (i:=12) (v:=undef) rfl (by kernel_rfl) (fun _ _ _ h=>h) (Or.inr ⟨by rfl,rfl⟩) (by assumption) ?hr34
       case hr34=>
       try simp only [pZa,pZb,pZc,pZd]
       refine takeHL (i:=13) (v:=undef) rfl (by kernel_rfl) (fun _ _ _ h=>h) (Or.inr ⟨by rfl,rfl⟩) (by assumption) ?hr35
       case hr35=>
       try simp only [pZa,pZb,pZc,pZd]
       refine takeHL (i:=14) (v:=undef) rfl (by kernel_rfl) (fun _ _ _ h=>h) (Or.inr ⟨by rfl,rfl⟩) (by assumption) ?hr36
       case hr36=>
       try simp only [pZa,pZb,pZc,pZd]
       refine takeHL (i:=15) (v:=undef) rfl (by kernel_rfl) (fun _ _ _ h=>h) (Or.inr ⟨by rfl,rfl⟩) (by assumption) ?hr37
       case hr37=>
       try simp only [pZa,pZb,pZc,pZd]
       refine takeHL (i:=16) (v:=undef) rfl (by kernel_rfl) (fun _ _ _ h=>h) (Or.inr ⟨by rfl,rfl⟩) (by assumption) ?hr38
       case hr38=>
       try simp only [pZa,pZb,pZc,pZd]
       refine takeHL (i:=17) (v:=?_) rfl (by kernel_rfl) (fun _ _ _ h=>h) (Or.inl ⟨by rfl,?hy39⟩) (by assumption) ?hr39
       case hy39=>intro w hSw;(try dsimp only at hSw);(try obtain⟨hc0,hc1,hc2,hc3,hc4,hc5,hc6,hc7⟩:=hSw);(try obtain⟨hc0,hc1,hc2,hc3,hc4,hc5⟩:=hSw);go_simp;try (with_reducible rfl)
       case hr39=>
       try simp only [pZa,pZb,pZc,pZd]
       refine takeHL (i:=18) (v:=?_) rfl (by kernel_rfl) (fun _ _ _ h=>h) (Or.inl ⟨by rfl,?hy40⟩) (by assumption) ?hr40
       case hy40=>intro w hSw;(try dsimp only at hSw);(try obtain⟨hc0,hc1,hc2,hc3,hc4,hc5,hc6,hc7⟩:=hSw);(try obtain⟨hc0,hc1,hc2,hc3,hc4,hc5⟩:=hSw);go_simp;try (with_reducible rfl)
       case hr40=>
       try simp only [pZa,pZb,pZc,pZd]
       refine wpAnyH_done (by kernel_rfl) ?_ _
       go_wp2_with fail
       go_roundw
       case rel=>exact⟨1,hlt,by go_num,HN2,HQ3,HB3⟩
       case measure=>simp [Go.RowKit.intOf]<;>omega
      ·obtain⟨k,rfl⟩:∃ k,i=k+1:=⟨i-1,by omega⟩
       obtain⟨b9,off9,he9,-,y0,-,-,-,-,-⟩:=HX.out.six k (by omega)
       injection he9 with he9
       injection he9 with he1 he2 _
       subst he1 he2
       have y0:=(HB2.out.cell (p:=⟨b,_,none⟩) hb).trans y0
       have HBB:=hZ (show b<(wr.alloc (.cells (obA p.1 p.2.1 p.2.2) 27)).drew.heap.size from Nat.lt_of_lt_of_le hb HB2.out.size)
       have HS2:=hZ (show stR ps (k+1)=decide ((ps.getD k default).1.1<p.1.1) by rw [HS.out];simp)
       clear HS
       obtain⟨pn,hpn⟩:∃ x,x=(ps.getD k default).1.1:=⟨_,rfl⟩
       rw [← hpn] at y0 HS2
       clear hpn
       have hz:((k+1:Nat):Int)>0:=by omega
       have hk1:((k+1:Nat):Int)-1=(k:Int):=by omega
       have hw:IntKind.i64.wrap (((k+1:Nat):Int)-1)=(k:Int):=by rw [IntWalk.i64_in _ (by omega)];omega
       have hw2:IntKind.i64.wrap (k:Int)=(k:Int):=IntWalk.i64_in _ (by omega)
       have hkl:(k:Int)<(ps.length:Int):=by omega
       by_cases hlt2:pn<p.1.1
       ·have hl2:(pn:Int)<(p.1.1:Int):=Int.ofNat_lt.2 hlt2
        have HN2:=hZ (show rowsR ps (k+1+1)=true by rw [HN.out,HT.out,HS2.out];simp [hlt2])
        clear HS2 HN HU HT
        refine wp_region_held_drew (S:=fun w'=>w'.cell? ⟨w.heap.size,0,none⟩=some (.slice (some ⟨b,off,none⟩) ps.length c)∧w'.cell? ⟨b,off+k*6,none⟩=some (.int .u64 (pn:Nat))∧w'.cell? ⟨wr.heap.size,0,none⟩=some (.int .u64 (p.1.1:Nat))∧w'.cell? ⟨wr.heap.size,1,none⟩=some (.int .i64 p.1.2.1.1)∧w'.cell? ⟨wr.heap.size,2,none⟩=some (.int .i64 p.1.2.1.2.1)∧w'.cell? ⟨wr.heap.size,3,none⟩=some (.int .i64 p.1.2.1.2.2.1)∧w'.cell? ⟨wr.heap.size,4,none⟩=some (.slice p.2.1 p.1.2.1.2.2.2.length p.2.2)∧w'.cell? ⟨wr.heap.size,5,none⟩=some (.int .i64 p.1.2.2)) (by kernel_rfl) ?hS41 (fun hHeld=>?hR41)
        case hS41=>exact⟨q0,y0,g0,g1,g2,g3,g4,g5⟩
        case hR41=>
        refine takeHL (i:=0) (v:=?_) rfl (by kernel_rfl) (fun _ _ _ h=>h) (Or.inl ⟨by rfl,?hy42⟩) (by assumption) ?hr42
        case hy42=>intro w hSw;(try dsimp only at hSw);(try obtain⟨hc0,hc1,hc2,hc3,hc4,hc5,hc6,hc7⟩:=hSw);(try obtain⟨hc0,hc1,hc2,hc3,hc4,hc5⟩:=hSw);go_simp;try (with_reducible rfl)
        case hr42=>
        try simp only [pZa,pZb,pZc,pZd]
        refine callHL (i:=1) rfl (by kernel_rfl) (fun K hK=>?_)
        go_simp
        refine (HR.out _ (OkD.drew HO2.out)).mono ?_
        rintro f43 y1 ⟨rfl,hb⟩
        have HB3:=hZ (chain HB2.out.drew hb)
        have HQ3:=hZ (HQ2.out.drew.keep hb)
        have G3:=hZ (G.out.drew.keep hb)
        obtain⟨g0,g1,g2,g3,g4,g5⟩:=G3.out.sixO
        have q0:=HQ3.out.cell 0
        have z0:=(hb.cell (p:=⟨b,off+k*6,none⟩) HBB.out).trans y0
        clear hb
        clear hHeld
        refine hK.out _ _ ⟨q0,z0,g0,g1,g2,g3,g4,g5⟩ (fun hHeld=>?_)
        clear hK K
        try simp only [pZa,pZb,pZc,pZd]
        refine takeHL (i:=2) (v:=?_) rfl (by kernel_rfl) (fun _ _ _ h=>h) (Or.inl ⟨by rfl,?hy44⟩) (by assumption) ?hr44
        case hy44=>intro w hSw;(try dsimp only at hSw);(try obtain⟨hc0,hc1,hc2,hc3,hc4,hc5,hc6,hc7⟩:=hSw);(try obtain⟨hc0,hc1,hc2,hc3,hc4,hc5⟩:=hSw);go_simp;try (with_reducible rfl)
        case hr44=>
        try simp only [pZa,pZb,pZc,pZd]
        refine takeHL (i:=3) (v:=?_) rfl (by kernel_rfl) (fun _ _ _ h=>h) (Or.inl ⟨by rfl,?hy45⟩) (by assumption) ?hr45
        case hy45=>intro w hSw;(try dsimp only at hSw);(try obtain⟨hc0,hc1,hc2,hc3,hc4,hc5,hc6,hc7⟩:=hSw);(try obtain⟨hc0,hc1,hc2,hc3,hc4,hc5⟩:=hSw);go_simp;try (with_reducible rfl)
        case hr45=>
        try simp only [pZa,pZb,pZc,pZd]
        refine takeHL (i:=4) (v:=?_) rfl (by kernel_rfl) (fun _ _ _ h=>h) (Or.inl ⟨by rfl,?hy46⟩) (by assumption) ?hr46
        case hy46=>intro w hSw;(try dsimp only at hSw);(try obtain⟨hc0,hc1,hc2,hc3,hc4,hc5,hc6,hc7⟩:=hSw);(try obtain⟨hc0,hc1,hc2,hc3,hc4,hc5⟩:=hSw);go_simp;try (with_reducible rfl)
        case hr46=>
        try simp only [pZa,pZb,pZc,pZd]
        refine takeHL (i:=5) (v:=?_) rfl (by kernel_rfl) (fun _ _ _ h=>h) (Or.inl ⟨by rfl,?hy47⟩) (by assumption) ?hr47
        case hy47=>intro w hSw;(try dsimp only at hSw);(try obtain⟨hc0,hc1,hc2,hc3,hc4,hc5,hc6,hc7⟩:=hSw);(try obtain⟨hc0,hc1,hc2,hc3,hc4,hc5⟩:=hSw);go_simp;try (with_reducible rfl)
        case hr47=>
        try simp only [pZa,pZb,pZc,pZd]
        refine takeHL (i:=6) (v:=?_) rfl (by kernel_rfl) (fun _ _ _ h=>h) (Or.inl ⟨by rfl,?hy48⟩) (by assumption) ?hr48
        case hy48=>intro w hSw;(try dsimp only at hSw);(try obtain⟨hc0,hc1,hc2,hc3,hc4,hc5,hc6,hc7⟩:=hSw);(try obtain⟨hc0,hc1,hc2,hc3,hc4,hc5⟩:=hSw);go_simp;try (with_reducible rfl)
        case hr48=>
        try simp only [pZa,pZb,pZc,pZd]
        refine takeHL (i:=7) (v:=?_) rfl (by kernel_rfl) (fun _ _ _ h=>h) (Or.inl ⟨by rfl,?hy49⟩) (by assumption) ?hr49
        case hy49=>intro w hSw;(try dsimp only at hSw);(try obtain⟨hc0,hc1,hc2,hc3,hc4,hc5,hc6,hc7⟩:=hSw);(try obtain⟨hc0,hc1,hc2,hc3,hc4,hc5⟩:=hSw);go_simp;try (with_reducible rfl)
        case hr49=>
        try simp only [pZa,pZb,pZc,pZd]
        refine takeHL (i:=8) (v:=?_) rfl (by kernel_rfl) (fun _ _ _ h=>h) (Or.inl ⟨by rfl,?hy50⟩) (by assumption) ?hr50
        case hy50=>intro w hSw;(try dsimp only at hSw);(try obtain⟨hc0,hc1,hc2,hc3,hc4,hc5,hc6,hc7⟩:=hSw);(try obtain⟨hc0,hc1,hc2,hc3,hc4,hc5⟩:=hSw);go_simp;try (with_reducible rfl)
        case hr50=>
        try simp only [pZa,pZb,pZc,pZd]
        refine takeHL (i:=9) (v:=?_) rfl (by kernel_rfl) (fun _ _ _ h=>h) (Or.inl ⟨by rfl,?hy51⟩) (by assumption) ?hr51
        case hy51=>intro w hSw;(try dsimp only at hSw);(try obtain⟨hc0,hc1,hc2,hc3,hc4,hc5,hc6,hc7⟩:=hSw);(try obtain⟨hc0,hc1,hc2,hc3,hc4,hc5⟩:=hSw);go_simp;try (with_reducible rfl)
        case hr51=>
        try simp only [pZa,pZb,pZc,pZd]
        refine takeHL (i:=10) (v:=?_) rfl (by kernel_rfl) (fun _ _ _ h=>h) (Or.inl ⟨by rfl,?hy52⟩) (by assumption) ?hr52
        case hy52=>intro w hSw;(try dsimp only at hSw);(try obtain⟨hc0,hc1,hc2,hc3,hc4,hc5,hc6,hc7⟩:=hSw);(try obtain⟨hc0,hc1,hc2,hc3,hc4,hc5⟩:=hSw);go_simp;try (with_reducible rfl)
        case hr52=>
        try simp only [pZa,pZb,pZc,pZd]
        refine takeHL (i:=11) (v:=?_) rfl (by kernel_rfl) (fun _ _ _ h=>h) (Or.inl ⟨by rfl,?hy53⟩) (by assumption) ?hr53
        case hy53=>intro w hSw;(try dsimp only at hSw);(try obtain⟨hc0,hc1,hc2,hc3,hc4,hc5,hc6,hc7⟩:=hSw);(try obtain⟨hc0,hc1,hc2,hc3,hc4,hc5⟩:=hSw);go_simp;try (with_reducible rfl)
        case hr53=>
        try simp only [pZa,pZb,pZc,pZd]
        refine takeHL (i:=12) (v:=?_) rfl (by kernel_rfl) (fun _ _ _ h=>h) (Or.inl ⟨by rfl,?hy54⟩) (by assumption) ?hr54
        case hy54=>intro w hSw;(try dsimp only at hSw);(try obtain⟨hc0,hc1,hc2,hc3,hc4,hc5,hc6,hc7⟩:=hSw);(try obtain⟨hc0,hc1,hc2,hc3,hc4,hc5⟩:=hSw);go_simp;try (with_reducible rfl)
        case hr54=>
        try simp only [pZa,pZb,pZc,pZd]
        refine takeHL (i:=13) (v:=?_) rfl (by kernel_rfl) (fun _ _ _ h=>h) (Or.inl ⟨by rfl,?hy55⟩) (by assumption) ?hr55
        case hy55=>intro w hSw;(try dsimp only at hSw);(try obtain⟨hc0,hc1,hc2,hc3,hc4,hc5,hc6,hc7⟩:=hSw);(try obtain⟨hc0,hc1,hc2,hc3,hc4,hc5⟩:=hSw);go_simp;try (with_reducible rfl)
        case hr55=>
        try simp only [pZa,pZb,pZc,pZd]
        refine takeHL (i:=14) (v:=?_) rfl (by kernel_rfl) (fun _ _ _ h=>h) (Or.inl ⟨by rfl,?hy56⟩) (by assumption) ?hr56
        case hy56=>intro w hSw;(try dsimp only at hSw);(try obtain⟨hc0,hc1,hc2,hc3,hc4,hc5,hc6,hc7⟩:=hSw);(try obtain⟨hc0,hc1,hc2,hc3,hc4,hc5⟩:=hSw);go_simp;try (with_reducible rfl)
        case hr56=>
        try simp only [pZa,pZb,pZc,pZd]
        refine takeHL (i:=15) (v:=?_) rfl (by kernel_rfl) (fun _ _ _ h=>h) (Or.inl ⟨by rfl,?hy57⟩) (by assumption) ?hr57
        case hy57=>intro w hSw;(try dsimp only at hSw);(try obtain⟨hc0,hc1,hc2,hc3,hc4,hc5,hc6,hc7⟩:=hSw);(try obtain⟨hc0,hc1,hc2,hc3,hc4,hc5⟩:=hSw);go_simp;try (with_reducible rfl)
        case hr57=>
        try simp only [pZa,pZb,pZc,pZd]
        refine takeHL (i:=16) (v:=?_) rfl (by kernel_rfl) (fun _ _ _ h=>h) (Or.inl ⟨by rfl,?hy58⟩) (by assumption) ?hr58
        case hy58=>intro w hSw;(try dsimp only at hSw);(try obtain⟨hc0,hc1,hc2,hc3,hc4,hc5,hc6,hc7⟩:=hSw);(try obtain⟨hc0,hc1,hc2,hc3,hc4,hc5⟩:=hSw);go_simp;try (with_reducible rfl)
        case hr58=>
        try simp only [pZa,pZb,pZc,pZd]
        refine takeHL (i:=17) (v:=?_) rfl (by kernel_rfl) (fun _ _ _ h=>h) (Or.inl ⟨by rfl,?hy59⟩) (by assumption) ?hr59
        case hy59=>intro w hSw;(try dsimp only at hSw);(try obtain⟨hc0,hc1,hc2,hc3,hc4,hc5,hc6,hc7⟩:=hSw);(try obtain⟨hc0,hc1,hc2,hc3,hc4,hc5⟩:=hSw);go_simp;try (with_reducible rfl)
        case hr59=>
        try simp only [pZa,pZb,pZc,pZd]
        refine takeHL (i:=18) (v:=?_) rfl (by kernel_rfl) (fun _ _ _ h=>h) (Or.inl ⟨by rfl,?hy60⟩) (by assumption) ?hr60
        case hy60=>intro w hSw;(try dsimp only at hSw);(try obtain⟨hc0,hc1,hc2,hc3,hc4,hc5,hc6,hc7⟩:=hSw);(try obtain⟨hc0,hc1,hc2,hc3,hc4,hc5⟩:=hSw);go_simp;try (with_reducible rfl)
        case hr60=>
        try simp only [pZa,pZb,pZc,pZd]
        refine wpAnyH_done (by kernel_rfl) ?_ _
        go_wp2_with fail
        go_roundw
        case rel=>exact⟨k+1+1,hlt,by go_num,HN2,HQ3,HB3⟩
        case measure=>simp [Go.RowKit.intOf]<;>omega
       ·have hl2:¬ (pn:Int)<(p.1.1:Int):=by omega
        have hl3:(p.1.1:Int)≤(pn:Int):=by omega
        have HE:=hZ (HU.out (by rw [HS2.out];simp [hlt2]))
        clear HS2 HN HU HT
        refine wp_region_held_drew (S:=fun w'=>w'.cell? ⟨w.heap.size,0,none⟩=some (.slice (some ⟨b,off,none⟩) ps.length c)∧w'.cell? ⟨b,off+k*6,none⟩=some (.int .u64 (pn:Nat))∧w'.cell? ⟨wr.heap.size,0,none⟩=some (.int .u64 (p.1.1:Nat))∧w'.cell? ⟨wr.heap.size,1,none⟩=some (.int .i64 p.1.2.1.1)∧w'.cell? ⟨wr.heap.size,2,none⟩=some (.int .i64 p.1.2.1.2.1)∧w'.cell? ⟨wr.heap.size,3,none⟩=some (.int .i64 p.1.2.1.2.2.1)∧w'.cell? ⟨wr.heap.size,4,none⟩=some (.slice p.2.1 p.1.2.1.2.2.2.length p.2.2)∧w'.cell? ⟨wr.heap.size,5,none⟩=some (.int .i64 p.1.2.2)) (by kernel_rfl) ?hS61 (fun hHeld=>?hR61)
        case hS61=>exact⟨q0,y0,g0,g1,g2,g3,g4,g5⟩
        case hR61=>
        refine takeHL (i:=0) (v:=?_) rfl (by kernel_rfl) (fun _ _ _ h=>h) (Or.inl ⟨by rfl,?hy62⟩) (by assumption) ?hr62
        case hy62=>intro w hSw;(try dsimp only at hSw);(try obtain⟨hc0,hc1,hc2,hc3,hc4,hc5,hc6,hc7⟩:=hSw);(try obtain⟨hc0,hc1,hc2,hc3,hc4,hc5⟩:=hSw);go_simp;try (with_reducible rfl)
        case hr62=>
        try simp only [pZa,pZb,pZc,pZd]
        refine callHL (i:=1) rfl (by kernel_rfl) (fun K hK=>?_)
        go_simp
        refine (HR.out _ (OkD.drew HO2.out)).mono ?_
        rintro f63 y1 ⟨rfl,hb⟩
        have HB3:=hZ (chain HB2.out.drew hb)
        have HQ3:=hZ (HQ2.out.drew.keep hb)
        have G3:=hZ (G.out.drew.keep hb)
        obtain⟨g0,g1,g2,g3,g4,g5⟩:=G3.out.sixO
        have q0:=HQ3.out.cell 0
        have z0:=(hb.cell (p:=⟨b,off+k*6,none⟩) HBB.out).trans y0
        clear hb
        clear hHeld
        refine hK.out _ _ ⟨q0,z0,g0,g1,g2,g3,g4,g5⟩ (fun hHeld=>?_)
        clear hK K
        try simp only [pZa,pZb,pZc,pZd]
        refine takeHL (i:=2) (v:=?_) rfl (by kernel_rfl) (fun _ _ _ h=>h) (Or.inl ⟨by rfl,?hy64⟩) (by assumption) ?hr64
        case hy64=>intro w hSw;(try dsimp only at hSw);(try obtain⟨hc0,hc1,hc2,hc3,hc4,hc5,hc6,hc7⟩:=hSw);(try obtain⟨hc0,hc1,hc2,hc3,hc4,hc5⟩:=hSw);go_simp;try (with_reducible rfl)
        case hr64=>
        try simp only [pZa,pZb,pZc,pZd]
        refine takeHL (i:=3) (v:=?_) rfl (by kernel_rfl) (fun _ _ _ h=>h) (Or.inl ⟨by rfl,?hy65⟩) (by assumption) ?hr65
        case hy65=>intro w hSw;(try dsimp only at hSw);(try obtain⟨hc0,hc1,hc2,hc3,hc4,hc5,hc6,hc7⟩:=hSw);(try obtain⟨hc0,hc1,hc2,hc3,hc4,hc5⟩:=hSw);go_simp;try (with_reducible rfl)
        case hr65=>
        try simp only [pZa,pZb,pZc,pZd]
        refine takeHL (i:=4) (v:=?_) rfl (by kernel_rfl) (fun _ _ _ h=>h) (Or.inl ⟨by rfl,?hy66⟩) (by assumption) ?hr66
        case hy66=>intro w hSw;(try dsimp only at hSw);(try obtain⟨hc0,hc1,hc2,hc3,hc4,hc5,hc6,hc7⟩:=hSw);(try obtain⟨hc0,hc1,hc2,hc3,hc4,hc5⟩:=hSw);go_simp;try (with_reducible rfl)
        case hr66=>
        try simp only [pZa,pZb,pZc,pZd]
        refine takeHL (i:=5) (v:=?_) rfl (by kernel_rfl) (fun _ _ _ h=>h) (Or.inl ⟨by rfl,?hy67⟩) (by assumption) ?hr67
        case hy67=>intro w hSw;(try dsimp only at hSw);(try obtain⟨hc0,hc1,hc2,hc3,hc4,hc5,hc6,hc7⟩:=hSw);(try obtain⟨hc0,hc1,hc2,hc3,hc4,hc5⟩:=hSw);go_simp;try (with_reducible rfl)
        case hr67=>
        try simp only [pZa,pZb,pZc,pZd]
        refine takeHL (i:=6) (v:=?_) rfl (by kernel_rfl) (fun _ _ _ h=>h) (Or.inl ⟨by rfl,?hy68⟩) (by assumption) ?hr68
        case hy68=>intro w hSw;(try dsimp only at hSw);(try obtain⟨hc0,hc1,hc2,hc3,hc4,hc5,hc6,hc7⟩:=hSw);(try obtain⟨hc0,hc1,hc2,hc3,hc4,hc5⟩:=hSw);go_simp;try (with_reducible rfl)
        case hr68=>
        try simp only [pZa,pZb,pZc,pZd]
        refine takeHL (i:=7) (v:=?_) rfl (by kernel_rfl) (fun _ _ _ h=>h) (Or.inl ⟨by rfl,?hy69⟩) (by assumption) ?hr69
        case hy69=>intro w hSw;(try dsimp only at hSw);(try obtain⟨hc0,hc1,hc2,hc3,hc4,hc5,hc6,hc7⟩:=hSw);(try obtain⟨hc0,hc1,hc2,hc3,hc4,hc5⟩:=hSw);go_simp;try (with_reducible rfl)
        case hr69=>
        try simp only [pZa,pZb,pZc,pZd]
        refine takeHL (i:=8) (v:=?_) rfl (by kernel_rfl) (fun _ _ _ h=>h) (Or.inl ⟨by rfl,?hy70⟩) (by assumption) ?hr70
        case hy70=>intro w hSw;(try dsimp only at hSw);(try obtain⟨hc0,hc1,hc2,hc3,hc4,hc5,hc6,hc7⟩:=hSw);(try obtain⟨hc0,hc1,hc2,hc3,hc4,hc5⟩:=hSw);go_simp;try (with_reducible rfl)
        case hr70=>
        try simp only [pZa,pZb,pZc,pZd]
        refine takeHL (i:=9) (v:=?_) rfl (by kernel_rfl) (fun _ _ _ h=>h) (Or.inl ⟨by rfl,?hy71⟩) (by assumption) ?hr71
        case hy71=>intro w hSw;(try dsimp only at hSw);(try obtain⟨hc0,hc1,hc2,hc3,hc4,hc5,hc6,hc7⟩:=hSw);(try obtain⟨hc0,hc1,hc2,hc3,hc4,hc5⟩:=hSw);go_simp;try (with_reducible rfl)
        case hr71=>
        try simp only [pZa,pZb,pZc,pZd]
        refine takeHL (i:=10) (v:=?_) rfl (by kernel_rfl) (fun _ _ _ h=>h) (Or.inl ⟨by rfl,?hy72⟩) (by assumption) ?hr72
        case hy72=>intro w hSw;(try dsimp only at hSw);(try obtain⟨hc0,hc1,hc2,hc3,hc4,hc5,hc6,hc7⟩:=hSw);(try obtain⟨hc0,hc1,hc2,hc3,hc4,hc5⟩:=hSw);go_simp;try (with_reducible rfl)
        case hr72=>
        try simp only [pZa,pZb,pZc,pZd]
        refine takeHL (i:=11) (v:=?_) rfl (by kernel_rfl) (fun _ _ _ h=>h) (Or.inl ⟨by rfl,?hy73⟩) (by assumption) ?hr73
        case hy73=>intro w hSw;(try dsimp only at hSw);(try obtain⟨hc0,hc1,hc2,hc3,hc4,hc5,hc6,hc7⟩:=hSw);(try obtain⟨hc0,hc1,hc2,hc3,hc4,hc5⟩:=hSw);go_simp;try (with_reducible rfl)
        case hr73=>
        try simp only [pZa,pZb,pZc,pZd]
        refine takeHL (i:=12) (v:=?_) rfl (by kernel_rfl) (fun _ _ _ h=>h) (Or.inl ⟨by rfl,?hy74⟩) (by assumption) ?hr74
        case hy74=>intro w hSw;(try dsimp only at hSw);(try obtain⟨hc0,hc1,hc2,hc3,hc4,hc5,hc6,hc7⟩:=hSw);(try obtain⟨hc0,hc1,hc2,hc3,hc4,hc5⟩:=hSw);go_simp;try (with_reducible rfl)
        case hr74=>
        try simp only [pZa,pZb,pZc,pZd]
        refine takeHL (i:=13) (v:=?_) rfl (by kernel_rfl) (fun _ _ _ h=>h) (Or.inl ⟨by rfl,?hy75⟩) (by assumption) ?hr75
        case hy75=>intro w hSw;(try dsimp only at hSw);(try obtain⟨hc0,hc1,hc2,hc3,hc4,hc5,hc6,hc7⟩:=hSw);(try obtain⟨hc0,hc1,hc2,hc3,hc4,hc5⟩:=hSw);go_simp;try (with_reducible rfl)
        case hr75=>
        try simp only [pZa,pZb,pZc,pZd]
        refine takeHL (i:=14) (v:=?_) rfl (by kernel_rfl) (fun _ _ _ h=>h) (Or.inl ⟨by rfl,?hy76⟩) (by assumption) ?hr76
        case hy76=>intro w hSw;(try dsimp only at hSw);(try obtain⟨hc0,hc1,hc2,hc3,hc4,hc5,hc6,hc7⟩:=hSw);(try obtain⟨hc0,hc1,hc2,hc3,hc4,hc5⟩:=hSw);go_simp;try (with_reducible rfl)
        case hr76=>
        try simp only [pZa,pZb,pZc,pZd]
        refine takeHL (i:=15) (v:=?_) rfl (by kernel_rfl) (fun _ _ _ h=>h) (Or.inl ⟨by rfl,?hy77⟩) (by assumption) ?hr77
        case hy77=>intro w hSw;(try dsimp only at hSw);(try obtain⟨hc0,hc1,hc2,hc3,hc4,hc5,hc6,hc7⟩:=hSw);(try obtain⟨hc0,hc1,hc2,hc3,hc4,hc5⟩:=hSw);go_simp;try (with_reducible rfl)
        case hr77=>
        try simp only [pZa,pZb,pZc,pZd]
        refine takeHL (i:=16) (v:=?_) rfl (by kernel_rfl) (fun _ _ _ h=>h) (Or.inl ⟨by rfl,?hy78⟩) (by assumption) ?hr78
        case hy78=>intro w hSw;(try dsimp only at hSw);(try obtain⟨hc0,hc1,hc2,hc3,hc4,hc5,hc6,hc7⟩:=hSw);(try obtain⟨hc0,hc1,hc2,hc3,hc4,hc5⟩:=hSw);go_simp;try (with_reducible rfl)
        case hr78=>
        try simp only [pZa,pZb,pZc,pZd]
        refine takeHL (i:=17) (v:=?_) rfl (by kernel_rfl) (fun _ _ _ h=>h) (Or.inl ⟨by rfl,?hy79⟩) (by assumption) ?hr79
        case hy79=>intro w hSw;(try dsimp only at hSw);(try obtain⟨hc0,hc1,hc2,hc3,hc4,hc5,hc6,hc7⟩:=hSw);(try obtain⟨hc0,hc1,hc2,hc3,hc4,hc5⟩:=hSw);go_simp;try (with_reducible rfl)
        case hr79=>
        try simp only [pZa,pZb,pZc,pZd]
        refine takeHL (i:=18) (v:=?_) rfl (by kernel_rfl) (fun _ _ _ h=>h) (Or.inl ⟨by rfl,?hy80⟩) (by assumption) ?hr80
        case hy80=>intro w hSw;(try dsimp only at hSw);(try obtain⟨hc0,hc1,hc2,hc3,hc4,hc5,hc6,hc7⟩:=hSw);(try obtain⟨hc0,hc1,hc2,hc3,hc4,hc5⟩:=hSw);go_simp;try (with_reducible rfl)
        case hr80=>
        try simp only [pZa,pZb,pZc,pZd]
        refine wpAnyH_done (by kernel_rfl) ?_ _
        go_wp2_with fail
        go_ret
        exact⟨by simp [rightR,HE.out],HB3.out⟩
   ·obtain rfl:i=ps.length:=Nat.le_antisymm hi (Nat.le_of_not_lt hlt)
    have hlt':¬ (ps.length:Int)<(ps.length:Int):=Int.lt_irrefl _
    have HE:=HT
    clear HT
    go_wp2_with fail
    go_ret
    exact⟨by have h9:ps.length≤8:=by omega
             simp [rightR,HE.out,h9],HB.out⟩
set_option maxHeartbeats 1000000 in
theorem rcright19_any (v:Value) (ps:List RawO) (w:World) (h:RcAt w v ps):Calls Tryz.prog 20 #[v] w fun e w'=>e=.returned (.bool (rightR ps))∧Below w.heap.size w w':=by
 obtain⟨A,c,rfl,hs,hx,hd⟩:=h
 have HX:=hZ hx
 have HD:=hZ hd
 clear hx hd
 have W1:=hZ ((Below.refl w.heap.size w).alloc (Nat.le_refl _) (.cells #[.slice A ps.length c] 48))
 have Q:=hZ (Box.new w 48 #[.slice A ps.length c])
 have r0:=Q.out.cell 0
 have hmx:=Nat.le_trans hs.1 hs.2.1
 unfold maxLen at hmx
 ·go_enter Tryz.func20,Tryz.ntmps20
  go_wp2_with fail
  go_loopw [8] (fun t wr=>∃ i:Nat,i≤ps.length∧t=.int .i64 (i:Int)∧Hid (rowsR ps i=true)∧Hid (Box wr w.heap.size 48 #[.slice A ps.length c])∧Hid (Below w.heap.size w wr)) (fun t _=>ps.length-(Go.RowKit.intOf t).toNat)
  case atStart=>exact⟨0,Nat.zero_le _,rfl,hZ rfl,Q,W1⟩
  case round=>
   obtain⟨i,hi,rfl,HT,HQ,HB⟩:=hrel
   by_cases hlt:i<ps.length
   ·have hlt':(i:Int)<(ps.length:Int):=Int.ofNat_lt.2 hlt
    obtain⟨b,off,rfl,hb,x0,x1,x2,x3,x4,x5⟩:=(HX.out.six i hlt)
    have HN:=hZ (rowsR_snoc ps i)
    have HU:=hZ (rowsR_no ps ps.length i hlt)
    have HO:=hZ ((HD.out i).below (HB.out.mono (Nat.le_refl _)))
    obtain⟨p,hp⟩:∃ y,y=ps.getD i default:=⟨_,rfl⟩
    have HS:=hZ (show stR ps i=(rightO p.1&&(decide (i=0)||decide ((ps.getD (i-1) default).1.1<p.1.1))) by rw [hp];rfl)
    have x0:=(HB.out.cell (p:=⟨b,_,none⟩) hb).trans x0
    have x1:=(HB.out.cell (p:=⟨b,_,none⟩) hb).trans x1
    have x2:=(HB.out.cell (p:=⟨b,_,none⟩) hb).trans x2
    have x3:=(HB.out.cell (p:=⟨b,_,none⟩) hb).trans x3
    have x4:=(HB.out.cell (p:=⟨b,_,none⟩) hb).trans x4
    have x5:=(HB.out.cell (p:=⟨b,_,none⟩) hb).trans x5
    rw [← hp] at HO x0 x1 x2 x3 x4 x5
    clear hp
    have G:=hZ (Box.new wr 27 (obA p.1 p.2.1 p.2.2))
    have HQ2:=hZ (HQ.out.alloc (.cells (obA p.1 p.2.1 p.2.2) 27))
    have HB2:=hZ (HB.out.alloc HB.out.size (.cells (obA p.1 p.2.1 p.2.2) 27))
    have HO2:=hZ (HO.out.below ((Below.refl _ _).alloc (Nat.le_refl _) (.cells (obA p.1 p.2.1 p.2.2) 27)))
    have HR:=hZ (fun wy (h:OkD wy p)=>oright18_any _ p.1 wy h.at)
    obtain⟨g0,g1,g2,g3,g4,g5⟩:=G.out.sixO
    have q0:=HQ2.out.cell 0
    cases hr:rightO p.1 with
    | false=>
      rw [hr] at HR HS
      have HE:=hZ (HU.out HS.out)
      clear HS HN HU HT hr
      go_wp2_with fail
      refine wp_region_held_drew (S:=fun w'=>w'.cell? ⟨wr.heap.size,0,none⟩=some (.int .u64 (p.1.1:Nat))∧w'.cell? ⟨wr.heap.size,1,none⟩=some (.int .i64 p.1.2.1.1)∧w'.cell? ⟨wr.heap.size,2,none⟩=some (.int .i64 p.1.2.1.2.1)∧w'.cell? ⟨wr.heap.size,3,none⟩=some (.int .i64 p.1.2.1.2.2.1)∧w'.cell? ⟨wr.heap.size,4,none⟩=some (.slice p.2.1 p.1.2.1.2.2.2.length p.2.2)∧w'.cell? ⟨wr.heap.size,5,none⟩=some (.int .i64 p.1.2.2)) (by kernel_rfl) ?hS1 (fun hHeld=>?hR1)
      case hS1=>exact⟨g0,g1,g2,g3,g4,g5⟩
      case hR1=>
      refine takeHL (i:=0) (v:=?_) rfl (by kernel_rfl) (fun _ _ _ h=>h) (Or.inl ⟨by rfl,?hy2⟩) (by assumption) ?hr2
      case hy2=>intro w hSw;(try dsimp only at hSw);(try obtain⟨hc0,hc1,hc2,hc3,hc4,hc5,hc6,hc7⟩:=hSw);(try obtain⟨hc0,hc1,hc2,hc3,hc4,hc5⟩:=hSw);go_simp;try (with_reducible rfl)
      case hr2=>
      try simp only [pZa,pZb,pZc,pZd]
      refine callHL (i:=1) rfl (by kernel_rfl) (fun K hK=>?_)
      go_simp
      refine (HR.out _ (OkD.drew HO2.out)).mono ?_
      rintro f3 y1 ⟨rfl,hb⟩
      have HB3:=hZ (chain HB2.out.drew hb)
      have HQ3:=hZ (HQ2.out.drew.keep hb)
      have G3:=hZ (G.out.drew.keep hb)
      obtain⟨g0,g1,g2,g3,g4,g5⟩:=G3.out.sixO
      have q0:=HQ3.out.cell 0
      clear hb
      clear hHeld
      refine hK.out _ _ ⟨g0,g1,g2,g3,g4,g5⟩ (fun hHeld=>?_)
      clear hK K
      try simp only [pZa,pZb,pZc,pZd]
      refine takeHL (i:=2) (v:=?_) rfl (by kernel_rfl) (fun _ _ _ h=>h) (Or.inl ⟨by rfl,?hy4⟩) (by assumption) ?hr4
      case hy4=>intro w hSw;(try dsimp only at hSw);(try obtain⟨hc0,hc1,hc2,hc3,hc4,hc5,hc6,hc7⟩:=hSw);(try obtain⟨hc0,hc1,hc2,hc3,hc4,hc5⟩:=hSw);go_simp;try (with_reducible rfl)
      case hr4=>
      try simp only [pZa,pZb,pZc,pZd]
      refine takeHL (i:=3) (v:=?_) rfl (by kernel_rfl) (fun _ _ _ h=>h) (Or.inl ⟨by rfl,?hy5⟩) (by assumption) ?hr5
      case hy5=>intro w hSw;(try dsimp only at hSw);(try obtain⟨hc0,hc1,hc2,hc3,hc4,hc5,hc6,hc7⟩:=hSw);(try obtain⟨hc0,hc1,hc2,hc3,hc4,hc5⟩:=hSw);go_simp;try (with_reducible rfl)
      case hr5=>
      try simp only [pZa,pZb,pZc,pZd]
      refine takeHL (i:=4) (v:=undef) rfl (by kernel_rfl) (fun _ _ _ h=>h) (Or.inr ⟨by rfl,rfl⟩) (by assumption) ?hr6
      case hr6=>
      try simp only [pZa,pZb,pZc,pZd]
      refine takeHL (i:=5) (v:=undef) rfl (by kernel_rfl) (fun _ _ _ h=>h) (Or.inr ⟨by rfl,rfl⟩) (by assumption) ?hr7
      case hr7=>
      try simp only [pZa,pZb,pZc,pZd]
      refine takeHL (i:=6) (v:=undef) rfl (by kernel_rfl) (fun _ _ _ h=>h) (Or.inr ⟨by rfl,rfl⟩) (by assumption) ?hr8
      case hr8=>
      try simp only [pZa,pZb,pZc,pZd]
      refine takeHL (i:=7) (v:=undef) rfl (by kernel_rfl) (fun _ _ _ h=>h) (Or.inr ⟨by rfl,rfl⟩) (by assumption) ?hr9
      case hr9=>
      try simp only [pZa,pZb,pZc,pZd]
      refine takeHL (i:=8) (v:=undef) rfl (by kernel_rfl) (fun _ _ _ h=>h) (Or.inr ⟨by rfl,rfl⟩) (by assumption) ?hr10
      case hr10=>
      try simp only [pZa,pZb,pZc,pZd]
      refine takeHL (i:=9) (v:=undef) rfl (by kernel_rfl) (fun _ _ _ h=>h) (Or.inr ⟨by rfl,rfl⟩) (by assumption) ?hr11
      case hr11=>
      try simp only [pZa,pZb,pZc,pZd]
      refine takeHL (i:=10) (v:=undef) rfl (by kernel_rfl) (fun _ _ _ h=>h) (Or.inr ⟨by rfl,rfl⟩) (by assumption) ?hr12
      case hr12=>
      try simp only [pZa,pZb,pZc,pZd]
      refine takeHL (i:=11) (v:=undef) rfl (by kernel_rfl) (fun _ _ _ h=>h) (Or.inr ⟨by rfl,rfl⟩) (by assumption) ?hr13
      case hr13=>
      try simp only [pZa,pZb,pZc,pZd]
      refine takeHL (i:=12) (v:=undef) rfl (by kernel_rfl) (fun _ _ _ h=>h) (Or.inr ⟨by rfl,rfl⟩) (by assumption) ?hr14
      case hr14=>
      try simp only [pZa,pZb,pZc,pZd]
      refine takeHL (i:=13) (v:=undef) rfl (by kernel_rfl) (fun _ _ _ h=>h) (Or.inr ⟨by rfl,rfl⟩) (by assumption) ?hr15
      case hr15=>
      try simp only [pZa,pZb,pZc,pZd]
      refine takeHL (i:=14) (v:=undef) rfl (by kernel_rfl) (fun _ _ _ h=>h) (Or.inr ⟨by rfl,rfl⟩) (by assumption) ?hr16
      case hr16=>
      try simp only [pZa,pZb,pZc,pZd]
      refine takeHL (i:=15) (v:=undef) rfl (by kernel_rfl) (fun _ _ _ h=>h) (Or.inr ⟨by rfl,rfl⟩) (by assumption) ?hr17
      case hr17=>
      try simp only [pZa,pZb,pZc,pZd]
      refine takeHL (i:=16) (v:=undef) rfl (by kernel_rfl) (fun _ _ _ h=>h) (Or.inr ⟨by rfl,rfl⟩) (by assumption) ?hr18
      case hr18=>
      try simp only [pZa,pZb,pZc,pZd]
      refine takeHL (i:=17) (v:=undef) rfl (by kernel_rfl) (fun _ _ _ h=>h) (Or.inr ⟨by rfl,rfl⟩) (by assumption) ?hr19
      case hr19=>
      try simp only [pZa,pZb,pZc,pZd]
      refine takeHL (i:=18) (v:=?_) rfl (by kernel_rfl) (fun _ _ _ h=>h) (Or.inl ⟨by rfl,?hy20⟩) (by assumption) ?hr20
      case hy20=>intro w hSw;(try dsimp only at hSw);(try obtain⟨hc0,hc1,hc2,hc3,hc4,hc5,hc6,hc7⟩:=hSw);(try obtain⟨hc0,hc1,hc2,hc3,hc4,hc5⟩:=hSw);go_simp;try (with_reducible rfl)
      case hr20=>
      try simp only [pZa,pZb,pZc,pZd]
      refine wpAnyH_done (by kernel_rfl) ?_ _
      go_wp2_with fail
      go_ret
      exact⟨by simp [rightR,HE.out],HB3.out⟩
    | true=>
      rw [hr] at HR HS
      clear hr
      go_wp2_with fail
      clear x0 x1 x2 x3 x4 x5
      by_cases hi0:i=0
      ·subst hi0
       have HN2:=hZ (show rowsR ps (0+1)=true by rw [HN.out,HT.out,HS.out];rfl)
       have hz:¬ (0:Int)>((0:Nat):Int):=by decide
       clear HS HN HU HT
       refine wp_region_held_drew (S:=fun w'=>w'.cell? ⟨wr.heap.size,0,none⟩=some (.int .u64 (p.1.1:Nat))∧w'.cell? ⟨wr.heap.size,1,none⟩=some (.int .i64 p.1.2.1.1)∧w'.cell? ⟨wr.heap.size,2,none⟩=some (.int .i64 p.1.2.1.2.1)∧w'.cell? ⟨wr.heap.size,3,none⟩=some (.int .i64 p.1.2.1.2.2.1)∧w'.cell? ⟨wr.heap.size,4,none⟩=some (.slice p.2.1 p.1.2.1.2.2.2.length p.2.2)∧w'.cell? ⟨wr.heap.size,5,none⟩=some (.int .i64 p.1.2.2)) (by kernel_rfl) ?hS21 (fun hHeld=>?hR21)
       case hS21=>exact⟨g0,g1,g2,g3,g4,g5⟩
       case hR21=>
       refine takeHL (i:=0) (v:=?_) rfl (by kernel_rfl) (fun _ _ _ h=>h) (Or.inl ⟨by rfl,?hy22⟩) (by assumption) ?hr22
       case hy22=>intro w hSw;(try dsimp only at hSw);(try obtain⟨hc0,hc1,hc2,hc3,hc4,hc5,hc6,hc7⟩:=hSw);(try obtain⟨hc0,hc1,hc2,hc3,hc4,hc5⟩:=hSw);go_simp;try (with_reducible rfl)
       case hr22=>
       try simp only [pZa,pZb,pZc,pZd]
       refine callHL (i:=1) rfl (by kernel_rfl) (fun K hK=>?_)
       go_simp
       refine (HR.out _ (OkD.drew HO2.out)).mono ?_
       rintro f23 y1 ⟨rfl,hb⟩
       have HB3:=hZ (chain HB2.out.drew hb)
       have HQ3:=hZ (HQ2.out.drew.keep hb)
       have G3:=hZ (G.out.drew.keep hb)
       obtain⟨g0,g1,g2,g3,g4,g5⟩:=G3.out.sixO
       have q0:=HQ3.out.cell 0
       clear hb
       clear hHeld
       refine hK.out _ _ ⟨g0,g1,g2,g3,g4,g5⟩ (fun hHeld=>?_)
       clear hK K
       try simp only [pZa,pZb,pZc,pZd]
       refine takeHL (i:=2) (v:=?_) rfl (by kernel_rfl) (fun _ _ _ h=>h) (Or.inl ⟨by rfl,?hy24⟩) (by assumption) ?hr24
       case hy24=>intro w hSw;(try dsimp only at hSw);(try obtain⟨hc0,hc1,hc2,hc3,hc4,hc5,hc6,hc7⟩:=hSw);(try obtain⟨hc0,hc1,hc2,hc3,hc4,hc5⟩:=hSw);go_simp;try (with_reducible rfl)
       case hr24=>
       try simp only [pZa,pZb,pZc,pZd]
       refine takeHL (i:=3) (v:=?_) rfl (by kernel_rfl) (fun _ _ _ h=>h) (Or.inl ⟨by rfl,?hy25⟩) (by assumption) ?hr25
       case hy25=>intro w hSw;(try dsimp only at hSw);(try obtain⟨hc0,hc1,hc2,hc3,hc4,hc5,hc6,hc7⟩:=hSw);(try obtain⟨hc0,hc1,hc2,hc3,hc4,hc5⟩:=hSw);go_simp;try (with_reducible rfl)
       case hr25=>
       try simp only [pZa,pZb,pZc,pZd]
       refine takeHL (i:=4) (v:=?_) rfl (by kernel_rfl) (fun _ _ _ h=>h) (Or.inl ⟨by rfl,?hy26⟩) (by assumption) ?hr26
       case hy26=>intro w hSw;(try dsimp only at hSw);(try obtain⟨hc0,hc1,hc2,hc3,hc4,hc5,hc6,hc7⟩:=hSw);(try obtain⟨hc0,hc1,hc2,hc3,hc4,hc5⟩:=hSw);go_simp;try (with_reducible rfl)
       case hr26=>
       try simp only [pZa,pZb,pZc,pZd]
       refine takeHL (i:=5) (v:=?_) rfl (by kernel_rfl) (fun _ _ _ h=>h) (Or.inl ⟨by rfl,?hy27⟩) (by assumption) ?hr27
       case hy27=>intro w hSw;(try dsimp only at hSw);(try obtain⟨hc0,hc1,hc2,hc3,hc4,hc5,hc6,hc7⟩:=hSw);(try obtain⟨hc0,hc1,hc2,hc3,hc4,hc5⟩:=hSw);go_simp;try (with_reducible rfl)
       case hr27=>
       try simp only [pZa,pZb,pZc,pZd]
       refine takeHL (i:=6) (v:=?_) rfl (by kernel_rfl) (fun _ _ _ h=>h) (Or.inl ⟨by rfl,?hy28⟩) (by assumption) ?hr28
       case hy28=>intro w hSw;(try dsimp only at hSw);(try obtain⟨hc0,hc1,hc2,hc3,hc4,hc5,hc6,hc7⟩:=hSw);(try obtain⟨hc0,hc1,hc2,hc3,hc4,hc5⟩:=hSw);go_simp;try (with_reducible rfl)
       case hr28=>
       try simp only [pZa,pZb,pZc,pZd]
       refine takeHL (i:=7) (v:=undef) rfl (by kernel_rfl) (fun _ _ _ h=>h) (Or.inr ⟨by rfl,rfl⟩) (by assumption) ?hr29
       case hr29=>
       try simp only [pZa,pZb,pZc,pZd]
       refine takeHL (i:=8) (v:=undef) rfl (by kernel_rfl) (fun _ _ _ h=>h) (Or.inr ⟨by rfl,rfl⟩) (by assumption) ?hr30
       case hr30=>
       try simp only [pZa,pZb,pZc,pZd]
       refine takeHL (i:=9) (v:=undef) rfl (by kernel_rfl) (fun _ _ _ h=>h) (Or.inr ⟨by rfl,rfl⟩) (by assumption) ?hr31
       case hr31=>
       try simp only [pZa,pZb,pZc,pZd]
       refine takeHL (i:=10) (v:=undef) rfl (by kernel_rfl) (fun _ _ _ h=>h) (Or.inr ⟨by rfl,rfl⟩) (by assumption) ?hr32
       case hr32=>
       try simp only [pZa,pZb,pZc,pZd]
       refine takeHL (i:=11) (v:=undef) rfl (by kernel_rfl) (fun _ _ _ h=>h) (Or.inr ⟨by rfl,rfl⟩) (by assumption) ?hr33
       case hr33=>
       try simp only [pZa,pZb,pZc,pZd]
       refine takeHL (i:=12) (v:=undef) rfl (by kernel_rfl) (fun _ _ _ h=>h) (Or.inr ⟨by rfl,rfl⟩) (by assumption) ?hr34
       case hr34=>
       try simp only [pZa,pZb,pZc,pZd]
       refine takeHL (i:=13) (v:=undef) rfl (by kernel_rfl) (fun _ _ _ h=>h) (Or.inr ⟨by rfl,rfl⟩) (by assumption) ?hr35
       case hr35=>
       try simp only [pZa,pZb,pZc,pZd]
       refine takeHL (i:=14) (v:=undef) rfl (by kernel_rfl) (fun _ _ _ h=>h) (Or.inr ⟨by rfl,rfl⟩) (by assumption) ?hr36
       case hr36=>
       try simp only [pZa,pZb,pZc,pZd]
       refine takeHL (i:=15) (v:=undef) rfl (by kernel_rfl) (fun _ _ _ h=>h) (Or.inr ⟨by rfl,rfl⟩) (by assumption) ?hr37
       case hr37=>
       try simp only [pZa,pZb,pZc,pZd]
       refine takeHL (i:=16) (v:=undef) rfl (by kernel_rfl) (fun _ _ _ h=>h) (Or.inr ⟨by rfl,rfl⟩) (by assumption) ?hr38
       case hr38=>
       try simp only [pZa,pZb,pZc,pZd]
       refine takeHL (i:=17) (v:=?_) rfl (by kernel_rfl) (fun _ _ _ h=>h) (Or.inl ⟨by rfl,?hy39⟩) (by assumption) ?hr39
       case hy39=>intro w hSw;(try dsimp only at hSw);(try obtain⟨hc0,hc1,hc2,hc3,hc4,hc5,hc6,hc7⟩:=hSw);(try obtain⟨hc0,hc1,hc2,hc3,hc4,hc5⟩:=hSw);go_simp;try (with_reducible rfl)
       case hr39=>
       try simp only [pZa,pZb,pZc,pZd]
       refine takeHL (i:=18) (v:=?_) rfl (by kernel_rfl) (fun _ _ _ h=>h) (Or.inl ⟨by rfl,?hy40⟩) (by assumption) ?hr40
       case hy40=>intro w hSw;(try dsimp only at hSw);(try obtain⟨hc0,hc1,hc2,hc3,hc4,hc5,hc6,hc7⟩:=hSw);(try obtain⟨hc0,hc1,hc2,hc3,hc4,hc5⟩:=hSw);go_simp;try (with_reducible rfl)
       case hr40=>
       try simp only [pZa,pZb,pZc,pZd]
       refine wpAnyH_done (by kernel_rfl) ?_ _
       go_wp2_with fail
       go_roundw
       case rel=>exact⟨1,hlt,by go_num,HN2,HQ3,HB3⟩
       case measure=>simp [Go.RowKit.intOf]<;>omega
      ·obtain⟨k,rfl⟩:∃ k,i=k+1:=⟨i-1,by omega⟩
       obtain⟨b9,off9,he9,-,y0,-,-,-,-,-⟩:=HX.out.six k (by omega)
       injection he9 with he9
       injection he9 with he1 he2 _
       subst he1 he2
       have y0:=(HB2.out.cell (p:=⟨b,_,none⟩) hb).trans y0
       have HBB:=hZ (show b<(wr.alloc (.cells (obA p.1 p.2.1 p.2.2) 27)).drew.heap.size from Nat.lt_of_lt_of_le hb HB2.out.size)
       have HS2:=hZ (show stR ps (k+1)=decide ((ps.getD k default).1.1<p.1.1) by rw [HS.out];simp)
       clear HS
       obtain⟨pn,hpn⟩:∃ x,x=(ps.getD k default).1.1:=⟨_,rfl⟩
       rw [← hpn] at y0 HS2
       clear hpn
       have hz:((k+1:Nat):Int)>0:=by omega
       have hk1:((k+1:Nat):Int)-1=(k:Int):=by omega
       have hw:IntKind.i64.wrap (((k+1:Nat):Int)-1)=(k:Int):=by rw [IntWalk.i64_in _ (by omega)];omega
       have hw2:IntKind.i64.wrap (k:Int)=(k:Int):=IntWalk.i64_in _ (by omega)
       have hkl:(k:Int)<(ps.length:Int):=by omega
       by_cases hlt2:pn<p.1.1
       ·have hl2:(pn:Int)<(p.1.1:Int):=Int.ofNat_lt.2 hlt2
        have HN2:=hZ (show rowsR ps (k+1+1)=true by rw [HN.out,HT.out,HS2.out];simp [hlt2])
        clear HS2 HN HU HT
        refine wp_region_held_drew (S:=fun w'=>w'.cell? ⟨w.heap.size,0,none⟩=some (.slice (some ⟨b,off,none⟩) ps.length c)∧w'.cell? ⟨b,off+k*6,none⟩=some (.int .u64 (pn:Nat))∧w'.cell? ⟨wr.heap.size,0,none⟩=some (.int .u64 (p.1.1:Nat))∧w'.cell? ⟨wr.heap.size,1,none⟩=some (.int .i64 p.1.2.1.1)∧w'.cell? ⟨wr.heap.size,2,none⟩=some (.int .i64 p.1.2.1.2.1)∧w'.cell? ⟨wr.heap.size,3,none⟩=some (.int .i64 p.1.2.1.2.2.1)∧w'.cell? ⟨wr.heap.size,4,none⟩=some (.slice p.2.1 p.1.2.1.2.2.2.length p.2.2)∧w'.cell? ⟨wr.heap.size,5,none⟩=some (.int .i64 p.1.2.2)) (by kernel_rfl) ?hS41 (fun hHeld=>?hR41)
        case hS41=>exact⟨q0,y0,g0,g1,g2,g3,g4,g5⟩
        case hR41=>
        refine takeHL (i:=0) (v:=?_) rfl (by kernel_rfl) (fun _ _ _ h=>h) (Or.inl ⟨by rfl,?hy42⟩) (by assumption) ?hr42
        case hy42=>intro w hSw;(try dsimp only at hSw);(try obtain⟨hc0,hc1,hc2,hc3,hc4,hc5,hc6,hc7⟩:=hSw);(try obtain⟨hc0,hc1,hc2,hc3,hc4,hc5⟩:=hSw);go_simp;try (with_reducible rfl)
        case hr42=>
        try simp only [pZa,pZb,pZc,pZd]
        refine callHL (i:=1) rfl (by kernel_rfl) (fun K hK=>?_)
        go_simp
        refine (HR.out _ (OkD.drew HO2.out)).mono ?_
        rintro f43 y1 ⟨rfl,hb⟩
        have HB3:=hZ (chain HB2.out.drew hb)
        have HQ3:=hZ (HQ2.out.drew.keep hb)
        have G3:=hZ (G.out.drew.keep hb)
        obtain⟨g0,g1,g2,g3,g4,g5⟩:=G3.out.sixO
        have q0:=HQ3.out.cell 0
        have z0:=(hb.cell (p:=⟨b,off+k*6,none⟩) HBB.out).trans y0
        clear hb
        clear hHeld
        refine hK.out _ _ ⟨q0,z0,g0,g1,g2,g3,g4,g5⟩ (fun hHeld=>?_)
        clear hK K
        try simp only [pZa,pZb,pZc,pZd]
        refine takeHL (i:=2) (v:=?_) rfl (by kernel_rfl) (fun _ _ _ h=>h) (Or.inl ⟨by rfl,?hy44⟩) (by assumption) ?hr44
        case hy44=>intro w hSw;(try dsimp only at hSw);(try obtain⟨hc0,hc1,hc2,hc3,hc4,hc5,hc6,hc7⟩:=hSw);(try obtain⟨hc0,hc1,hc2,hc3,hc4,hc5⟩:=hSw);go_simp;try (with_reducible rfl)
        case hr44=>
        try simp only [pZa,pZb,pZc,pZd]
        refine takeHL (i:=3) (v:=?_) rfl (by kernel_rfl) (fun _ _ _ h=>h) (Or.inl ⟨by rfl,?hy45⟩) (by assumption) ?hr45
        case hy45=>intro w hSw;(try dsimp only at hSw);(try obtain⟨hc0,hc1,hc2,hc3,hc4,hc5,hc6,hc7⟩:=hSw);(try obtain⟨hc0,hc1,hc2,hc3,hc4,hc5⟩:=hSw);go_simp;try (with_reducible rfl)
        case hr45=>
        try simp only [pZa,pZb,pZc,pZd]
        refine takeHL (i:=4) (v:=?_) rfl (by kernel_rfl) (fun _ _ _ h=>h) (Or.inl ⟨by rfl,?hy46⟩) (by assumption) ?hr46
        case hy46=>intro w hSw;(try dsimp only at hSw);(try obtain⟨hc0,hc1,hc2,hc3,hc4,hc5,hc6,hc7⟩:=hSw);(try obtain⟨hc0,hc1,hc2,hc3,hc4,hc5⟩:=hSw);go_simp;try (with_reducible rfl)
        case hr46=>
        try simp only [pZa,pZb,pZc,pZd]
        refine takeHL (i:=5) (v:=?_) rfl (by kernel_rfl) (fun _ _ _ h=>h) (Or.inl ⟨by rfl,?hy47⟩) (by assumption) ?hr47
        case hy47=>intro w hSw;(try dsimp only at hSw);(try obtain⟨hc0,hc1,hc2,hc3,hc4,hc5,hc6,hc7⟩:=hSw);(try obtain⟨hc0,hc1,hc2,hc3,hc4,hc5⟩:=hSw);go_simp;try (with_reducible rfl)
        case hr47=>
        try simp only [pZa,pZb,pZc,pZd]
        refine takeHL (i:=6) (v:=?_) rfl (by kernel_rfl) (fun _ _ _ h=>h) (Or.inl ⟨by rfl,?hy48⟩) (by assumption) ?hr48
        case hy48=>intro w hSw;(try dsimp only at hSw);(try obtain⟨hc0,hc1,hc2,hc3,hc4,hc5,hc6,hc7⟩:=hSw);(try obtain⟨hc0,hc1,hc2,hc3,hc4,hc5⟩:=hSw);go_simp;try (with_reducible rfl)
        case hr48=>
        try simp only [pZa,pZb,pZc,pZd]
        refine takeHL (i:=7) (v:=?_) rfl (by kernel_rfl) (fun _ _ _ h=>h) (Or.inl ⟨by rfl,?hy49⟩) (by assumption) ?hr49
        case hy49=>intro w hSw;(try dsimp only at hSw);(try obtain⟨hc0,hc1,hc2,hc3,hc4,hc5,hc6,hc7⟩:=hSw);(try obtain⟨hc0,hc1,hc2,hc3,hc4,hc5⟩:=hSw);go_simp;try (with_reducible rfl)
        case hr49=>
        try simp only [pZa,pZb,pZc,pZd]
        refine takeHL (i:=8) (v:=?_) rfl (by kernel_rfl) (fun _ _ _ h=>h) (Or.inl ⟨by rfl,?hy50⟩) (by assumption) ?hr50
        case hy50=>intro w hSw;(try dsimp only at hSw);(try obtain⟨hc0,hc1,hc2,hc3,hc4,hc5,hc6,hc7⟩:=hSw);(try obtain⟨hc0,hc1,hc2,hc3,hc4,hc5⟩:=hSw);go_simp;try (with_reducible rfl)
        case hr50=>
        try simp only [pZa,pZb,pZc,pZd]
        refine takeHL (i:=9) (v:=?_) rfl (by kernel_rfl) (fun _ _ _ h=>h) (Or.inl ⟨by rfl,?hy51⟩) (by assumption) ?hr51
        case hy51=>intro w hSw;(try dsimp only at hSw);(try obtain⟨hc0,hc1,hc2,hc3,hc4,hc5,hc6,hc7⟩:=hSw);(try obtain⟨hc0,hc1,hc2,hc3,hc4,hc5⟩:=hSw);go_simp;try (with_reducible rfl)
        case hr51=>
        try simp only [pZa,pZb,pZc,pZd]
        refine takeHL (i:=10) (v:=?_) rfl (by kernel_rfl) (fun _ _ _ h=>h) (Or.inl ⟨by rfl,?hy52⟩) (by assumption) ?hr52
        case hy52=>intro w hSw;(try dsimp only at hSw);(try obtain⟨hc0,hc1,hc2,hc3,hc4,hc5,hc6,hc7⟩:=hSw);(try obtain⟨hc0,hc1,hc2,hc3,hc4,hc5⟩:=hSw);go_simp;try (with_reducible rfl)
        case hr52=>
        try simp only [pZa,pZb,pZc,pZd]
        refine takeHL (i:=11) (v:=?_) rfl (by kernel_rfl) (fun _ _ _ h=>h) (Or.inl ⟨by rfl,?hy53⟩) (by assumption) ?hr53
        case hy53=>intro w hSw;(try dsimp only at hSw);(try obtain⟨hc0,hc1,hc2,hc3,hc4,hc5,hc6,hc7⟩:=hSw);(try obtain⟨hc0,hc1,hc2,hc3,hc4,hc5⟩:=hSw);go_simp;try (with_reducible rfl)
        case hr53=>
        try simp only [pZa,pZb,pZc,pZd]
        refine takeHL (i:=12) (v:=?_) rfl (by kernel_rfl) (fun _ _ _ h=>h) (Or.inl ⟨by rfl,?hy54⟩) (by assumption) ?hr54
        case hy54=>intro w hSw;(try dsimp only at hSw);(try obtain⟨hc0,hc1,hc2,hc3,hc4,hc5,hc6,hc7⟩:=hSw);(try obtain⟨hc0,hc1,hc2,hc3,hc4,hc5⟩:=hSw);go_simp;try (with_reducible rfl)
        case hr54=>
        try simp only [pZa,pZb,pZc,pZd]
        refine takeHL (i:=13) (v:=?_) rfl (by kernel_rfl) (fun _ _ _ h=>h) (Or.inl ⟨by rfl,?hy55⟩) (by assumption) ?hr55
        case hy55=>intro w hSw;(try dsimp only at hSw);(try obtain⟨hc0,hc1,hc2,hc3,hc4,hc5,hc6,hc7⟩:=hSw);(try obtain⟨hc0,hc1,hc2,hc3,hc4,hc5⟩:=hSw);go_simp;try (with_reducible rfl)
        case hr55=>
        try simp only [pZa,pZb,pZc,pZd]
        refine takeHL (i:=14) (v:=?_) rfl (by kernel_rfl) (fun _ _ _ h=>h) (Or.inl ⟨by rfl,?hy56⟩) (by assumption) ?hr56
        case hy56=>intro w hSw;(try dsimp only at hSw);(try obtain⟨hc0,hc1,hc2,hc3,hc4,hc5,hc6,hc7⟩:=hSw);(try obtain⟨hc0,hc1,hc2,hc3,hc4,hc5⟩:=hSw);go_simp;try (with_reducible rfl)
        case hr56=>
        try simp only [pZa,pZb,pZc,pZd]
        refine takeHL (i:=15) (v:=?_) rfl (by kernel_rfl) (fun _ _ _ h=>h) (Or.inl ⟨by rfl,?hy57⟩) (by assumption) ?hr57
        case hy57=>intro w hSw;(try dsimp only at hSw);(try obtain⟨hc0,hc1,hc2,hc3,hc4,hc5,hc6,hc7⟩:=hSw);(try obtain⟨hc0,hc1,hc2,hc3,hc4,hc5⟩:=hSw);go_simp;try (with_reducible rfl)
        case hr57=>
        try simp only [pZa,pZb,pZc,pZd]
        refine takeHL (i:=16) (v:=?_) rfl (by kernel_rfl) (fun _ _ _ h=>h) (Or.inl ⟨by rfl,?hy58⟩) (by assumption) ?hr58
        case hy58=>intro w hSw;(try dsimp only at hSw);(try obtain⟨hc0,hc1,hc2,hc3,hc4,hc5,hc6,hc7⟩:=hSw);(try obtain⟨hc0,hc1,hc2,hc3,hc4,hc5⟩:=hSw);go_simp;try (with_reducible rfl)
        case hr58=>
        try simp only [pZa,pZb,pZc,pZd]
        refine takeHL (i:=17) (v:=?_) rfl (by kernel_rfl) (fun _ _ _ h=>h) (Or.inl ⟨by rfl,?hy59⟩) (by assumption) ?hr59
        case hy59=>intro w hSw;(try dsimp only at hSw);(try obtain⟨hc0,hc1,hc2,hc3,hc4,hc5,hc6,hc7⟩:=hSw);(try obtain⟨hc0,hc1,hc2,hc3,hc4,hc5⟩:=hSw);go_simp;try (with_reducible rfl)
        case hr59=>
        try simp only [pZa,pZb,pZc,pZd]
        refine takeHL (i:=18) (v:=?_) rfl (by kernel_rfl) (fun _ _ _ h=>h) (Or.inl ⟨by rfl,?hy60⟩) (by assumption) ?hr60
        case hy60=>intro w hSw;(try dsimp only at hSw);(try obtain⟨hc0,hc1,hc2,hc3,hc4,hc5,hc6,hc7⟩:=hSw);(try obtain⟨hc0,hc1,hc2,hc3,hc4,hc5⟩:=hSw);go_simp;try (with_reducible rfl)
        case hr60=>
        try simp only [pZa,pZb,pZc,pZd]
        refine wpAnyH_done (by kernel_rfl) ?_ _
        go_wp2_with fail
        go_roundw
        case rel=>exact⟨k+1+1,hlt,by go_num,HN2,HQ3,HB3⟩
        case measure=>simp [Go.RowKit.intOf]<;>omega
       ·have hl2:¬ (pn:Int)<(p.1.1:Int):=by omega
        have hl3:(p.1.1:Int)≤(pn:Int):=by omega
        have HE:=hZ (HU.out (by rw [HS2.out];simp [hlt2]))
        clear HS2 HN HU HT
        refine wp_region_held_drew (S:=fun w'=>w'.cell? ⟨w.heap.size,0,none⟩=some (.slice (some ⟨b,off,none⟩) ps.length c)∧w'.cell? ⟨b,off+k*6,none⟩=some (.int .u64 (pn:Nat))∧w'.cell? ⟨wr.heap.size,0,none⟩=some (.int .u64 (p.1.1:Nat))∧w'.cell? ⟨wr.heap.size,1,none⟩=some (.int .i64 p.1.2.1.1)∧w'.cell? ⟨wr.heap.size,2,none⟩=some (.int .i64 p.1.2.1.2.1)∧w'.cell? ⟨wr.heap.size,3,none⟩=some (.int .i64 p.1.2.1.2.2.1)∧w'.cell? ⟨wr.heap.size,4,none⟩=some (.slice p.2.1 p.1.2.1.2.2.2.length p.2.2)∧w'.cell? ⟨wr.heap.size,5,none⟩=some (.int .i64 p.1.2.2)) (by kernel_rfl) ?hS61 (fun hHeld=>?hR61)
        case hS61=>exact⟨q0,y0,g0,g1,g2,g3,g4,g5⟩
        case hR61=>
        refine takeHL (i:=0) (v:=?_) rfl (by kernel_rfl) (fun _ _ _ h=>h) (Or.inl ⟨by rfl,?hy62⟩) (by assumption) ?hr62
        case hy62=>intro w hSw;(try dsimp only at hSw);(try obtain⟨hc0,hc1,hc2,hc3,hc4,hc5,hc6,hc7⟩:=hSw);(try obtain⟨hc0,hc1,hc2,hc3,hc4,hc5⟩:=hSw);go_simp;try (with_reducible rfl)
        case hr62=>
        try simp only [pZa,pZb,pZc,pZd]
        refine callHL (i:=1) rfl (by kernel_rfl) (fun K hK=>?_)
        go_simp
        refine (HR.out _ (OkD.drew HO2.out)).mono ?_
        rintro f63 y1 ⟨rfl,hb⟩
        have HB3:=hZ (chain HB2.out.drew hb)
        have HQ3:=hZ (HQ2.out.drew.keep hb)
        have G3:=hZ (G.out.drew.keep hb)
        obtain⟨g0,g1,g2,g3,g4,g5⟩:=G3.out.sixO
        have q0:=HQ3.out.cell 0
        have z0:=(hb.cell (p:=⟨b,off+k*6,none⟩) HBB.out).trans y0
        clear hb
        clear hHeld
        refine hK.out _ _ ⟨q0,z0,g0,g1,g2,g3,g4,g5⟩ (fun hHeld=>?_)
        clear hK K
        try simp only [pZa,pZb,pZc,pZd]
        refine takeHL (i:=2) (v:=?_) rfl (by kernel_rfl) (fun _ _ _ h=>h) (Or.inl ⟨by rfl,?hy64⟩) (by assumption) ?hr64
        case hy64=>intro w hSw;(try dsimp only at hSw);(try obtain⟨hc0,hc1,hc2,hc3,hc4,hc5,hc6,hc7⟩:=hSw);(try obtain⟨hc0,hc1,hc2,hc3,hc4,hc5⟩:=hSw);go_simp;try (with_reducible rfl)
        case hr64=>
        try simp only [pZa,pZb,pZc,pZd]
        refine takeHL (i:=3) (v:=?_) rfl (by kernel_rfl) (fun _ _ _ h=>h) (Or.inl ⟨by rfl,?hy65⟩) (by assumption) ?hr65
        case hy65=>intro w hSw;(try dsimp only at hSw);(try obtain⟨hc0,hc1,hc2,hc3,hc4,hc5,hc6,hc7⟩:=hSw);(try obtain⟨hc0,hc1,hc2,hc3,hc4,hc5⟩:=hSw);go_simp;try (with_reducible rfl)
        case hr65=>
        try simp only [pZa,pZb,pZc,pZd]
        refine takeHL (i:=4) (v:=?_) rfl (by kernel_rfl) (fun _ _ _ h=>h) (Or.inl ⟨by rfl,?hy66⟩) (by assumption) ?hr66
        case hy66=>intro w hSw;(try dsimp only at hSw);(try obtain⟨hc0,hc1,hc2,hc3,hc4,hc5,hc6,hc7⟩:=hSw);(try obtain⟨hc0,hc1,hc2,hc3,hc4,hc5⟩:=hSw);go_simp;try (with_reducible rfl)
        case hr66=>
        try simp only [pZa,pZb,pZc,pZd]
        refine takeHL (i:=5) (v:=?_) rfl (by kernel_rfl) (fun _ _ _ h=>h) (Or.inl ⟨by rfl,?hy67⟩) (by assumption) ?hr67
        case hy67=>intro w hSw;(try dsimp only at hSw);(try obtain⟨hc0,hc1,hc2,hc3,hc4,hc5,hc6,hc7⟩:=hSw);(try obtain⟨hc0,hc1,hc2,hc3,hc4,hc5⟩:=hSw);go_simp;try (with_reducible rfl)
        case hr67=>
        try simp only [pZa,pZb,pZc,pZd]
        refine takeHL (i:=6) (v:=?_) rfl (by kernel_rfl) (fun _ _ _ h=>h) (Or.inl ⟨by rfl,?hy68⟩) (by assumption) ?hr68
        case hy68=>intro w hSw;(try dsimp only at hSw);(try obtain⟨hc0,hc1,hc2,hc3,hc4,hc5,hc6,hc7⟩:=hSw);(try obtain⟨hc0,hc1,hc2,hc3,hc4,hc5⟩:=hSw);go_simp;try (with_reducible rfl)
        case hr68=>
        try simp only [pZa,pZb,pZc,pZd]
        refine takeHL (i:=7) (v:=?_) rfl (by kernel_rfl) (fun _ _ _ h=>h) (Or.inl ⟨by rfl,?hy69⟩) (by assumption) ?hr69
        case hy69=>intro w hSw;(try dsimp only at hSw);(try obtain⟨hc0,hc1,hc2,hc3,hc4,hc5,hc6,hc7⟩:=hSw);(try obtain⟨hc0,hc1,hc2,hc3,hc4,hc5⟩:=hSw);go_simp;try (with_reducible rfl)
        case hr69=>
        try simp only [pZa,pZb,pZc,pZd]
        refine takeHL (i:=8) (v:=?_) rfl (by kernel_rfl) (fun _ _ _ h=>h) (Or.inl ⟨by rfl,?hy70⟩) (by assumption) ?hr70
        case hy70=>intro w hSw;(try dsimp only at hSw);(try obtain⟨hc0,hc1,hc2,hc3,hc4,hc5,hc6,hc7⟩:=hSw);(try obtain⟨hc0,hc1,hc2,hc3,hc4,hc5⟩:=hSw);go_simp;try (with_reducible rfl)
        case hr70=>
        try simp only [pZa,pZb,pZc,pZd]
        refine takeHL (i:=9) (v:=?_) rfl (by kernel_rfl) (fun _ _ _ h=>h) (Or.inl ⟨by rfl,?hy71⟩) (by assumption) ?hr71
        case hy71=>intro w hSw;(try dsimp only at hSw);(try obtain⟨hc0,hc1,hc2,hc3,hc4,hc5,hc6,hc7⟩:=hSw);(try obtain⟨hc0,hc1,hc2,hc3,hc4,hc5⟩:=hSw);go_simp;try (with_reducible rfl)
        case hr71=>
        try simp only [pZa,pZb,pZc,pZd]
        refine takeHL (i:=10) (v:=?_) rfl (by kernel_rfl) (fun _ _ _ h=>h) (Or.inl ⟨by rfl,?hy72⟩) (by assumption) ?hr72
        case hy72=>intro w hSw;(try dsimp only at hSw);(try obtain⟨hc0,hc1,hc2,hc3,hc4,hc5,hc6,hc7⟩:=hSw);(try obtain⟨hc0,hc1,hc2,hc3,hc4,hc5⟩:=hSw);go_simp;try (with_reducible rfl)
        case hr72=>
        try simp only [pZa,pZb,pZc,pZd]
        refine takeHL (i:=11) (v:=?_) rfl (by kernel_rfl) (fun _ _ _ h=>h) (Or.inl ⟨by rfl,?hy73⟩) (by assumption) ?hr73
        case hy73=>intro w hSw;(try dsimp only at hSw);(try obtain⟨hc0,hc1,hc2,hc3,hc4,hc5,hc6,hc7⟩:=hSw);(try obtain⟨hc0,hc1,hc2,hc3,hc4,hc5⟩:=hSw);go_simp;try (with_reducible rfl)
        case hr73=>
        try simp only [pZa,pZb,pZc,pZd]
        refine takeHL (i:=12) (v:=?_) rfl (by kernel_rfl) (fun _ _ _ h=>h) (Or.inl ⟨by rfl,?hy74⟩) (by assumption) ?hr74
        case hy74=>intro w hSw;(try dsimp only at hSw);(try obtain⟨hc0,hc1,hc2,hc3,hc4,hc5,hc6,hc7⟩:=hSw);(try obtain⟨hc0,hc1,hc2,hc3,hc4,hc5⟩:=hSw);go_simp;try (with_reducible rfl)
        case hr74=>
        try simp only [pZa,pZb,pZc,pZd]
        refine takeHL (i:=13) (v:=?_) rfl (by kernel_rfl) (fun _ _ _ h=>h) (Or.inl ⟨by rfl,?hy75⟩) (by assumption) ?hr75
        case hy75=>intro w hSw;(try dsimp only at hSw);(try obtain⟨hc0,hc1,hc2,hc3,hc4,hc5,hc6,hc7⟩:=hSw);(try obtain⟨hc0,hc1,hc2,hc3,hc4,hc5⟩:=hSw);go_simp;try (with_reducible rfl)
        case hr75=>
        try simp only [pZa,pZb,pZc,pZd]
        refine takeHL (i:=14) (v:=?_) rfl (by kernel_rfl) (fun _ _ _ h=>h) (Or.inl ⟨by rfl,?hy76⟩) (by assumption) ?hr76
        case hy76=>intro w hSw;(try dsimp only at hSw);(try obtain⟨hc0,hc1,hc2,hc3,hc4,hc5,hc6,hc7⟩:=hSw);(try obtain⟨hc0,hc1,hc2,hc3,hc4,hc5⟩:=hSw);go_simp;try (with_reducible rfl)
        case hr76=>
        try simp only [pZa,pZb,pZc,pZd]
        refine takeHL (i:=15) (v:=?_) rfl (by kernel_rfl) (fun _ _ _ h=>h) (Or.inl ⟨by rfl,?hy77⟩) (by assumption) ?hr77
        case hy77=>intro w hSw;(try dsimp only at hSw);(try obtain⟨hc0,hc1,hc2,hc3,hc4,hc5,hc6,hc7⟩:=hSw);(try obtain⟨hc0,hc1,hc2,hc3,hc4,hc5⟩:=hSw);go_simp;try (with_reducible rfl)
        case hr77=>
        try simp only [pZa,pZb,pZc,pZd]
        refine takeHL (i:=16) (v:=?_) rfl (by kernel_rfl) (fun _ _ _ h=>h) (Or.inl ⟨by rfl,?hy78⟩) (by assumption) ?hr78
        case hy78=>intro w hSw;(try dsimp only at hSw);(try obtain⟨hc0,hc1,hc2,hc3,hc4,hc5,hc6,hc7⟩:=hSw);(try obtain⟨hc0,hc1,hc2,hc3,hc4,hc5⟩:=hSw);go_simp;try (with_reducible rfl)
        case hr78=>
        try simp only [pZa,pZb,pZc,pZd]
        refine takeHL (i:=17) (v:=?_) rfl (by kernel_rfl) (fun _ _ _ h=>h) (Or.inl ⟨by rfl,?hy79⟩) (by assumption) ?hr79
        case hy79=>intro w hSw;(try dsimp only at hSw);(try obtain⟨hc0,hc1,hc2,hc3,hc4,hc5,hc6,hc7⟩:=hSw);(try obtain⟨hc0,hc1,hc2,hc3,hc4,hc5⟩:=hSw);go_simp;try (with_reducible rfl)
        case hr79=>
        try simp only [pZa,pZb,pZc,pZd]
        refine takeHL (i:=18) (v:=?_) rfl (by kernel_rfl) (fun _ _ _ h=>h) (Or.inl ⟨by rfl,?hy80⟩) (by assumption) ?hr80
        case hy80=>intro w hSw;(try dsimp only at hSw);(try obtain⟨hc0,hc1,hc2,hc3,hc4,hc5,hc6,hc7⟩:=hSw);(try obtain⟨hc0,hc1,hc2,hc3,hc4,hc5⟩:=hSw);go_simp;try (with_reducible rfl)
        case hr80=>
        try simp only [pZa,pZb,pZc,pZd]
        refine wpAnyH_done (by kernel_rfl) ?_ _
        go_wp2_with fail
        go_ret
        exact⟨by simp [rightR,HE.out],HB3.out⟩
   ·obtain rfl:i=ps.length:=Nat.le_antisymm hi (Nat.le_of_not_lt hlt)
    have hlt':¬ (ps.length:Int)<(ps.length:Int):=Int.lt_irrefl _
    have HE:=HT
    clear HT
    have q0:=HQ.out.cell 0
    by_cases h8:ps.length≤8
    ·have h9:(ps.length:Int)≤8:=by omega
     go_wp2_with fail
     go_ret
     exact⟨by simp [rightR,HE.out,h8],HB.out⟩
    ·have h9:¬ (ps.length:Int)≤8:=by omega
     go_wp2_with fail
     go_ret
     exact⟨by simp [rightR,h8],HB.out⟩
end
section
/- Layer 19: when two are the same: both sides. -/
open Go.RowKit Go.Lib
set_option maxRecDepth 100000
def eqsR (ps qs:List RawO) (m:Nat):Bool:=(List.range m).all fun i=>likeO (ps.getD i default).1 (qs.getD i default).1
def sameR (ps qs:List RawO):Bool:=decide (ps.length=qs.length)&&eqsR ps qs ps.length
theorem eqsR_snoc (ps qs:List RawO) (k:Nat):eqsR ps qs (k+1)=(eqsR ps qs k&&likeO (ps.getD k default).1 (qs.getD k default).1):=allR_snoc _ k
theorem eqsR_no (ps qs:List RawO) (m k:Nat) (h:k<m) (hp:likeO (ps.getD k default).1 (qs.getD k default).1=false):eqsR ps qs m=false:=allR_no _ m k h hp
set_option maxHeartbeats 1000000 in
theorem rcsame_any (va vb:Value) (ps qs:List RawO) (w:World) (ha:RcAt w va ps) (hb:RcAt w vb qs):Calls Tryz.prog 18 #[va,vb] w fun e w'=>e=.returned (.bool (sameR ps qs))∧Below w.heap.size w w':=by
 obtain⟨A,c,rfl,hs,hx,hd⟩:=ha
 obtain⟨B,c2,rfl,hs2,hx2,hd2⟩:=hb
 have hmx:=Nat.le_trans hs.1 hs.2.1
 unfold maxLen at hmx
 have HX:=hZ hx
 have HD:=hZ hd
 have HX2:=hZ hx2
 have HD2:=hZ hd2
 clear hx hd hx2 hd2
 have b1:=(Below.refl w.heap.size w).alloc (Nat.le_refl _) (.cells #[.slice A ps.length c] 48)
 have W1:=hZ (b1.alloc b1.size (.cells #[.slice B qs.length c2] 48))
 have Q:=hZ ((Box.new w 48 #[.slice A ps.length c]).alloc (.cells #[.slice B qs.length c2] 48))
 have R0:=Box.new (w.alloc (.cells #[.slice A ps.length c] 48)) 48 #[.slice B qs.length c2]
 simp only [World.size_alloc] at R0
 have R:=hZ R0
 clear R0 b1
 have r0:=Q.out.cell 0
 have s0:=R.out.cell 0
 by_cases hl:ps.length=qs.length
 ·have HL:=hZ hl
  rw [hl] at hs HX Q W1 R r0 s0 hmx ⊢
  clear hl
  go_enter Tryz.func18,Tryz.ntmps18
  go_wp2_with fail
  clear r0 s0
  go_loopw [16] (fun t wr=>∃ i:Nat,i≤qs.length∧t=.int .i64 (i:Int)∧Hid (eqsR ps qs i=true)∧Hid (Box wr w.heap.size 48 #[.slice A qs.length c])∧Hid (Box wr (w.heap.size+1) 48 #[.slice B qs.length c2])∧Hid (Below w.heap.size w wr)) (fun t _=>qs.length-(Go.RowKit.intOf t).toNat)
  case atStart=>exact⟨0,Nat.zero_le _,rfl,hZ rfl,Q,R,W1⟩
  case round=>
   obtain⟨i,hi,rfl,HT,HQ,HR,HB⟩:=hrel
   have r0:=HQ.out.cell 0
   have s0:=HR.out.cell 0
   by_cases hlt:i<qs.length
   ·have hlt':(i:Int)<(qs.length:Int):=Int.ofNat_lt.2 hlt
    obtain⟨b,off,rfl,hb,x0,x1,x2,x3,x4,x5⟩:=(HX.out.six i hlt)
    obtain⟨b2,off2,rfl,hb2,y0,y1,y2,y3,y4,y5⟩:=(HX2.out.six i hlt)
    have HN:=hZ (eqsR_snoc ps qs i)
    have HU:=hZ (eqsR_no ps qs qs.length i hlt)
    have HO:=hZ ((HD.out i).below (HB.out.mono (Nat.le_refl _)))
    have HP:=hZ ((HD2.out i).below (HB.out.mono (Nat.le_refl _)))
    have x0:=(HB.out.cell (p:=⟨b,_,none⟩) hb).trans x0
    have y0:=(HB.out.cell (p:=⟨b2,_,none⟩) hb2).trans y0
    have x1:=(HB.out.cell (p:=⟨b,_,none⟩) hb).trans x1
    have y1:=(HB.out.cell (p:=⟨b2,_,none⟩) hb2).trans y1
    have x2:=(HB.out.cell (p:=⟨b,_,none⟩) hb).trans x2
    have y2:=(HB.out.cell (p:=⟨b2,_,none⟩) hb2).trans y2
    have x3:=(HB.out.cell (p:=⟨b,_,none⟩) hb).trans x3
    have y3:=(HB.out.cell (p:=⟨b2,_,none⟩) hb2).trans y3
    have x4:=(HB.out.cell (p:=⟨b,_,none⟩) hb).trans x4
    have y4:=(HB.out.cell (p:=⟨b2,_,none⟩) hb2).trans y4
    have x5:=(HB.out.cell (p:=⟨b,_,none⟩) hb).trans x5
    have y5:=(HB.out.cell (p:=⟨b2,_,none⟩) hb2).trans y5
    obtain⟨p,hp⟩:∃ y,y=ps.getD i default:=⟨_,rfl⟩
    obtain⟨q,hq⟩:∃ y,y=qs.getD i default:=⟨_,rfl⟩
    rw [← hp] at HO x0 x1 x2 x3 x4 x5 HN HU
    rw [← hq] at HP y0 y1 y2 y3 y4 y5 HN HU
    clear hp hq
    have HBB:=hZ (show b<wr.drew.heap.size from Nat.lt_of_lt_of_le hb HB.out.size)
    have HBC:=hZ (show b2<wr.drew.heap.size from Nat.lt_of_lt_of_le hb2 HB.out.size)
    have HC:=hZ (fun wy (h:OkD wy p) (h2:OkD wy q)=>osame_any _ p.1 _ q.1 wy h.at h2.at)
    cases hr:likeO p.1 q.1 with
    | false=>
      rw [hr] at HC
      have HE:=hZ (HU.out hr)
      clear HN HU HT hr
      go_wp2_with fail
      go_region_held3 (fun (w':World)=>w'.cell? ⟨w.heap.size,0,none⟩=some (.slice (some ⟨b,off,none⟩) qs.length c)∧w'.cell? ⟨w.heap.size+1,0,none⟩=some (.slice (some ⟨b2,off2,none⟩) qs.length c2)∧w'.cell? ⟨b,off+i*6,none⟩=some (.int .u64 (p.1.1:Nat))∧w'.cell? ⟨b,off+i*6+1,none⟩=some (.int .i64 p.1.2.1.1)∧w'.cell? ⟨b,off+i*6+2,none⟩=some (.int .i64 p.1.2.1.2.1)∧w'.cell? ⟨b,off+i*6+3,none⟩=some (.int .i64 p.1.2.1.2.2.1)∧w'.cell? ⟨b,off+i*6+4,none⟩=some (.slice p.2.1 p.1.2.1.2.2.2.length p.2.2)∧w'.cell? ⟨b,off+i*6+5,none⟩=some (.int .i64 p.1.2.2)∧w'.cell? ⟨b2,off2+i*6,none⟩=some (.int .u64 (q.1.1:Nat))∧w'.cell? ⟨b2,off2+i*6+1,none⟩=some (.int .i64 q.1.2.1.1)∧w'.cell? ⟨b2,off2+i*6+2,none⟩=some (.int .i64 q.1.2.1.2.1)∧w'.cell? ⟨b2,off2+i*6+3,none⟩=some (.int .i64 q.1.2.1.2.2.1)∧w'.cell? ⟨b2,off2+i*6+4,none⟩=some (.slice q.2.1 q.1.2.1.2.2.2.length q.2.2)∧w'.cell? ⟨b2,off2+i*6+5,none⟩=some (.int .i64 q.1.2.2)) (go_keep) (first
      | (go_at_call 12;((with_reducible refine (HC.out _ HO.out.drew HP.out.drew).mono ?_);rintro e w1 ⟨rfl,hb1⟩;have HB2:=hZ (chain HB.out.drew hb1);have HQ2:=hZ (HQ.out.drew.keep hb1);have HR2:=hZ (HR.out.drew.keep hb1);have r1:=HQ2.out.cell 0;have s1:=HR2.out.cell 0;have u0:=(hb1.cell (p:=⟨b,_,none⟩) HBB.out).trans x0;have v0:=(hb1.cell (p:=⟨b2,_,none⟩) HBC.out).trans y0;have u1:=(hb1.cell (p:=⟨b,_,none⟩) HBB.out).trans x1;have v1:=(hb1.cell (p:=⟨b2,_,none⟩) HBC.out).trans y1;have u2:=(hb1.cell (p:=⟨b,_,none⟩) HBB.out).trans x2;have v2:=(hb1.cell (p:=⟨b2,_,none⟩) HBC.out).trans y2;have u3:=(hb1.cell (p:=⟨b,_,none⟩) HBB.out).trans x3;have v3:=(hb1.cell (p:=⟨b2,_,none⟩) HBC.out).trans y3;have u4:=(hb1.cell (p:=⟨b,_,none⟩) HBB.out).trans x4;have v4:=(hb1.cell (p:=⟨b2,_,none⟩) HBC.out).trans y4;have u5:=(hb1.cell (p:=⟨b,_,none⟩) HBB.out).trans x5;have v5:=(hb1.cell (p:=⟨b2,_,none⟩) HBC.out).trans y5;clear hb1)))
      all_goals
       go_wp2_with fail
       go_ret
       exact⟨by simp [sameR,HL.out,HE.out],HB2.out⟩
    | true=>
      rw [hr] at HC
      have HN2:=hZ (show eqsR ps qs (i+1)=true by rw [HN.out,HT.out,hr];rfl)
      clear HN HU HT hr
      go_wp2_with fail
      go_region_held3 (fun (w':World)=>w'.cell? ⟨w.heap.size,0,none⟩=some (.slice (some ⟨b,off,none⟩) qs.length c)∧w'.cell? ⟨w.heap.size+1,0,none⟩=some (.slice (some ⟨b2,off2,none⟩) qs.length c2)∧w'.cell? ⟨b,off+i*6,none⟩=some (.int .u64 (p.1.1:Nat))∧w'.cell? ⟨b,off+i*6+1,none⟩=some (.int .i64 p.1.2.1.1)∧w'.cell? ⟨b,off+i*6+2,none⟩=some (.int .i64 p.1.2.1.2.1)∧w'.cell? ⟨b,off+i*6+3,none⟩=some (.int .i64 p.1.2.1.2.2.1)∧w'.cell? ⟨b,off+i*6+4,none⟩=some (.slice p.2.1 p.1.2.1.2.2.2.length p.2.2)∧w'.cell? ⟨b,off+i*6+5,none⟩=some (.int .i64 p.1.2.2)∧w'.cell? ⟨b2,off2+i*6,none⟩=some (.int .u64 (q.1.1:Nat))∧w'.cell? ⟨b2,off2+i*6+1,none⟩=some (.int .i64 q.1.2.1.1)∧w'.cell? ⟨b2,off2+i*6+2,none⟩=some (.int .i64 q.1.2.1.2.1)∧w'.cell? ⟨b2,off2+i*6+3,none⟩=some (.int .i64 q.1.2.1.2.2.1)∧w'.cell? ⟨b2,off2+i*6+4,none⟩=some (.slice q.2.1 q.1.2.1.2.2.2.length q.2.2)∧w'.cell? ⟨b2,off2+i*6+5,none⟩=some (.int .i64 q.1.2.2)) (go_keep) (first
      | (go_at_call 12;((with_reducible refine (HC.out _ HO.out.drew HP.out.drew).mono ?_);rintro e w1 ⟨rfl,hb1⟩;have HB2:=hZ (chain HB.out.drew hb1);have HQ2:=hZ (HQ.out.drew.keep hb1);have HR2:=hZ (HR.out.drew.keep hb1);have r1:=HQ2.out.cell 0;have s1:=HR2.out.cell 0;have u0:=(hb1.cell (p:=⟨b,_,none⟩) HBB.out).trans x0;have v0:=(hb1.cell (p:=⟨b2,_,none⟩) HBC.out).trans y0;have u1:=(hb1.cell (p:=⟨b,_,none⟩) HBB.out).trans x1;have v1:=(hb1.cell (p:=⟨b2,_,none⟩) HBC.out).trans y1;have u2:=(hb1.cell (p:=⟨b,_,none⟩) HBB.out).trans x2;have v2:=(hb1.cell (p:=⟨b2,_,none⟩) HBC.out).trans y2;have u3:=(hb1.cell (p:=⟨b,_,none⟩) HBB.out).trans x3;have v3:=(hb1.cell (p:=⟨b2,_,none⟩) HBC.out).trans y3;have u4:=(hb1.cell (p:=⟨b,_,none⟩) HBB.out).trans x4;have v4:=(hb1.cell (p:=⟨b2,_,none⟩) HBC.out).trans y4;have u5:=(hb1.cell (p:=⟨b,_,none⟩) HBB.out).trans x5;have v5:=(hb1.cell (p:=⟨b2,_,none⟩) HBC.out).trans y5;clear hb1)))
      all_goals
       go_wp2_with fail
       go_roundw
       case rel=>exact⟨i+1,hlt,by go_num,HN2,HQ2,HR2,HB2⟩
       case measure=>simp [Go.RowKit.intOf]<;>omega
   ·obtain rfl:i=qs.length:=Nat.le_antisymm hi (Nat.le_of_not_lt hlt)
    have hlt':¬ (qs.length:Int)<(qs.length:Int):=Int.lt_irrefl _
    have HE:=HT
    clear HT
    go_wp2_with fail
    go_ret
    exact⟨by simp [sameR,HL.out,HE.out],HB.out⟩
 ·have hl2:¬ (ps.length:Int)=(qs.length:Int):=by omega
  go_enter Tryz.func18,Tryz.ntmps18
  go_wp2_with fail
  go_ret
  exact⟨by simp [sameR,hl],W1.out⟩
end
section
/- Layer 19: the reference's At. -/
open Go.RowKit Go.Lib
set_option maxRecDepth 100000
def posR (ps:List RawO) (id:Nat):Nat:=ps.findIdx fun p=>p.1.1==id
def atR (ps:List RawO) (id:Nat):Int:=if posR ps id<ps.length then (posR ps id:Int) else -1
theorem posR_at {ps:List RawO} {id i:Nat} (hi:i<ps.length) (h:(ps.getD i default).1.1=id) (hn:∀ j,j<i→(ps.getD j default).1.1≠id):posR ps id=i:=by
 unfold posR
 rw [List.findIdx_eq hi]
 refine⟨?_,fun j hj=>?_⟩
 ·simpa [List.getD,hi] using h
 ·have:=hn j hj
  simpa [List.getD,show j<ps.length by omega] using this
theorem posR_no {ps:List RawO} {id:Nat} (hn:∀ j,j<ps.length→(ps.getD j default).1.1≠id):posR ps id=ps.length:=by
 unfold posR
 rw [List.findIdx_eq_length]
 intro x hx
 obtain⟨j,hj,rfl⟩:=List.mem_iff_getElem.1 hx
 have:=hn j hj
 simpa [List.getD,hj] using this
set_option maxHeartbeats 1000000 in
theorem rcat_any (v:Value) (ps:List RawO) (id:Nat) (w:World) (h:RcAt w v ps):Calls Tryz.prog 26 #[v,.int .u64 (id:Int)] w fun e w'=>e=.returned (.int .i64 (atR ps id))∧Below w.heap.size w w':=by
 obtain⟨A,c,rfl,hs,hx,hd⟩:=h
 have hmx:=Nat.le_trans hs.1 hs.2.1
 unfold maxLen at hmx
 have HX:=hZ hx
 clear hx hd
 have W1:=hZ ((Below.refl w.heap.size w).alloc (Nat.le_refl _) (.cells #[.slice A ps.length c] 48))
 have Q:=hZ (Box.new w 48 #[.slice A ps.length c])
 have r0:=Q.out.cell 0
 go_enter Tryz.func26,Tryz.ntmps26
 go_wp2_with fail
 clear r0
 go_loopw [10] (fun t wr=>∃ i:Nat,i≤ps.length∧t=.int .i64 (i:Int)∧Hid (∀ j,j<i→(ps.getD j default).1.1≠id)∧Hid (Below w.heap.size w wr)) (fun t _=>ps.length-(Go.RowKit.intOf t).toNat)
 case atStart=>exact⟨0,Nat.zero_le _,rfl,hZ (fun j h=>by omega),W1⟩
 case round=>
  obtain⟨i,hi,rfl,HT,HB⟩:=hrel
  by_cases hlt:i<ps.length
  ·have hlt':(i:Int)<(ps.length:Int):=Int.ofNat_lt.2 hlt
   obtain⟨b,off,rfl,hb,x0,x1,x2,x3,x4,x5⟩:=(HX.out.six i hlt)
   have HF:=hZ (fun (h:(ps.getD i default).1.1=id)=>posR_at hlt h HT.out)
   have HG:=hZ (show ¬ (ps.getD i default).1.1=id→∀ j,j<i+1→(ps.getD j default).1.1≠id from fun h j hj=>by
    by_cases e:j=i
    ·rw [e];exact h
    ·exact HT.out j (by omega))
   obtain⟨p,hp⟩:∃ y,y=ps.getD i default:=⟨_,rfl⟩
   rw [← hp] at x0 x1 x2 x3 x4 x5 HF HG
   clear hp HT
   have x0:=(HB.out.cell (p:=⟨b,_,none⟩) hb).trans x0
   have x1:=(HB.out.cell (p:=⟨b,_,none⟩) hb).trans x1
   have x2:=(HB.out.cell (p:=⟨b,_,none⟩) hb).trans x2
   have x3:=(HB.out.cell (p:=⟨b,_,none⟩) hb).trans x3
   have x4:=(HB.out.cell (p:=⟨b,_,none⟩) hb).trans x4
   have x5:=(HB.out.cell (p:=⟨b,_,none⟩) hb).trans x5
   have G:=hZ (Box.new wr 27 (obA p.1 p.2.1 p.2.2))
   have HB1:=hZ (HB.out.alloc HB.out.size (.cells (obA p.1 p.2.1 p.2.2) 27))
   obtain⟨g0,g1,g2,g3,g4,g5⟩:=G.out.sixO
   by_cases hid:p.1.1=id
   ·have HE:=hZ (show atR ps id=(i:Int) by unfold atR;rw [HF.out hid,if_pos hlt])
    have t0:((p.1.1:Int)==(id:Int))=true:=by simp [hid]
    clear HF HG hid
    go_wp2_with fail
    go_ret
    exact⟨by rw [HE.out];rfl,HB1.out⟩
   ·have t0:((p.1.1:Int)==(id:Int))=false:=by simp;omega
    have HG2:=hZ (HG.out hid)
    clear HF HG
    have hid2:¬ (p.1.1:Int)=(id:Int):=by omega
    go_wp2_with fail
    go_roundw
    case rel=>exact⟨i+1,hlt,by go_num,HG2,HB1⟩
    case measure=>simp [Go.RowKit.intOf]<;>omega
  ·obtain rfl:i=ps.length:=Nat.le_antisymm hi (Nat.le_of_not_lt hlt)
   have hlt':¬ (ps.length:Int)<(ps.length:Int):=Int.lt_irrefl _
   have HE:=hZ (show atR ps id=-1 by unfold atR;rw [posR_no HT.out,if_neg (Nat.lt_irrefl _)])
   clear HT
   go_wp2_with fail
   go_ret
   exact⟨by rw [HE.out];rfl,HB.out⟩
end
section
/- Layer 19: the comparison of numbers; objects rise. -/
open Go.RowKit Go.Lib
set_option maxRecDepth 100000
def cmpJ (x y:Int):Int:=if x<y then -1 else if y<x then 1 else 0
theorem cmpJ_lt (x y:Int):cmpJ x y<0↔x<y:=by unfold cmpJ;split<;>(try split)<;>constructor<;>intro h<;>omega
theorem cmpJ_zero (x y:Int):cmpJ x y=0↔x=y:=by unfold cmpJ;split<;>(try split)<;>constructor<;>intro h<;>omega
set_option maxHeartbeats 1000000 in
theorem cmpU19_any (x y:Nat) (w:World):Calls Tryz.prog 68 #[.int .u64 (x:Int),.int .u64 (y:Int)] w fun e w'=>e=.returned (.int .i64 (cmpJ x y))∧w=w':=by
 have tx:((x:Int) != x)=false:=by simp
 have ty:((y:Int) != y)=false:=by simp
 go_enter Tryz.func68,Tryz.ntmps68
 by_cases h1:(x:Int)<y
 ·have HE:=hZ (show cmpJ x y=-1 from if_pos h1)
  go_wp2
  go_ret
  exact⟨by rw [HE.out];rfl,rfl⟩
 ·by_cases h2:(y:Int)<x
  ·have HE:=hZ (show cmpJ x y=1 by unfold cmpJ;rw [if_neg h1,if_pos h2])
   go_wp2
   go_ret
   exact⟨by rw [HE.out];rfl,rfl⟩
  ·have HE:=hZ (show cmpJ x y=0 by unfold cmpJ;rw [if_neg h1,if_neg h2])
   go_wp2
   go_ret
   exact⟨by rw [HE.out];rfl,rfl⟩
set_option maxHeartbeats 1000000 in
theorem place1_any (p:RawO) (id:Nat) (w:World):Calls Tryz.prog 67 #[.agg (obA p.1 p.2.1 p.2.2),.int .u64 (id:Int)] w fun e w'=>e=.returned (.int .i64 (cmpJ (p.1.1:Int) (id:Int)))∧Below w.heap.size w w':=by
 have W1:=hZ ((Below.refl w.heap.size w).alloc (Nat.le_refl _) (.cells (obA p.1 p.2.1 p.2.2) 27))
 have Q:=hZ (Box.new w 27 (obA p.1 p.2.1 p.2.2))
 have HC:=hZ (fun w=>cmpU19_any p.1.1 id w)
 obtain⟨g0,g1,g2,g3,g4,g5⟩:=Q.out.sixO
 go_enter Tryz.func67,Tryz.ntmps67
 go_wp2_with fail
 refine (HC.out _).mono ?_
 rintro e w1 ⟨rfl,rfl⟩
 go_wp2_with fail
 go_ret
 exact⟨rfl,W1.out⟩
def RiseR (ps:List RawO):Prop:=∀ i j,i<j→j<ps.length→(ps.getD i default).1.1<(ps.getD j default).1.1
theorem rise_of_right {ps:List RawO} (h:rightR ps=true):RiseR ps:=by
 unfold rightR rowsR at h
 rw [Bool.and_eq_true,List.all_eq_true] at h
 have hs:∀ j,j+1<ps.length→(ps.getD j default).1.1<(ps.getD (j+1) default).1.1:=fun j hj=>by
  have h9:=h.2 (j+1) (List.mem_range.2 hj)
  unfold stR at h9
  rw [Bool.and_eq_true,Bool.or_eq_true,decide_eq_true_eq,decide_eq_true_eq] at h9
  rcases h9.2 with e | e
  ·omega
  ·simpa using e
 intro i j hij
 induction j with
 | zero=>omega
 | succ j ih=>
   intro hj
   by_cases e:i=j
   ·rw [e];exact hs j hj
   ·exact Nat.lt_trans (ih (by omega) (by omega)) (hs j hj)
def PlaceR (ps:List RawO) (id i:Nat):Prop:=i≤ps.length∧(∀ k,k<i→(ps.getD k default).1.1<id)∧∀ k,i≤k→k<ps.length→id≤(ps.getD k default).1.1
def isR (ps:List RawO) (id:Nat):Bool:=decide (posR ps id<ps.length)
theorem place_is {ps:List RawO} {id i:Nat} (h:PlaceR ps id i) (hp:RiseR ps):isR ps id=(decide (i<ps.length)&&decide ((ps.getD i default).1.1=id)):=by
 unfold isR
 by_cases h1:i<ps.length∧(ps.getD i default).1.1=id
 ·rw [posR_at h1.1 h1.2 (fun j hj e=>by have:=h.2.1 j hj;omega)]
  rw [decide_eq_true h1.1,decide_eq_true h1.2];rfl
 ·have hn:∀ j,j<ps.length→(ps.getD j default).1.1≠id:=fun j hj e=>by
   rcases Nat.lt_trichotomy j i with q | q | q
   ·have:=h.2.1 j q;omega
   ·subst q;exact h1 ⟨hj,e⟩
   ·have:=hp i j q hj
    have:=h.2.2 i (Nat.le_refl _) (by omega)
    omega
  rw [posR_no hn]
  by_cases h2:i<ps.length
  ·have h3:¬ (ps.getD i default).1.1=id:=fun e=>h1 ⟨h2,e⟩
   simp only [h3,decide_false,Bool.and_false,Nat.lt_irrefl]
  ·simp [h2]
theorem place_pos {ps:List RawO} {id i:Nat} (h:PlaceR ps id i) (hp:RiseR ps) (hi:isR ps id=true):posR ps id=i:=by
 rw [place_is h hp,Bool.and_eq_true,decide_eq_true_eq,decide_eq_true_eq] at hi
 exact posR_at hi.1 hi.2 (fun j hj e=>by have:=h.2.1 j hj;omega)
end
section
/- Layer 19: slices.BinarySearchFunc at objects; place. -/
open Go.RowKit Go.Lib
set_option maxRecDepth 100000
def FindR (ps:List RawO) (id:Nat) (w:World) (e:Ending) (w':World):Prop:=∃ i:Nat,e=.returned (.tuple #[.int .i64 (i:Int),.bool (isR ps id)])∧PlaceR ps id i∧Below w.heap.size w w'
set_option maxHeartbeats 4000000 in
theorem findR_any (A:Option Addr) (c:Nat) (ps:List RawO) (id:Nat) (w:World) (hx:Raws w A ps.length ps) (hl:ps.length≤8) (hp:RiseR ps) :
  Calls Tryz.prog 66 #[.slice A ps.length c,.int .u64 (id:Int),.func (.func 67) #[] #[]] w (FindR ps id w):=by
 have HX:=hZ hx
 have HP:=hZ hp
 have HC:=hZ (fun p wy=>place1_any p id wy)
 have eg:∀ args w,(callFunc 67 args).run Tryz.prog w=.ok (.enter 67 args) w:=enters_of Tryz.func67 (by kernel_rfl) rfl
 have HPl:=hZ (fun i (h:PlaceR ps id i)=>place_is h hp)
 clear hx hp
 go_enter Tryz.func66,Tryz.ntmps66
 go_wp2_with fail
 go_loopw [9,10] (fun s t wr=>∃ i j:Nat,i≤j∧j≤ps.length∧s=.int .i64 (i:Int)∧t=.int .i64 (j:Int)∧Hid (∀ k,k<i→(ps.getD k default).1.1<id)∧Hid (∀ k,j≤k→k<ps.length→id≤(ps.getD k default).1.1)∧Hid (Below w.heap.size w wr)) (fun s t _=>(Go.RowKit.intOf t).toNat-(Go.RowKit.intOf s).toNat)
 case atStart=>exact⟨0,ps.length,Nat.zero_le _,Nat.le_refl _,rfl,rfl,hZ (fun k h=>absurd h (by omega)),hZ (fun k h1 h2=>absurd h1 (by omega)),hZ (Below.refl _ _)⟩
 case round=>
  obtain⟨i,j,hij,hj,rfl,rfl,HL,HR,HB⟩:=hrel
  by_cases hlt:i<j
  ·have hlt':(i:Int)<(j:Int):=by omega
   have hw1:IntKind.i64.wrap ((i:Int)+(j:Int))=((i+j:Nat):Int):=by rw [IntWalk.i64_in _ (by omega)];push_cast;rfl
   have hw2:IntKind.u64.wrap ((i+j:Nat):Int)=((i+j:Nat):Int):=by rw [IntKind.wrap_u64];omega
   have hw3:((i+j:Nat):Int) / 2=((((i+j) / 2:Nat)):Int):=by omega
   have hw4:IntKind.i64.wrap (((i+j) / 2:Nat):Int)=(((i+j) / 2:Nat):Int):=by rw [IntWalk.i64_in _ (by omega)]
   obtain⟨s,hs⟩:∃ s,s=i+j:=⟨_,rfl⟩
   rw [← hs] at hw1 hw2 hw3 hw4
   obtain⟨h,hh⟩:∃ h,h=s / 2:=⟨_,rfl⟩
   rw [← hh] at hw3 hw4
   have h1:i≤h:=by omega
   have h2:h<j:=by omega
   clear hs hh
   have hhl:(h:Int)<(ps.length:Int):=by omega
   have hh0:(0:Int)≤(h:Int):=by omega
   obtain⟨b,off,rfl,hb,x0,x1,x2,x3,x4,x5⟩:=(HX.out.six h (by omega))
   have x0:=(HB.out.cell (p:=⟨b,_,none⟩) hb).trans x0
   have x1:=(HB.out.cell (p:=⟨b,_,none⟩) hb).trans x1
   have x2:=(HB.out.cell (p:=⟨b,_,none⟩) hb).trans x2
   have x3:=(HB.out.cell (p:=⟨b,_,none⟩) hb).trans x3
   have x4:=(HB.out.cell (p:=⟨b,_,none⟩) hb).trans x4
   have x5:=(HB.out.cell (p:=⟨b,_,none⟩) hb).trans x5
   have HLr:=hZ (show (ps.getD h default).1.1<id→∀ k,k<h+1→(ps.getD k default).1.1<id from fun hv k hk=>by
    by_cases e:k=h
    ·rw [e];exact hv
    ·exact Nat.lt_trans (HP.out k h (by omega) (by omega)) hv)
   have HRr:=hZ (show ¬ (ps.getD h default).1.1<id→∀ k,h≤k→k<ps.length→id≤(ps.getD k default).1.1 from fun hv k hk hk2=>by
    by_cases e:k=h
    ·rw [e];omega
    ·have:=HP.out h k (by omega) hk2
     omega)
   obtain⟨p,hp⟩:∃ y,y=ps.getD h default:=⟨_,rfl⟩
   rw [← hp] at x0 x1 x2 x3 x4 x5 HLr HRr
   clear hp
   have HCq:=hZ (HC.out p wr)
   by_cases hv:p.1.1<id
   ·have hc:cmpJ (p.1.1:Int) (id:Int)<0:=(cmpJ_lt _ _).2 (by omega)
    have HL2:=hZ (HLr.out hv)
    generalize cmpJ (p.1.1:Int) (id:Int)=cc at *
    clear hv HL HLr HRr
    go_wp2_with fail
    refine HCq.out.mono ?_
    rintro e w7 ⟨rfl,hb7⟩
    have HB7:=hZ (chain HB.out hb7)
    clear hb7 x0 x1 x2 x3 x4 x5
    go_wp2_with fail
    go_roundw
    case rel=>exact⟨h+1,j,by omega,hj,by go_num,rfl,HL2,HR,HB7⟩
    case measure=>simp [Go.RowKit.intOf]<;>omega
   ·have hc:¬ cmpJ (p.1.1:Int) (id:Int)<0:=fun h=>by have:=(cmpJ_lt _ _).1 h;omega
    have HR2:=hZ (HRr.out hv)
    generalize cmpJ (p.1.1:Int) (id:Int)=cc at *
    clear hv HR HLr HRr
    go_wp2_with fail
    refine HCq.out.mono ?_
    rintro e w7 ⟨rfl,hb7⟩
    have HB7:=hZ (chain HB.out hb7)
    clear hb7 x0 x1 x2 x3 x4 x5
    go_wp2_with fail
    go_roundw
    case rel=>exact⟨i,h,by omega,by omega,rfl,rfl,HL,HR2,HB7⟩
    case measure=>simp [Go.RowKit.intOf]<;>omega
  ·obtain rfl:i=j:=by omega
   have hlt':¬ (i:Int)<(i:Int):=Int.lt_irrefl _
   have HPc:=hZ (show PlaceR ps id i from ⟨hj,HL.out,HR.out⟩)
   have HHs:=hZ (HPl.out i HPc.out)
   by_cases hil:i<ps.length
   ·have hil':(i:Int)<(ps.length:Int):=by omega
    have hi0:(0:Int)≤(i:Int):=by omega
    obtain⟨b,off,rfl,hb,x0,x1,x2,x3,x4,x5⟩:=(HX.out.six i hil)
    have x0:=(HB.out.cell (p:=⟨b,_,none⟩) hb).trans x0
    have x1:=(HB.out.cell (p:=⟨b,_,none⟩) hb).trans x1
    have x2:=(HB.out.cell (p:=⟨b,_,none⟩) hb).trans x2
    have x3:=(HB.out.cell (p:=⟨b,_,none⟩) hb).trans x3
    have x4:=(HB.out.cell (p:=⟨b,_,none⟩) hb).trans x4
    have x5:=(HB.out.cell (p:=⟨b,_,none⟩) hb).trans x5
    obtain⟨p,hp⟩:∃ y,y=ps.getD i default:=⟨_,rfl⟩
    rw [← hp] at x0 x1 x2 x3 x4 x5 HHs
    clear hp
    have HCq:=hZ (HC.out p wr)
    by_cases hv:p.1.1=id
    ·have hc:(cmpJ (p.1.1:Int) (id:Int)==0)=true:=by rw [(cmpJ_zero _ _).2 (by omega)];rfl
     have HF:=hZ (show isR ps id=true from HHs.out.trans (by rw [decide_eq_true hil,decide_eq_true hv];rfl))
     generalize cmpJ (p.1.1:Int) (id:Int)=cc at *
     clear hv
     go_wp2_with fail
     refine HCq.out.mono ?_
     rintro e w7 ⟨rfl,hb7⟩
     have HB7:=hZ (chain HB.out hb7)
     clear hb7 x0 x1 x2 x3 x4 x5
     go_wp2_with fail
     go_ret2
     exact⟨i,by rw [HF.out];rfl,HPc.out,HB7.out⟩
    ·have hc:(cmpJ (p.1.1:Int) (id:Int)==0)=false:=by
      rw [beq_eq_false_iff_ne]
      exact fun h=>hv (by have:=(cmpJ_zero _ _).1 h;omega)
     have HF:=hZ (show isR ps id=false from HHs.out.trans (by rw [decide_eq_false hv,Bool.and_false]))
     generalize cmpJ (p.1.1:Int) (id:Int)=cc at *
     clear hv
     go_wp2_with fail
     refine HCq.out.mono ?_
     rintro e w7 ⟨rfl,hb7⟩
     have HB7:=hZ (chain HB.out hb7)
     clear hb7 x0 x1 x2 x3 x4 x5
     go_wp2_with fail
     go_ret2
     exact⟨i,by rw [HF.out];rfl,HPc.out,HB7.out⟩
   ·obtain rfl:i=ps.length:=by omega
    have HF:=hZ (show isR ps id=false from HHs.out.trans (by simp))
    have hil':¬ (ps.length:Int)<(ps.length:Int):=Int.lt_irrefl _
    go_wp2_with fail
    go_ret2
    exact⟨ps.length,by rw [HF.out];rfl,HPc.out,HB.out⟩
set_option maxHeartbeats 1000000 in
theorem rplace_any (v:Value) (ps:List RawO) (id:Nat) (w:World) (h:RcAt w v ps) (hl:ps.length≤8) (hp:RiseR ps):Calls Tryz.prog 38 #[v,.int .u64 (id:Int)] w (FindR ps id w):=by
 obtain⟨A,c,rfl,hs,hx,hd⟩:=h
 have b1:=(Below.refl w.heap.size w).alloc (Nat.le_refl _) (.cells #[.slice A ps.length c] 48)
 have W1:=hZ b1
 have HC:=hZ (findR_any A c ps id _ (Recs.below hx b1) hl hp)
 have Q:=hZ (Box.new w 48 #[.slice A ps.length c])
 clear b1 hs hx hd
 have r0:=Q.out.cell 0
 go_enter Tryz.func38,Tryz.ntmps38
 go_wp2_with fail
 refine HC.out.mono ?_
 rintro e w1 ⟨i,rfl,hpl,hb1⟩
 have HB3:=hZ (chain W1.out hb1)
 clear hb1
 go_wp2_with fail
 go_ret2
 exact⟨i,rfl,hpl,HB3.out⟩
end
section
/- Layer 19: slices.Clone at objects. -/
open Go.RowKit Go.Lib
set_option maxRecDepth 100000
theorem obj19_info:(Tryz.prog.info? 27).map (fun i=>(i.zero,i.size,i.bytes))=some (some (.agg #[.int .u64 0,.int .i64 0,.int .i64 0,.int .i64 0,.slice none 0 0,.int .i64 0]),6,64):=by kernel_rfl
theorem own_empty6 (w:World) (base e:Nat) (h:base≤w.heap.size):(w.alloc (.cells #[] e)).ownsRow base e 6 (.slice (some ⟨w.heap.size,0,none⟩) 0 0) 0 []:=own_of_box0 (Box.new w e #[]) h
theorem encRO_one (p:RawO):∀ u∈encRO p,u.oneCell'=true:=by intro u hu;simp [encRO] at hu;rcases hu with rfl | rfl | rfl | rfl | rfl | rfl<;>rfl
def CloneO (e size n:Nat) (news:List Value) (w:World) (en:Ending) (w':World):Prop:=∃ A c,en=.returned (.slice A n c)∧w'.ownsRow w.heap.size e size (.slice A n c) n news∧Below w.heap.size w w'
set_option maxHeartbeats 1000000 in
theorem clone_objs (A:Option Addr) (l cp:Nat) (news:List Value) (w:World) (hA:A=none→l=0∧cp=0) (hn:news.length=l*6) (hc:∀ ad,A=some ad→∀ j u,news[j]?=some u→w.cell? (ad.add j)=some u) (h1:∀ u∈news,u.oneCell'=true) (hl:l≤1000000) :
  Calls Tryz.prog 70 #[.slice A l cp] w (CloneO 27 6 l news w):=by
 cases A with
 | none=>
   obtain⟨rfl,rfl⟩:=hA rfl
   obtain rfl:news=[]:=List.eq_nil_of_length_eq_zero (by simpa using hn)
   have q22:∀ (w:World) (a:Option Addr) (n c n' c':Nat),(binOp .eql 46 (.slice a n c) (.slice none n' c')).run Tryz.prog w=.ok (.bool a.isNone) w:=fun w a n c n' c'=>Lib.run_eql_slice_nil w _ _ a n c n' c' Tryz.underlying46
   clear hA hn hc h1 hl
   go_enter Tryz.func70,Tryz.ntmps70
   go_wp2_with fail
   go_ret
   exact⟨none,0,rfl,World.ownsRow_nil _ _ _ _,Below.refl _ _⟩
 | some ad=>
   obtain⟨i0,hi,hz0,hz1,hz2⟩:=info_parts obj19_info
   have hb1:Below w.heap.size w (w.alloc (.cells #[] 27)):=(Below.refl _ _).alloc (Nat.le_refl _) _
   have ZO:=hZ (own_empty6 w w.heap.size 27 (Nat.le_refl _))
   have HI:=hZ hi
   have HZ0:=hZ hz0
   have HZ1:=hZ hz1
   have HZ2:=hZ hz2
   have HB:=hZ hb1
   have HN:=hZ hn
   have HO1:=hZ h1
   have NW:=hZ (show ∀ j u,news[j]?=some u→(w.alloc (.cells #[] 27)).cell? (ad.add j)=some u from fun j u hu=>by
    have h:=hc ad rfl j u hu
    exact (hb1.cell (block_lt_of_cell h)).trans h)
   clear hA hn hc h1 hi hz0 hz1 hz2 hb1
   have q22:∀ (w:World) (a:Option Addr) (n c n' c':Nat),(binOp .eql 46 (.slice a n c) (.slice none n' c')).run Tryz.prog w=.ok (.bool a.isNone) w:=fun w a n c n' c'=>Lib.run_eql_slice_nil w _ _ a n c n' c' Tryz.underlying46
   go_enter Tryz.func70,Tryz.ntmps70
   go_wp2_with (at_builtin;refine wpList_append_own _ rfl _ _ 46 rfl w.heap.size 27 i0 (.agg #[.int .u64 0,.int .i64 0,.int .i64 0,.int .i64 0,.slice none 0 0,.int .i64 0]) 6 64 Tryz.underlying46 HI.out HZ0.out HZ1.out HZ2.out rfl (by decide) _ _ _ rfl ZO.out ad l cp news rfl HN.out NW.out HO1.out (by simp [maxLen];omega) (by omega) HB.out.size ?_;intro v' w2 hown' hgrow hnil;have HC2:=hZ (HB.out.grown hgrow HB.out.size (fun g hg=>(ZO.out.lt g hg).1));have HO2:=hZ hown';clear hown' hgrow hnil)
   have HO3:=HO2.out
   rw [Nat.zero_add,List.nil_append] at HO3
   obtain⟨A',c',hv,-⟩:=own_form HO3
   subst hv
   go_ret
   exact⟨A',c',rfl,HO3,HC2.out⟩
end
section
/- Layer 19: an object stored into a list of one's own. -/
open Go.RowKit Go.Lib
set_option maxRecDepth 100000
abbrev set6W (w:World) (g i:Nat) (p:RawO):World:=(((((w.setCell ⟨g,i,none⟩ (.int .u64 (p.1.1:Nat))).setCell ⟨g,i+1,none⟩ (.int .i64 p.1.2.1.1)).setCell ⟨g,i+2,none⟩ (.int .i64 p.1.2.1.2.1)).setCell ⟨g,i+3,none⟩ (.int .i64 p.1.2.1.2.2.1)).setCell ⟨g,i+4,none⟩ (.slice p.2.1 p.1.2.1.2.2.2.length p.2.2)).setCell ⟨g,i+5,none⟩ (.int .i64 p.1.2.2)
theorem Raws.set6 {w:World} {g l i:Nat} {t:TypeId} {cs:Array Value} {ps:List RawO} (hx:Raws w (some ⟨g,0,none⟩) l ps) (hb:Box w g t cs) (hi:i<l) (hs:l*6≤cs.size) (p:RawO):Raws (set6W w g (i*6) p) (some ⟨g,0,none⟩) l (ps.set i p):=by
 have hq:=(((((hb.put (i*6) (.int .u64 (p.1.1:Nat))).put (i*6+1) (.int .i64 p.1.2.1.1)).put (i*6+2) (.int .i64 p.1.2.1.2.1)).put (i*6+3) (.int .i64 p.1.2.1.2.2.1)).put (i*6+4) (.slice p.2.1 p.1.2.1.2.2.2.length p.2.2)).put (i*6+5) (.int .i64 p.1.2.2)
 refine⟨by rw [List.length_set];exact hx.1,fun hp=>?_⟩
 obtain⟨b,off,he,hlt,hc⟩:=hx.2 hp
 injection he with he
 injection he with he1 he2 _
 subst he1 he2
 refine⟨g,0,rfl,hq.lt,fun j hj k v hv=>?_⟩
 have hk:k<6:=by have:=(List.getElem?_eq_some_iff.1 hv).1;rwa [encRO_len] at this
 rw [hq.cell]
 have hpl:=hx.1
 by_cases e:j=i
 ·subst e
  have e1:(ps.set j p).getD j default=p:=by simp [List.getD,show j<ps.length by omega]
  rw [e1] at hv
  have hz:∀ m,m<6→j*6+m<cs.size:=fun m hm=>by omega
  have h0:=hz 0 (by omega)
  have h1:=hz 1 (by omega)
  have h2:=hz 2 (by omega)
  have h3:=hz 3 (by omega)
  have h4:=hz 4 (by omega)
  have h5:=hz 5 (by omega)
  match k,hk with
  | 0,_=>simp [encRO] at hv;simp [Array.getElem?_setIfInBounds,← hv];omega
  | 1,_=>simp [encRO] at hv;simp [Array.getElem?_setIfInBounds,← hv];omega
  | 2,_=>simp [encRO] at hv;simp [Array.getElem?_setIfInBounds,← hv];omega
  | 3,_=>simp [encRO] at hv;simp [Array.getElem?_setIfInBounds,← hv];omega
  | 4,_=>simp [encRO] at hv;simp [Array.getElem?_setIfInBounds,← hv];omega
  | 5,_=>simp [encRO] at hv;simp [Array.getElem?_setIfInBounds,← hv];omega
 ·have e1:(ps.set i p).getD j default=ps.getD j default:=by simp [List.getD,List.getElem?_set,Ne.symm e]
  rw [e1] at hv
  have h9:=hc j hj k v hv
  rw [hb.cell] at h9
  rw [Array.getElem?_setIfInBounds_ne (by omega),Array.getElem?_setIfInBounds_ne (by omega),Array.getElem?_setIfInBounds_ne (by omega),Array.getElem?_setIfInBounds_ne (by omega),Array.getElem?_setIfInBounds_ne (by omega),Array.getElem?_setIfInBounds_ne (by omega)]
  exact h9
end
section
/- Layer 19: receiver.with at objects. -/
open Go.RowKit Go.Lib
set_option maxRecDepth 100000
def WithR (ps:List RawO) (w:World) (e:Ending) (w':World):Prop:=∃ A c,e=.returned (.slice A ps.length c)∧SliceOk A ps.length c∧Raws w' A ps.length ps∧Below w.heap.size w w'
set_option maxHeartbeats 1000000 in
theorem rwith_any (A:Option Addr) (c:Nat) (ps:List RawO) (i:Nat) (p:RawO) (w:World) (hs:SliceOk A ps.length c) (hx:Raws w A ps.length ps) (hl:ps.length≤8) (hi:i<ps.length) :
  Calls Tryz.prog 71 #[.slice A ps.length c,.int .i64 (i:Int),.agg (obA p.1 p.2.1 p.2.2)] w (WithR (ps.set i p) w):=by
 have b1:=(Below.refl w.heap.size w).alloc (Nat.le_refl _) (.cells (obA p.1 p.2.1 p.2.2) 27)
 have HB:=hZ b1
 have Q:=hZ (Box.new w 27 (obA p.1 p.2.1 p.2.2))
 have hx2:=Recs.below hx b1
 have HC:=hZ (clone_objs A ps.length c (ps.flatMap encRO) (w.alloc (.cells (obA p.1 p.2.1 p.2.2) 27)) (fun e=>⟨(hs.2.2 e).1,(hs.2.2 e).2⟩) (by rw [flat_len encRO_len]) (hx2.news encRO_len (by omega)) (fun u hu=>by obtain⟨q,-,hq⟩:=List.mem_flatMap.1 hu;exact encRO_one q u hq) (by omega))
 clear b1 hx hx2 hs
 go_enter Tryz.func71,Tryz.ntmps71
 go_wp2_with fail
 refine HC.out.mono ?_
 rintro e w1 ⟨A2,c2,rfl,hown,hb1⟩
 have HB1:=hZ (chain HB.out hb1)
 have Q1:=hZ (Q.out.keep hb1)
 have hr:=own_recs encRO_len hown (by omega)
 rcases hown.2 with ⟨_,hz⟩ |⟨g,cap,cur,hv,hg,hh,hn,hm,hsz,hxx⟩
 ·omega
 injection hv with hA _ hcap
 subst hA
 have hbx:Box w1 g 27 cur:=hh
 have HX:=hZ (Raws.set6 hr hbx hi (by omega) p)
 obtain⟨q0,q1,q2,q3,q4,q5⟩:=Q1.out.sixO
 obtain⟨b9,off9,he9,-,y0,y1,y2,y3,y4,y5⟩:=hr.six i hi
 injection he9 with he9
 injection he9 with he1 he2 _
 subst he1 he2
 rw [Nat.zero_add] at y0 y1 y2 y3 y4 y5
 have f0:=hbx.free (i*6)
 have f1:=hbx.free (i*6+1)
 have f2:=hbx.free (i*6+2)
 have f3:=hbx.free (i*6+3)
 have f4:=hbx.free (i*6+4)
 have f5:=hbx.free (i*6+5)
 have hg2:w.heap.size≤g:=by simp only [World.size_alloc] at hg;omega
 have HF:=hZ (show Below w.heap.size w (set6W w1 g (i*6) p) from (((((HB1.out.setCell (p:=⟨g,i*6,none⟩) hg2 _).setCell (p:=⟨g,i*6+1,none⟩) hg2 _).setCell (p:=⟨g,i*6+2,none⟩) hg2 _).setCell (p:=⟨g,i*6+3,none⟩) hg2 _).setCell (p:=⟨g,i*6+4,none⟩) hg2 _).setCell (p:=⟨g,i*6+5,none⟩) hg2 _)
 have HS:=hZ (show SliceOk (some (⟨g,0,none⟩:Addr)) ps.length c2 from ⟨by omega,by omega,fun h=>by cases h⟩)
 have hi1:(i:Int)<(ps.length:Int):=by omega
 have hi2:(0:Int)≤(i:Int):=by omega
 clear hb1 hown hr hh hxx hsz hn hm hg HB HC hcap hbx
 go_wp2_with fail
 go_ret
 exact⟨some ⟨g,0,none⟩,c2,by rw [List.length_set];rfl,by rw [List.length_set];exact HS.out,by rw [List.length_set];exact HX.out,HF.out⟩
end
section
/- The law of HTail where several stores of the head write what earlier loads have read: each thing that is held is held till the store with its number has come (a number past the end: to the head's end). No program. -/
section
variable {P:Program} {ops:Array Oper} {Q:Exit→Act→World→Prop} {md:Region.Mode} {Ss:List (Nat×(World→Prop))}
def heldK:List (Nat×(World→Prop))→Array Bool→World→Prop
 | [],_,_=>True
 | (k,S)::l,listed,w=>(listed.getD k false=false→S w)∧heldK l listed w
theorem heldK_set {listed:Array Bool} {w:World} {i:Nat} : ∀ {l:List (Nat×(World→Prop))},(l.all fun p=>decide (i≠p.1))=true→(heldK l (listed.setIfInBounds i true) w↔heldK l listed w)
 | [],_=>Iff.rfl
 | (k,S)::l,h=>by
   simp only [List.all_cons,Bool.and_eq_true,decide_eq_true_eq] at h
   unfold heldK;rw [getD_set_ne false h.1,heldK_set h.2]
theorem heldK_at {listed:Array Bool} {w:World} {p:Nat×(World→Prop)} : ∀ {l:List (Nat×(World→Prop))} {j:Nat},l[j]?=some p→heldK l listed w→listed.getD p.1 false=false→p.2 w
 | [],_,h,_,_=>by cases h
 | (k,S)::l,0,h,hh,hl=>by cases h;exact hh.1 hl
 | (k,S)::l,j+1,h,hh,hl=>heldK_at (l:=l) (j:=j) h hh.2 hl
def headK (P:Program) (md:Region.Mode) (ops:Array Oper) (Q:Exit→Act→World→Prop) (Ss:List (Nat×(World→Prop))) (m:Nat) (L:Array Bool→Act→World→Prop):Nat→Array Bool→Act→World→Prop
 | 0,listed,a,w=>L listed a w
 | f+1,listed,a,w=>Region.ready md ops listed≠[]∧∀ i∈Region.ready md ops listed,i<m∧wpOp P ops Q i (fun a' w'=>heldK Ss (listed.setIfInBounds i true) w'∧headK P md ops Q Ss m L f (listed.setIfInBounds i true) a' w') a w
theorem any_of_headK {m g:Nat} {L:Array Bool→Act→World→Prop} (hL:∀ listed a w,L listed a w→wpAny P md ops Q g listed a w) :
  ∀ (f:Nat) (listed:Array Bool) (a:Act) (w:World),headK P md ops Q Ss m L f listed a w→wpAny P md ops Q (f+g) listed a w
 | 0,listed,a,w,h=>by rw [Nat.zero_add];exact hL _ _ _ h
 | f+1,listed,a,w,h=>by
   rw [show f+1+g=(f+g)+1 by omega]
   exact⟨fun h0=>absurd h0 h.1,fun i hi=>wpOp_mono (fun a' w' h'=>any_of_headK hL f _ a' w' h'.2) (h.2 i hi).2⟩
theorem headK_first {m i:Nat} {oi:Oper} {v:Value} {L:Array Bool→Act→World→Prop} {T:World→Prop} (hi:ops[i]?=some oi) (hsel:∀ (j:Nat) (o:Oper) cs b,ops[j]?=some o→o.op≠.select cs b)
  (hik:(Ss.all fun p=>decide (i≠p.1))=true) (hT:∀ listed,HeadInv md ops m listed→listed.getD i true=false→∀ w,heldK Ss listed w→T w)
  (hw:∀ listed,HeadInv md ops m listed→∀ i,i<m→listed.getD i true=false→∀ t,m≤t→t ∉ Region.ready md ops listed) (him:i<m)
  (hQ:∀ c a w,Q (.panic c) (a.put oi.dst v) w→Q (.panic c) a w) (hdone:∀ listed a w,L listed a w→∀ j∈Region.ready md ops listed,m≤j) :
  ∀ (f:Nat) (listed:Array Bool) (a:Act) (w:World),HeadInv md ops m listed →
   (∀ j oj,ops[j]?=some oj→j≠i→listed.getD j true=false→(∀ e∈oj.after,Region.binds md e=true→e.on≠i)→oi.apart ops oj=true) →
   i∈Region.ready md ops listed→YieldsIf P ops T oi v a→heldK Ss listed w →
   headK P md ops Q Ss m L f (listed.setIfInBounds i true) (a.put oi.dst v) w→headK P md ops Q Ss m L (f+1) listed a w:=by
 intro f
 induction f with
 | zero=>
   intro listed a w inv _ hr hy hS H
   have hun:=(mem_ready.1 hr).1
   refine⟨fun h=>(by rw [h] at hr;cases hr),fun j hj=>?_⟩
   have hjm:j<m:=by
    rcases Nat.lt_or_ge j m with h | h
    ·exact h
    ·exact absurd hj (hw listed inv i him hun j h)
   refine⟨hjm,?_⟩
   by_cases hji:j=i
   ·subst hji;exact hy.wpOp hi (hT listed inv hun w hS) ⟨(heldK_set hik).2 hS,H⟩
   ·have:=hdone _ _ _ H j (ready_mono hj hji)
    omega
 | succ f ih=>
   intro listed a w inv hfree hr hy hS H
   have hun:=(mem_ready.1 hr).1
   refine⟨fun h=>(by rw [h] at hr;cases hr),fun j hj=>?_⟩
   have hjm:j<m:=by
    rcases Nat.lt_or_ge j m with h | h
    ·exact h
    ·exact absurd hj (hw listed inv i him hun j h)
   refine⟨hjm,?_⟩
   by_cases hji:j=i
   ·subst hji;exact hy.wpOp hi (hT listed inv hun w hS) ⟨(heldK_set hik).2 hS,H⟩
   ·have h1:=(H.2 j (ready_mono hj hji)).2
    obtain⟨hjun,oj,hoj,hall⟩:=mem_ready.1 hj
    have hnot:∀ e∈oj.after,Region.binds md e=true→e.on≠i:=fun e he hb heq=>by
     have h1:=hall e he hb
     rw [heq,getD_both hun] at h1
     cases h1
    have h2:=wpOp_putIf hoj (hfree j oj hoj hji hjun hnot) (fun cs b=>hsel i oi cs b hi) (fun cs b=>hsel j oj cs b hoj) hQ hy h1
    have hfree':∀ l ol,ops[l]?=some ol→l≠i→(listed.setIfInBounds j true).getD l true=false →
      (∀ e∈ol.after,Region.binds md e=true→e.on≠i)→oi.apart ops ol=true:=fun l ol hl hli hun hno=>by
     refine hfree l ol hl hli ?_ hno
     by_cases hjl:j=l
     ·subst hjl;exact hjun
     ·rw [getD_set_ne true hjl] at hun;exact hun
    refine wpOp_mono (fun a' w' h3=>?_) h2
    have h4:=h3.2.1
    rw [Array.setIfInBounds_comm _ _ (Ne.symm hji)] at h4
    have h5:=(heldK_set hik).1 h4
    refine⟨h5,ih (listed.setIfInBounds j true) a' w' (inv.set hj hjm) hfree' (ready_mono hr (Ne.symm hji)) h3.1 h5 ?_⟩
    rw [Array.setIfInBounds_comm _ _ hji]
    exact h3.2.2
def takeB (md:Region.Mode) (ops:Array Oper) (Ss:List Nat) (m i:Nat) (listed:Array Bool):Bool:=
 Region.noSelect ops&&barB md ops m&&decide (i<m)&&headB md ops m listed&&Region.free md ops listed i&&(Region.ready md ops listed).contains i&&(Ss.all fun k=>decide (i≠k))
theorem takeB_all {listed:Array Bool} {m i:Nat} (h:takeB md ops (Ss.map (·.1)) m i listed=true):Region.noSelect ops=true∧barB md ops m=true∧i<m∧headB md ops m listed=true∧Region.free md ops listed i=true∧(Region.ready md ops listed).contains i=true∧(Ss.all fun p=>decide (i≠p.1))=true:=by
 unfold takeB at h
 simp only [Bool.and_eq_true,decide_eq_true_eq,List.all_map,Function.comp_def] at h
 obtain⟨⟨⟨⟨⟨⟨h1,h2⟩,h5⟩,h6⟩,h7⟩,h8⟩,h9⟩:=h
 exact⟨h1,h2,h5,h6,h7,h8,h9⟩
theorem headK_take {m i:Nat} {oi:Oper} {v:Value} {f:Nat} {listed:Array Bool} {a:Act} {w:World} {L:Array Bool→Act→World→Prop} (hi:ops[i]?=some oi)
  (hall:takeB md ops (Ss.map (·.1)) m i listed=true)
  (hQ:∀ c a w,Q (.panic c) (a.put oi.dst v) w→Q (.panic c) a w) (hdone:∀ listed a w,L listed a w→∀ j∈Region.ready md ops listed,m≤j)
  (hy:YieldsIf P ops (fun _=>True) oi v a) (hS:heldK Ss listed w) (h:headK P md ops Q Ss m L f (listed.setIfInBounds i true) (a.put oi.dst v) w):headK P md ops Q Ss m L (f+1) listed a w:=by
 obtain⟨h1,h2,h5,h6,h7,h8,h9⟩:=takeB_all hall
 exact headK_first hi (Region.noSelect_spec h1) h9 (fun _ _ _ _ _=>trivial) (fun listed _ i him hun t ht=>bar_waits h2 listed i him hun t ht) h5 hQ hdone f listed a w (headB_inv h6) (Region.free_spec hi h7) (by simpa using h8) hy hS h
theorem headK_load {m i:Nat} {oi:Oper} {v:Value} {f:Nat} {listed:Array Bool} {a:Act} {w:World} {L:Array Bool→Act→World→Prop} (j k:Nat) (S:World→Prop) (hj:Ss[j]?=some (k,S)) (hi:ops[i]?=some oi)
  (hall:(takeB md ops (Ss.map (·.1)) m i listed&&(decide (ops.size≤k)||Region.waitsFor md ops k i))=true)
  (hQ:∀ c a w,Q (.panic c) (a.put oi.dst v) w→Q (.panic c) a w) (hdone:∀ listed a w,L listed a w→∀ j∈Region.ready md ops listed,m≤j)
  (hy:YieldsIf P ops S oi v a) (hS:heldK Ss listed w) (h:headK P md ops Q Ss m L f (listed.setIfInBounds i true) (a.put oi.dst v) w):headK P md ops Q Ss m L (f+1) listed a w:=by
 simp only [Bool.and_eq_true,Bool.or_eq_true,decide_eq_true_eq] at hall
 obtain⟨h1,h2,h5,h6,h7,h8,h9⟩:=takeB_all hall.1
 refine headK_first hi (Region.noSelect_spec h1) h9 (fun listed inv hun w hw=>heldK_at hj hw ?_) (fun listed _ i him hun t ht=>bar_waits h2 listed i him hun t ht) h5 hQ hdone f listed a w (headB_inv h6) (Region.free_spec hi h7) (by simpa using h8) hy hS h
 rcases hall.2 with hk | hk
 ·have hk2:listed.size≤k:=by rw [inv.size];exact hk
  show listed.getD k false=false
  simp [Array.getD_eq_getD_getElem?,Array.getElem?_eq_none hk2]
 ·obtain⟨ok,hok,e,he,hbd,hon⟩:=Region.waitsFor_spec hk
  show listed.getD k false=false
  cases hl:listed.getD k false with
  | false=>rfl
  | true=>
    have:=inv.closed k ok hok hl e he hbd
    rw [hon,getD_both hun] at this
    cases this
theorem headK_one {m i:Nat} {o:Oper} {f:Nat} {listed:Array Bool} {a:Act} {w:World} {L:Array Bool→Act→World→Prop} (hr:(Region.ready md ops listed==[i]&&decide (i<m))=true) (ho:ops[i]?=some o)
  (h:∀ K':Act→World→Prop,Shut (∀ a w,heldK Ss (listed.setIfInBounds i true) w→headK P md ops Q Ss m L f (listed.setIfInBounds i true) a w→K' a w)→if Region.wanted o (yielded ops a.tmps)=true then Oper.wp P o a w K' Q else K' (a.put o.dst undef) w):headK P md ops Q Ss m L (f+1) listed a w:=by
 simp only [Bool.and_eq_true,beq_iff_eq,decide_eq_true_eq] at hr
 refine⟨by rw [hr.1];simp,fun j hj=>?_⟩
 rw [hr.1] at hj
 have hji:j=i:=by simpa using hj
 subst hji
 exact⟨hr.2,wpOp_step ho (fun K' hK=>h K' (fun a w hS hW=>hK a w ⟨hS,hW⟩))⟩
theorem wp_heldK_bar {id:Nat} {a:Act} {w:World} {l:List Oper} (Ss:List (Nat×(World→Prop))) (m:Nat) (hmx:P.follows .mixedOrders=true) (hm:m≤l.length)
  (h:headK P .any l.toArray Q Ss m (fun listed a w=>passedB m listed=true∧wpAny P .any l.toArray Q (l.length-m) listed a w) m (Array.replicate l.toArray.size false) a w.drew):(Code.region id l.toArray true).wp P Q a w:=by
 refine wp_region_any hmx ?_
 have:=any_of_headK (g:=l.length-m) (fun listed a' w' hL=>hL.2) _ _ _ _ h
 rw [show m+(l.length-m)=l.toArray.size by simp;omega] at this
 exact this
end
end
section
/- Layer 18: few, Open of both sides, replies compared, alive. -/
open Go.RowKit Go.Lib
set_option maxRecDepth 100000
def DoOut (o:ObR) (r:ReplyR) (w:World) (e:Ending) (w':World):Prop:=
 ∃ A d B c,e=.returned (.tuple #[.agg (obA o A d),.agg #[.int .i64 r.1,.int .i64 r.2.1,.slice B r.2.2.length c]])∧SliceOk A o.2.1.2.2.2.length d∧Syms w' A o.2.1.2.2.2.length o.2.1.2.2.2∧Texts w' B r.2.2.length r.2.2∧r.2.2.length≤c∧c≤maxLen∧Below w.heap.size w w'
def DOut (o:ObR) (r:ReplyR) (w:World) (e:Ending) (w':World):Prop:=
 ∃ A d B c,e=.returned (.agg #[.int .u64 (o.1:Nat),.int .i64 o.2.1.1,.int .i64 o.2.1.2.1,.int .i64 o.2.1.2.2.1,.slice A o.2.1.2.2.2.length d,.int .i64 o.2.2,.int .i64 r.1,.int .i64 r.2.1,.slice B r.2.2.length c])∧SliceOk A o.2.1.2.2.2.length d∧Syms w' A o.2.1.2.2.2.length o.2.1.2.2.2∧Texts w' B r.2.2.length r.2.2∧r.2.2.length≤c∧c≤maxLen∧Below w.heap.size w w'
theorem below_set3o {B:Nat} {w x:World} (h:Below B w x) {g:Nat} (hg:B≤g) (a b c:Value):Below B w (((x.setCell ⟨g,0,none⟩ a).setCell ⟨g,1,none⟩ b).setCell ⟨g,2,none⟩ c):=((h.setCell (p:=⟨g,0,none⟩) hg a).setCell (p:=⟨g,1,none⟩) hg b).setCell (p:=⟨g,2,none⟩) hg c
theorem below_set6o {B:Nat} {w x:World} (h:Below B w x) {g:Nat} (hg:B≤g) (a b c d e f:Value):Below B w ((((((x.setCell ⟨g,0,none⟩ a).setCell ⟨g,1,none⟩ b).setCell ⟨g,2,none⟩ c).setCell ⟨g,3,none⟩ d).setCell ⟨g,4,none⟩ e).setCell ⟨g,5,none⟩ f):=
 (((below_set3o h hg a b c).setCell (p:=⟨g,3,none⟩) hg d).setCell (p:=⟨g,4,none⟩) hg e).setCell (p:=⟨g,5,none⟩) hg f
theorem Box.put3o {w:World} {g:Nat} {t:TypeId} {a b c u v x:Value} (h:Box w g t #[a,b,c]):Box (((w.setCell ⟨g,0,none⟩ u).setCell ⟨g,1,none⟩ v).setCell ⟨g,2,none⟩ x) g t #[u,v,x]:=((h.put 0 u).put 1 v).put 2 x
theorem Box.put6o {w:World} {g:Nat} {t:TypeId} {a b c d e f u v x y z k:Value} (h:Box w g t #[a,b,c,d,e,f]):Box ((((((w.setCell ⟨g,0,none⟩ u).setCell ⟨g,1,none⟩ v).setCell ⟨g,2,none⟩ x).setCell ⟨g,3,none⟩ y).setCell ⟨g,4,none⟩ z).setCell ⟨g,5,none⟩ k) g t #[u,v,x,y,z,k]:=(((((h.put 0 u).put 1 v).put 2 x).put 3 y).put 4 z).put 5 k
theorem Box.far3o {w:World} {g g':Nat} {t:TypeId} {cs:Array Value} (h:Box w g t cs) (hn:g≠g') (a b c:Value):Box (((w.setCell ⟨g',0,none⟩ a).setCell ⟨g',1,none⟩ b).setCell ⟨g',2,none⟩ c) g t cs:=((h.far (p:=⟨g',0,none⟩) hn a).far (p:=⟨g',1,none⟩) hn b).far (p:=⟨g',2,none⟩) hn c
theorem Box.far6o {w:World} {g g':Nat} {t:TypeId} {cs:Array Value} (h:Box w g t cs) (hn:g≠g') (a b c d e f:Value):Box ((((((w.setCell ⟨g',0,none⟩ a).setCell ⟨g',1,none⟩ b).setCell ⟨g',2,none⟩ c).setCell ⟨g',3,none⟩ d).setCell ⟨g',4,none⟩ e).setCell ⟨g',5,none⟩ f) g t cs:=(((h.far3o hn a b c).far (p:=⟨g',3,none⟩) hn d).far (p:=⟨g',4,none⟩) hn e).far (p:=⟨g',5,none⟩) hn f
abbrev opW (c:CallR) (w:World):World:=((w.alloc (.cells (callL c).toArray 31)).alloc (.cells #[.int .u64 0,.int .i64 0,.int .i64 0,.int .i64 0,.slice none 0 0,.int .i64 0] 27)).alloc (.cells #[.int .i64 0,.int .i64 0,.slice none 0 0] 36)
theorem opW_three (c:CallR) (w:World):Box (opW c w) w.heap.size 31 (callL c).toArray∧Box (opW c w) (w.heap.size+1) 27 #[.int .u64 0,.int .i64 0,.int .i64 0,.int .i64 0,.slice none 0 0,.int .i64 0]∧Box (opW c w) (w.heap.size+1+1) 36 #[.int .i64 0,.int .i64 0,.slice none 0 0]∧Below w.heap.size w (opW c w):=by
 refine⟨((Box.new w _ _).alloc _).alloc _,?_,?_,(((Below.refl _ _).alloc (Nat.le_refl _) _).alloc (by simp) _).alloc (by simp;omega) _⟩
 ·have q:=(Box.new (w.alloc (.cells (callL c).toArray 31)) 27 #[.int .u64 0,.int .i64 0,.int .i64 0,.int .i64 0,.slice none 0 0,.int .i64 0]).alloc (.cells #[.int .i64 0,.int .i64 0,.slice none 0 0] 36)
  simpa only [World.size_alloc] using q
 ·have q:=Box.new ((w.alloc (.cells (callL c).toArray 31)).alloc (.cells #[.int .u64 0,.int .i64 0,.int .i64 0,.int .i64 0,.slice none 0 0,.int .i64 0] 27)) 36 #[.int .i64 0,.int .i64 0,.slice none 0 0]
  simpa only [World.size_alloc] using q
theorem enew18 (k s c:Int) (w:World) :
  Calls Tryz.prog 64 #[.int .i64 k,.int .i64 s,.int .i64 c] w fun e w'=>∃ nK nS nC nE A d,e=.returned (.tuple #[.agg #[.int .i64 nK,.int .i64 nS,.int .i64 nC,.slice A 0 d],.int .i64 nE])∧((sizesB k s c=true→nK=k∧nS=s∧nC=c∧nE=0)∧(sizesB k s c=false→nK=0∧nS=0∧nC=0∧nE=2))∧SliceOk A 0 d∧Syms w' A 0 []∧Below w.heap.size w w':=by
 refine (enew_any k s c w).mono ?_
 rintro e w' ⟨A,d,rfl,h1,-,h3,h4,hb⟩
 rw [storeB_new]
 refine⟨_,_,_,_,A,d,rfl,⟨fun h=>?_,fun h=>?_⟩,⟨Nat.zero_le _,h3,fun e=>⟨rfl,h4 e⟩⟩,h1,hb⟩
 ·rw [h];exact⟨rfl,rfl,rfl,rfl⟩
 ·rw [h];exact⟨rfl,rfl,rfl,rfl⟩
theorem opW_gen (a b r:Array Value) (w:World):Box (((w.alloc (.cells a 31)).alloc (.cells b 27)).alloc (.cells r 36)) (w.heap.size+1) 27 b∧Box (((w.alloc (.cells a 31)).alloc (.cells b 27)).alloc (.cells r 36)) (w.heap.size+1+1) 36 r∧Below w.heap.size w (((w.alloc (.cells a 31)).alloc (.cells b 27)).alloc (.cells r 36)):=by
 refine⟨?_,?_,(((Below.refl _ _).alloc (Nat.le_refl _) _).alloc (by simp) _).alloc (by simp;omega) _⟩
 ·have q:=(Box.new (w.alloc (.cells a 31)) 27 b).alloc (.cells r 36)
  simpa only [World.size_alloc] using q
 ·have q:=Box.new ((w.alloc (.cells a 31)).alloc (.cells b 27)) 36 r
  simpa only [World.size_alloc] using q
set_option maxHeartbeats 4000000 in
theorem oopen_no1 (what:Int) (ob:Nat) (k s cp:Int) (id:Nat) (dt:ByteArray) (h0:¬ what=0) (w:World):Calls Tryz.prog 34 #[callV (what,ob,k,s,cp,id,dt)] w (DoOut obZ (1,0,[]) w):=by
 obtain⟨q0,q1,q2,b3⟩:=opW_three (what,ob,k,s,cp,id,dt) w
 have Q0:=hZ q0
 obtain⟨p1,p2,b4⟩:=opW_gen (callL (what,ob,k,s,cp,id,dt)).toArray #[.int .u64 0,.int .i64 0,.int .i64 0,.int .i64 0,.slice none 0 0,.int .i64 0] #[.int .i64 1,.int .i64 0,.slice none 0 0] w
 have P1:=hZ p1
 have P2:=hZ p2
 have HB:=hZ b4
 obtain⟨r0,r1,r2,r3,r4,r5,r6⟩:=Q0.out.sevenO
 clear q0 q1 q2 b3 p1 p2 b4
 have t9:(what != 0)=true:=by simpa using h0
 clear h0
 go_enter Tryz.func34,Tryz.ntmps34
 go_wp2_with fail
 refine close_two Tryz.results34 rfl rfl rfl P1.out P2.out Tryz.underlying27 Tryz.underlying36 rfl rfl (by kernel_rfl) (by kernel_rfl) ?_
 exact⟨none,0,none,0,rfl,⟨Nat.le_refl _,Nat.zero_le _,fun _=>⟨rfl,rfl⟩⟩,Recs.nil _ _,Texts.nil _ _,Nat.le_refl _,Nat.zero_le _,HB.out⟩
set_option maxHeartbeats 8000000 in
theorem oopen_no2 (ob:Nat) (k s cp:Int) (id:Nat) (dt:ByteArray) (hz:sizesB k s cp=false) (w:World):Calls Tryz.prog 34 #[callV (0,ob,k,s,cp,id,dt)] w (DoOut obZ (2,0,[]) w):=by
 obtain⟨q0,q1,q2,b3⟩:=opW_three (0,ob,k,s,cp,id,dt) w
 have Q0:=hZ q0
 have Q1:=hZ q1
 have Q2:=hZ q2
 have HB:=hZ b3
 obtain⟨r0,r1,r2,r3,r4,r5,r6⟩:=Q0.out.sevenO
 obtain⟨s0,s1,s2,s3,s4,s5⟩:=Q1.out.sixO
 obtain⟨t0,t1,t2⟩:=Q2.out.threeO
 have f0:=Q1.out.free 0
 have f1:=Q1.out.free 1
 have f2:=Q1.out.free 2
 have f3:=Q1.out.free 3
 have f4:=Q1.out.free 4
 have f5:=Q1.out.free 5
 have g0:=Q2.out.free 0
 have g1:=Q2.out.free 1
 have g2:=Q2.out.free 2
 clear q0 q1 q2 b3
 have HN:=hZ (enew18 k s cp (opW (0,ob,k,s,cp,id,dt) w))
 rw [hz] at HN
 clear hz
 go_enter Tryz.func34,Tryz.ntmps34
 go_wp2_with fail
 refine HN.out.mono ?_
 rintro e w2 ⟨nK,nS,nC,nE,A,d,rfl,⟨-,h2⟩,-,hx,hb⟩
 obtain⟨e1,e2,e3,e4⟩:=h2 trivial
 subst e1 e2 e3 e4
 have b4:Below w2.heap.size w2 (w2.alloc (.cells #[.int .i64 0,.int .i64 0,.int .i64 0,.slice A 0 d] 25)):=(Below.refl _ _).alloc (Nat.le_refl _) _
 have hbb:=chain hb b4
 have P1:=hZ (Q1.out.keep hbb)
 have P2:=hZ (Q2.out.keep hbb)
 have HB2:=hZ (chain HB.out hbb)
 clear hbb b4 hb hx h2 HN r0 r1 r2 r3 r4 r5 r6 s0 s1 s2 s3 s4 s5 t0 t1 t2 f0 f1 f2 f3 f4 f5 g0 g1 g2
 obtain⟨s0,s1,s2,s3,s4,s5⟩:=P1.out.sixO
 obtain⟨t0,t1,t2⟩:=P2.out.threeO
 have f0:=P1.out.free 0
 have f1:=P1.out.free 1
 have f2:=P1.out.free 2
 have f3:=P1.out.free 3
 have f4:=P1.out.free 4
 have f5:=P1.out.free 5
 have g0:=P2.out.free 0
 have g1:=P2.out.free 1
 have g2:=P2.out.free 2
 go_wp2_with fail
 refine close_two Tryz.results34 rfl rfl rfl (P1.out.put6o.far3o (by omega) _ _ _) ((P2.out.far6o (g':=w.heap.size+1) (by omega) _ _ _ _ _ _).put3o) Tryz.underlying27 Tryz.underlying36 rfl rfl (by kernel_rfl) (by kernel_rfl) ?_
 exact⟨none,0,none,0,rfl,⟨Nat.le_refl _,Nat.zero_le _,fun _=>⟨rfl,rfl⟩⟩,Recs.nil _ _,Texts.nil _ _,Nat.le_refl _,Nat.zero_le _,below_set3o (below_set6o HB2.out (by omega) _ _ _ _ _ _) (by omega) _ _ _⟩
set_option maxHeartbeats 8000000 in
theorem oopen_yes (ob:Nat) (k s cp:Int) (id:Nat) (dt:ByteArray) (hz:sizesB k s cp=true) (w:World):Calls Tryz.prog 34 #[callV (0,ob,k,s,cp,id,dt)] w (DoOut (ob,(k,s,cp,[]),0) (0,k,[]) w):=by
 obtain⟨q0,q1,q2,b3⟩:=opW_three (0,ob,k,s,cp,id,dt) w
 have Q0:=hZ q0
 have Q1:=hZ q1
 have Q2:=hZ q2
 have HB:=hZ b3
 obtain⟨r0,r1,r2,r3,r4,r5,r6⟩:=Q0.out.sevenO
 obtain⟨s0,s1,s2,s3,s4,s5⟩:=Q1.out.sixO
 obtain⟨t0,t1,t2⟩:=Q2.out.threeO
 have f0:=Q1.out.free 0
 have f1:=Q1.out.free 1
 have f2:=Q1.out.free 2
 have f3:=Q1.out.free 3
 have f4:=Q1.out.free 4
 have f5:=Q1.out.free 5
 have g0:=Q2.out.free 0
 have g1:=Q2.out.free 1
 have g2:=Q2.out.free 2
 clear q0 q1 q2 b3
 have HN:=hZ (enew18 k s cp (opW (0,ob,k,s,cp,id,dt) w))
 rw [hz] at HN
 clear hz
 go_enter Tryz.func34,Tryz.ntmps34
 go_wp2_with fail
 refine HN.out.mono ?_
 rintro e w2 ⟨nK,nS,nC,nE,A,d,rfl,⟨h2,-⟩,hs,hx,hb⟩
 obtain⟨e1,e2,e3,e4⟩:=h2 trivial
 subst e1 e2 e3 e4
 have b4:Below w2.heap.size w2 (w2.alloc (.cells #[.int .i64 nK,.int .i64 nS,.int .i64 nC,.slice A 0 d] 25)):=(Below.refl _ _).alloc (Nat.le_refl _) _
 have hbb:=chain hb b4
 have P0:=hZ (Q0.out.keep hbb)
 have P1:=hZ (Q1.out.keep hbb)
 have P2:=hZ (Q2.out.keep hbb)
 have PS:=hZ (Box.new w2 25 #[.int .i64 nK,.int .i64 nS,.int .i64 nC,.slice A 0 d])
 have HB2:=hZ (chain HB.out hbb)
 have HSo:=hZ hs
 have HXs:=hZ (Recs.below hx b4)
 have HG:=hZ (show w.heap.size+1+1<w2.heap.size from Nat.lt_of_lt_of_le Q2.out.lt hb.size)
 clear hbb b4 hb hx h2 HN r0 r1 r2 r3 r4 r5 r6 s0 s1 s2 s3 s4 s5 t0 t1 t2 f0 f1 f2 f3 f4 f5 g0 g1 g2
 obtain⟨r0,r1,r2,r3,r4,r5,r6⟩:=P0.out.sevenO
 obtain⟨s0,s1,s2,s3,s4,s5⟩:=P1.out.sixO
 obtain⟨t0,t1,t2⟩:=P2.out.threeO
 obtain⟨p0,p1,p2,p3,-,-,-,-⟩:=PS.out.four
 have f0:=P1.out.free 0
 have f1:=P1.out.free 1
 have f2:=P1.out.free 2
 have f3:=P1.out.free 3
 have f4:=P1.out.free 4
 have f5:=P1.out.free 5
 have g0:=P2.out.free 0
 have g1:=P2.out.free 1
 have g2:=P2.out.free 2
 have hgg:=HG.out
 go_upto_region 6 with (fail)
 refine wp_heldK_bar [(8,(fun (w':World)=>w'.cell? ⟨w.heap.size,1,none⟩=some (.int .u64 (ob:Int))∧w'.cell? ⟨w.heap.size,2,none⟩=some (.int .i64 nK)∧w'.cell? ⟨w2.heap.size,0,none⟩=some (.int .i64 nK)∧w'.cell? ⟨w2.heap.size,1,none⟩=some (.int .i64 nS)∧w'.cell? ⟨w2.heap.size,2,none⟩=some (.int .i64 nC)∧w'.cell? ⟨w2.heap.size,3,none⟩=some (.slice A 0 d)))] 9 (by kernel_rfl) (by decide) ?_
 have hS0:=(show ((fun (w':World)=>w'.cell? ⟨w.heap.size,1,none⟩=some (.int .u64 (ob:Int))∧w'.cell? ⟨w.heap.size,2,none⟩=some (.int .i64 nK)∧w'.cell? ⟨w2.heap.size,0,none⟩=some (.int .i64 nK)∧w'.cell? ⟨w2.heap.size,1,none⟩=some (.int .i64 nS)∧w'.cell? ⟨w2.heap.size,2,none⟩=some (.int .i64 nC)∧w'.cell? ⟨w2.heap.size,3,none⟩=some (.slice A 0 d))) (w2.alloc (.cells #[.int .i64 nK,.int .i64 nS,.int .i64 nC,.slice A 0 d] 25)).drew from ⟨r1,r2,p0,p1,p2,p3⟩)
 refine headK_take (i:=0) (v:=?_) rfl (by kernel_rfl) (fun _ _ _ h=>h) (fun _ _ _ h=>passed_ready h.1) (Or.inl ⟨by rfl,?hy1⟩) ⟨fun _=>hS0,trivial⟩ ?rest1
 case hy1=>intro w _;go_simp;try (with_reducible rfl)
 case rest1=>
 try simp only [pZa,pZb,pZc,pZd]
 refine headK_load 0 8 _ rfl (i:=1) (v:=?_) rfl (by kernel_rfl) (fun _ _ _ h=>h) (fun _ _ _ h=>passed_ready h.1) (Or.inl ⟨by rfl,?hy2⟩) ⟨fun _=>hS0,trivial⟩ ?rest2
 case hy2=>intro w hSw;(try dsimp only at hSw);obtain⟨hc0,hc1,hc2,hc3,hc4,hc5⟩:=hSw;go_simp;try (with_reducible rfl)
 case rest2=>
 try simp only [pZa,pZb,pZc,pZd]
 refine headK_load 0 8 _ rfl (i:=2) (v:=?_) rfl (by kernel_rfl) (fun _ _ _ h=>h) (fun _ _ _ h=>passed_ready h.1) (Or.inl ⟨by rfl,?hy3⟩) ⟨fun _=>hS0,trivial⟩ ?rest3
 case hy3=>intro w hSw;(try dsimp only at hSw);obtain⟨hc0,hc1,hc2,hc3,hc4,hc5⟩:=hSw;go_simp;try (with_reducible rfl)
 case rest3=>
 try simp only [pZa,pZb,pZc,pZd]
 refine headK_take (i:=3) (v:=?_) rfl (by kernel_rfl) (fun _ _ _ h=>h) (fun _ _ _ h=>passed_ready h.1) (Or.inl ⟨by rfl,?hy4⟩) ⟨fun _=>hS0,trivial⟩ ?rest4
 case hy4=>intro w _;go_simp;try (with_reducible rfl)
 case rest4=>
 try simp only [pZa,pZb,pZc,pZd]
 refine headK_take (i:=4) (v:=?_) rfl (by kernel_rfl) (fun _ _ _ h=>h) (fun _ _ _ h=>passed_ready h.1) (Or.inl ⟨by rfl,?hy5⟩) ⟨fun _=>hS0,trivial⟩ ?rest5
 case hy5=>intro w _;go_simp;try (with_reducible rfl)
 case rest5=>
 try simp only [pZa,pZb,pZc,pZd]
 refine headK_load 0 8 _ rfl (i:=5) (v:=?_) rfl (by kernel_rfl) (fun _ _ _ h=>h) (fun _ _ _ h=>passed_ready h.1) (Or.inl ⟨by rfl,?hy6⟩) ⟨fun _=>hS0,trivial⟩ ?rest6
 case hy6=>intro w hSw;(try dsimp only at hSw);obtain⟨hc0,hc1,hc2,hc3,hc4,hc5⟩:=hSw;go_simp;try (with_reducible rfl)
 case rest6=>
 try simp only [pZa,pZb,pZc,pZd]
 refine headK_take (i:=6) (v:=?_) rfl (by kernel_rfl) (fun _ _ _ h=>h) (fun _ _ _ h=>passed_ready h.1) (Or.inl ⟨by rfl,?hy7⟩) ⟨fun _=>hS0,trivial⟩ ?rest7
 case hy7=>intro w _;go_simp;try (with_reducible rfl)
 case rest7=>
 try simp only [pZa,pZb,pZc,pZd]
 refine headK_one (i:=7) (by kernel_rfl) rfl (fun K hK=>?_)
 go_simp
 have hS0:=(show ((fun (w':World)=>w'.cell? ⟨w.heap.size,1,none⟩=some (.int .u64 (ob:Int))∧w'.cell? ⟨w.heap.size,2,none⟩=some (.int .i64 nK)∧w'.cell? ⟨w2.heap.size,0,none⟩=some (.int .i64 nK)∧w'.cell? ⟨w2.heap.size,1,none⟩=some (.int .i64 nS)∧w'.cell? ⟨w2.heap.size,2,none⟩=some (.int .i64 nC)∧w'.cell? ⟨w2.heap.size,3,none⟩=some (.slice A 0 d))) (((((((w2.alloc (.cells #[.int .i64 nK,.int .i64 nS,.int .i64 nC,.slice A 0 d] 25)).setCell ⟨w.heap.size+1,0,none⟩ (.int .u64 (ob:Int))).setCell ⟨w.heap.size+1,1,none⟩ (.int .i64 nK)).setCell ⟨w.heap.size+1,2,none⟩ (.int .i64 nS)).setCell ⟨w.heap.size+1,3,none⟩ (.int .i64 nC)).setCell ⟨w.heap.size+1,4,none⟩ (.slice A 0 d)).setCell ⟨w.heap.size+1,5,none⟩ (.int .i64 0)).drew from ⟨(P0.out.far6o (g':=w.heap.size+1) (by omega) (.int .u64 (ob:Int)) (.int .i64 nK) (.int .i64 nS) (.int .i64 nC) (.slice A 0 d) (.int .i64 0)).drew.cell 1,(P0.out.far6o (g':=w.heap.size+1) (by omega) (.int .u64 (ob:Int)) (.int .i64 nK) (.int .i64 nS) (.int .i64 nC) (.slice A 0 d) (.int .i64 0)).drew.cell 2,(PS.out.far6o (g':=w.heap.size+1) (by omega) (.int .u64 (ob:Int)) (.int .i64 nK) (.int .i64 nS) (.int .i64 nC) (.slice A 0 d) (.int .i64 0)).drew.cell 0,(PS.out.far6o (g':=w.heap.size+1) (by omega) (.int .u64 (ob:Int)) (.int .i64 nK) (.int .i64 nS) (.int .i64 nC) (.slice A 0 d) (.int .i64 0)).drew.cell 1,(PS.out.far6o (g':=w.heap.size+1) (by omega) (.int .u64 (ob:Int)) (.int .i64 nK) (.int .i64 nS) (.int .i64 nC) (.slice A 0 d) (.int .i64 0)).drew.cell 2,(PS.out.far6o (g':=w.heap.size+1) (by omega) (.int .u64 (ob:Int)) (.int .i64 nK) (.int .i64 nS) (.int .i64 nC) (.slice A 0 d) (.int .i64 0)).drew.cell 3⟩)
 refine hK.out _ _ ⟨fun _=>hS0,trivial⟩ ?_
 clear hK K
 try simp only [pZa,pZb,pZc,pZd]
 refine headK_one (i:=8) (by kernel_rfl) rfl (fun K hK=>?_)
 go_simp
 refine hK.out _ _ ⟨nZ,trivial⟩ ?_
 clear hK K
 try simp only [pZa,pZb,pZc,pZd]
 refine⟨by kernel_rfl,?_⟩
 refine wpAny_done (by kernel_rfl) ?_ _
 go_wp2_with fail
 refine close_two Tryz.results34 rfl rfl rfl ((P1.out.put6o.far3o (by omega) _ _ _).drew) (((P2.out.far6o (g':=w.heap.size+1) (by omega) _ _ _ _ _ _).put3o).drew) Tryz.underlying27 Tryz.underlying36 rfl rfl (by kernel_rfl) (by kernel_rfl) ?_
 exact⟨A,d,none,0,rfl,HSo.out,Recs.nil _ _,Texts.nil _ _,Nat.le_refl _,Nat.zero_le _,(below_set3o (below_set6o HB2.out (by omega) _ _ _ _ _ _) (by omega) _ _ _).drew⟩
theorem oopen_any (c:CallR) (w:World):Calls Tryz.prog 34 #[callV c] w (DoOut (openO c).1 (openO c).2 w):=by
 obtain⟨what,ob,k,s,cp,id,dt⟩:=c
 by_cases h0:what=0
 ·subst h0
  cases hz:sizesB k s cp with
  | false=>
    have HE:openO (0,ob,k,s,cp,id,dt)=(obZ,(2,0,[])):=by unfold openO;rw [if_pos rfl,if_neg (by rw [hz];decide)]
    rw [HE];exact oopen_no2 ob k s cp id dt hz w
  | true=>
    have HE:openO (0,ob,k,s,cp,id,dt)=((ob,(k,s,cp,[]),0),(0,k,[])):=by unfold openO;rw [if_pos rfl,if_pos hz]
    rw [HE];exact oopen_yes ob k s cp id dt hz w
 ·have HE:openO (what,ob,k,s,cp,id,dt)=(obZ,(1,0,[])):=if_neg h0
  rw [HE];exact oopen_no1 what ob k s cp id dt h0 w
end
section
/- Layer 19: receiver.refused; what a call hands back. -/
open Go.RowKit Go.Lib
set_option maxRecDepth 100000
def RcOut (ps:List RawO) (r:ReplyR) (w:World) (e:Ending) (w':World):Prop:=
 ∃ A d B c,e=.returned (.tuple #[.agg #[.slice A ps.length d],.agg #[.int .i64 r.1,.int .i64 r.2.1,.slice B r.2.2.length c]])∧SliceOk A ps.length d∧Raws w' A ps.length ps∧OkDs w' ps∧Texts w' B r.2.2.length r.2.2∧r.2.2.length≤c∧c≤maxLen∧Below w.heap.size w w'
theorem rcW_gen (a b r:Array Value) (w:World):Box (((w.alloc (.cells a 48)).alloc (.cells b 48)).alloc (.cells r 36)) (w.heap.size+1) 48 b∧Box (((w.alloc (.cells a 48)).alloc (.cells b 48)).alloc (.cells r 36)) (w.heap.size+1+1) 36 r∧Below w.heap.size w (((w.alloc (.cells a 48)).alloc (.cells b 48)).alloc (.cells r 36)):=by
 have b1:=(Below.refl w.heap.size w).alloc (Nat.le_refl _) (.cells a 48)
 have b2:=b1.alloc b1.size (.cells b 48)
 have b3:=b2.alloc b2.size (.cells r 36)
 have p:=(Box.new (w.alloc (.cells a 48)) 48 b).alloc (.cells r 36)
 have q:=Box.new ((w.alloc (.cells a 48)).alloc (.cells b 48)) 36 r
 simp only [World.size_alloc] at p q
 exact⟨p,q,b3⟩
theorem rrefused_any (A:Option Addr) (c:Nat) (ps:List RawO) (why:Int) (w:World) (hs:SliceOk A ps.length c) (hx:Raws w A ps.length ps) (hd:OkDs w ps):Calls Tryz.prog 37 #[.agg #[.slice A ps.length c],.int .i64 why] w (RcOut ps (why,0,[]) w):=by
 obtain⟨p1,p2,b3⟩:=rcW_gen #[.slice A ps.length c] #[.slice A ps.length c] #[.int .i64 why,.int .i64 0,.slice none 0 0] w
 have P1:=hZ p1
 have P2:=hZ p2
 have HB:=hZ b3
 have HX:=hZ (Recs.below hx b3)
 have HD:=hZ (OkDs.below hd b3)
 clear p1 p2 b3 hx hd
 go_enter Tryz.func37,Tryz.ntmps37
 go_wp2_with fail
 refine close_two Tryz.results37 rfl rfl rfl P1.out P2.out Tryz.underlying48 Tryz.underlying36 rfl rfl (by kernel_rfl) (by kernel_rfl) ?_
 exact⟨A,c,none,0,rfl,hs,HX.out,HD.out,Texts.nil _ _,Nat.le_refl _,Nat.zero_le _,HB.out⟩
end
section
/- Layer 18: the reference's Open; few; alive. -/
open Go.RowKit Go.Lib
set_option maxRecDepth 100000
theorem dW_gen (a b:Array Value) (w:World):Box ((w.alloc (.cells a 31)).alloc (.cells b 40)) w.heap.size 31 a∧Box ((w.alloc (.cells a 31)).alloc (.cells b 40)) (w.heap.size+1) 40 b∧Below w.heap.size w ((w.alloc (.cells a 31)).alloc (.cells b 40)):=by
 refine⟨(Box.new w _ _).alloc _,?_,((Below.refl _ _).alloc (Nat.le_refl _) _).alloc (by simp) _⟩
 have q:=Box.new (w.alloc (.cells a 31)) 40 b
 simpa only [World.size_alloc] using q
abbrev dZ:Array Value:=#[.int .u64 0,.int .i64 0,.int .i64 0,.int .i64 0,.slice none 0 0,.int .i64 0,.int .i64 0,.int .i64 0,.slice none 0 0]
abbrev dE (n:Int):Array Value:=#[.int .u64 0,.int .i64 0,.int .i64 0,.int .i64 0,.slice none 0 0,.int .i64 0,.int .i64 n,.int .i64 0,.slice none 0 0]
set_option maxHeartbeats 4000000 in
theorem ropen_no1 (what:Int) (ob:Nat) (k s cp:Int) (id:Nat) (dt:ByteArray) (h0:¬ what=0) (w:World):Calls Tryz.prog 72 #[callV (what,ob,k,s,cp,id,dt)] w (DOut obZ (1,0,[]) w):=by
 obtain⟨q0,-,-⟩:=dW_gen (callL (what,ob,k,s,cp,id,dt)).toArray dZ w
 obtain⟨-,p1,b4⟩:=dW_gen (callL (what,ob,k,s,cp,id,dt)).toArray (dE 1) w
 have Q0:=hZ q0
 have P1:=hZ p1
 have HB:=hZ b4
 obtain⟨r0,r1,r2,r3,r4,r5,r6⟩:=Q0.out.sevenO
 clear q0 p1 b4
 have t9:(what != 0)=true:=by simpa using h0
 clear h0
 go_enter Tryz.func72,Tryz.ntmps72
 go_wp2_with fail
 refine close_one Tryz.results72 rfl rfl P1.out Tryz.underlying40 rfl (by kernel_rfl) ?_
 exact⟨none,0,none,0,rfl,⟨Nat.le_refl _,Nat.zero_le _,fun _=>⟨rfl,rfl⟩⟩,Recs.nil _ _,Texts.nil _ _,Nat.le_refl _,Nat.zero_le _,HB.out⟩
set_option maxHeartbeats 4000000 in
theorem ropen_no2 (ob:Nat) (k s cp:Int) (id:Nat) (dt:ByteArray) (hz:sizesB k s cp=false) (w:World):Calls Tryz.prog 72 #[callV (0,ob,k,s,cp,id,dt)] w (DOut obZ (2,0,[]) w):=by
 obtain⟨q0,-,-⟩:=dW_gen (callL (0,ob,k,s,cp,id,dt)).toArray dZ w
 obtain⟨-,p1,b4⟩:=dW_gen (callL (0,ob,k,s,cp,id,dt)).toArray (dE 2) w
 have Q0:=hZ q0
 have P1:=hZ p1
 have HB:=hZ b4
 have HS:=hZ (fun wy=>refSizes_any k s cp wy)
 rw [hz] at HS
 obtain⟨r0,r1,r2,r3,r4,r5,r6⟩:=Q0.out.sevenO
 clear q0 p1 b4 hz
 go_enter Tryz.func72,Tryz.ntmps72
 go_wp2_with fail
 refine (HS.out _).mono ?_
 rintro e w2 ⟨rfl,rfl⟩
 go_wp2_with fail
 refine close_one Tryz.results72 rfl rfl P1.out Tryz.underlying40 rfl (by kernel_rfl) ?_
 exact⟨none,0,none,0,rfl,⟨Nat.le_refl _,Nat.zero_le _,fun _=>⟨rfl,rfl⟩⟩,Recs.nil _ _,Texts.nil _ _,Nat.le_refl _,Nat.zero_le _,HB.out⟩
set_option maxHeartbeats 4000000 in
theorem ropen_yes (ob:Nat) (k s cp:Int) (id:Nat) (dt:ByteArray) (hz:sizesB k s cp=true) (w:World):Calls Tryz.prog 72 #[callV (0,ob,k,s,cp,id,dt)] w (DOut (ob,(k,s,cp,[]),0) (0,k,[]) w):=by
 obtain⟨q0,-,-⟩:=dW_gen (callL (0,ob,k,s,cp,id,dt)).toArray dZ w
 obtain⟨-,q1,b4⟩:=dW_gen (callL (0,ob,k,s,cp,id,dt)).toArray #[.int .u64 (ob:Int),.int .i64 k,.int .i64 s,.int .i64 cp,.slice none 0 0,.int .i64 0,.int .i64 0,.int .i64 k,.slice none 0 0] w
 have Q0:=hZ q0
 have Q1:=hZ (q1.alloc (.cells #[.int .i64 k,.int .i64 s,.int .i64 cp,.slice none 0 0] 25))
 have HB:=hZ (b4.alloc b4.size (.cells #[.int .i64 k,.int .i64 s,.int .i64 cp,.slice none 0 0] 25))
 have HS:=hZ (fun wy=>refSizes_any k s cp wy)
 rw [hz] at HS
 obtain⟨r0,r1,r2,r3,r4,r5,r6⟩:=Q0.out.sevenO
 clear q0 q1 b4 hz
 go_enter Tryz.func72,Tryz.ntmps72
 go_wp2_with fail
 refine (HS.out _).mono ?_
 rintro e w2 ⟨rfl,rfl⟩
 go_wp2_with fail
 refine close_one Tryz.results72 rfl rfl Q1.out Tryz.underlying40 rfl (by kernel_rfl) ?_
 exact⟨none,0,none,0,rfl,⟨Nat.le_refl _,Nat.zero_le _,fun _=>⟨rfl,rfl⟩⟩,Recs.nil _ _,Texts.nil _ _,Nat.le_refl _,Nat.zero_le _,HB.out⟩
theorem ropen_any (c:CallR) (w:World):Calls Tryz.prog 72 #[callV c] w (DOut (openO c).1 (openO c).2 w):=by
 obtain⟨what,ob,k,s,cp,id,dt⟩:=c
 by_cases h0:what=0
 ·subst h0
  cases hz:sizesB k s cp with
  | false=>
    have HE:openO (0,ob,k,s,cp,id,dt)=(obZ,(2,0,[])):=by unfold openO;rw [if_pos rfl,if_neg (by rw [hz];decide)]
    rw [HE];exact ropen_no2 ob k s cp id dt hz w
  | true=>
    have HE:openO (0,ob,k,s,cp,id,dt)=((ob,(k,s,cp,[]),0),(0,k,[])):=by unfold openO;rw [if_pos rfl,if_pos hz]
    rw [HE];exact ropen_yes ob k s cp id dt hz w
 ·have HE:openO (what,ob,k,s,cp,id,dt)=(obZ,(1,0,[])):=if_neg h0
  rw [HE];exact ropen_no1 what ob k s cp id dt h0 w
def fewN (s:Int) (l:Nat):Nat:=if 24<min l 66∧6<s then 24 else min l 66
def fewO (o:ObR):ObR:=(o.1,(o.2.1.1,o.2.1.2.1,o.2.1.2.2.1,o.2.1.2.2.2.take (fewN o.2.1.2.1 o.2.1.2.2.2.length)),o.2.2)
theorem fewN_le (s:Int) (l:Nat):fewN s l≤l∧fewN s l≤66:=by unfold fewN;split<;>omega
abbrev oC (id:Nat) (k s c:Int) (A:Option Addr) (m d:Nat) (cl:Int):Array Value:=#[.int .u64 (id:Int),.int .i64 k,.int .i64 s,.int .i64 c,.slice A m d,.int .i64 cl]
abbrev oZ:Array Value:=#[.int .u64 0,.int .i64 0,.int .i64 0,.int .i64 0,.slice none 0 0,.int .i64 0]
theorem alive_open:openO (0,7,2,1,3,0,⟨#[]⟩)=((7,(2,1,3,[]),0),(0,2,[])):=by decide +kernel
end
end Go.Proofs.YtcikoaeiopbbbaaGreat
