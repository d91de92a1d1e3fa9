/-
  A text's first runes, and its small letters: plain arithmetic. No program in sight.
-/
import Derived.Laws.BytesArg
import Derived.Laws.RangeAny
import Derived.Lib.TrimByte
namespace Go.Proofs.YtalcagmhdppdjaaGreatDoor
theorem k4{α β:Type}{P Q:α→Prop}{T:α→β→Prop}:∀j v,P j→Q j→T j v→T j v:=fun _ _ _ _ h=>h
open Nat renaming zero_add→Ly,le_refl→Mz
open List renaming getD_eq_getElem?_getD→Mk,getElem?_eq_getElem→Kh,length_append→Kq,take_zero→Jh,mem_cons_of_mem→Jy,mem_cons_self→Jz
section
def W64 (n:Nat):Prop:=n<18446744073709551616
def W128 (n:Nat):Prop:=n<340282366920938463463374607431768211456
def wide (h l:Nat):Nat:=h*18446744073709551616+l
def b2n (b:Bool):Nat:=if b then 1 else 0
def val:List Bool→Nat
 | []=>0
 |b::l=>b2n b+2*val l
def bitN (l:List Bool) (i:Nat):Nat:=b2n (l.getD i false)
def lo (l:List Bool) (k:Nat):Nat:=val (l.take k)
def hi (l:List Bool) (k:Nat):Nat:=val (l.drop k)
def cmpI (x y:Nat):Int:=if x<y then-1 else if y<x then 1 else 0
theorem cmpI_lt {x y:Nat} (h:x<y):cmpI x y= -1:=by simp[cmpI,h]
theorem cmpI_gt {x y:Nat} (h:y<x):cmpI x y=1:=by unfold cmpI;rw[if_neg (by omega),if_pos h]
theorem cmpI_eq {x y:Nat} (h:x=y):cmpI x y=0:=by subst h;simp[cmpI]
def LowOf (x:List Bool) (N:Nat):Prop:=val x=N%2^x.length
end
section
structure IsW (h l:Int) (N:Nat):Prop where
 h0:0≤h
 h1:h≤18446744073709551615
 l0:0≤l
 l1:l≤18446744073709551615
 n:h*18446744073709551616+l=(N:Int)
theorem IsW.lt {h l:Int} {N:Nat} (w:IsW h l N):W128 N:=by
 obtain⟨a,b,c,d,e⟩:=w;unfold W128;omega
theorem IsW.zero:IsW 0 0 0:=⟨by decide,by decide,by decide,by decide,rfl⟩
theorem IsW.small {l:Int} (l0:0≤l) (l1:l≤18446744073709551615):IsW 0 l l.toNat:=⟨by decide,by decide,l0,l1,by omega⟩
def capN (n:Nat):Nat:=if n<340282366920938463463374607431768211456 then n else 0
def capC (n:Nat):Int:=if n<340282366920938463463374607431768211456 then 0 else 3
theorem capN_in {n:Nat} (h:W128 n):capN n=n:=if_pos h
theorem capC_in {n:Nat} (h:W128 n):capC n=0:=if_pos h
theorem capN_out {n:Nat} (h: ¬W128 n):capN n=0:=if_neg h
theorem capC_out {n:Nat} (h: ¬W128 n):capC n=3:=if_neg h
theorem add_in {ah al bh bl:Int} {A B:Nat} (ha:IsW ah al A) (hb:IsW bh bl B) (h:(ah+bh+(al+bl)/18446744073709551616)/18446744073709551616=0):
  W128 (A+B)∧IsW ((ah+bh+(al+bl)/18446744073709551616)%18446744073709551616) ((al+bl)%18446744073709551616) (A+B):=by
 obtain⟨a,b,c,d,e⟩:=ha;obtain⟨a',b',c',d',e'⟩:=hb
 exact⟨by unfold W128;omega,⟨by omega,by omega,by omega,by omega,by omega⟩⟩
theorem add_out {ah al bh bl:Int} {A B:Nat} (ha:IsW ah al A) (hb:IsW bh bl B) (h: ¬(ah+bh+(al+bl)/18446744073709551616)/18446744073709551616=0): ¬W128 (A+B):=by
 obtain⟨a,b,c,d,e⟩:=ha;obtain⟨a',b',c',d',e'⟩:=hb
 unfold W128;omega
end
section
def dec (n:Nat):List Int:=if n<10 then [48+(n:Int)]else dec (n/10)++ [48+((n%10:Nat):Int)]
termination_by n
decreasing_by omega
theorem dec_small {n:Nat} (h:n<10):dec n= [48+(n:Int)]:=by rw[dec,if_pos h]
theorem dec_big {n:Nat} (h: ¬n<10):dec n=dec (n/10)++ [48+((n%10:Nat):Int)]:=by rw[dec,if_neg h]
theorem dec_pos (n:Nat):1≤(dec n).length:=by
 rw[dec];split<;>simp
theorem dec_byte (n:Nat): ∀x∈dec n,48≤x∧x≤57:=by
 induction n using Nat.strongRecOn with
 |_ n ih=>
  intro x hx
  by_cases h:n<10
  ·rw[dec_small h]at hx
   simp at hx;omega
  ·rw[dec_big h]at hx
   rcases List.mem_append.mp hx with hx|hx
   ·exact ih (n/10) (by omega) x hx
   ·simp at hx;omega
structure PrintAt (A a:Nat) (xs:List Int):Prop where
 all:dec A=dec a++xs
 some:xs= []∨1≤a
 le:a*10^xs.length≤A
end
section
def nums (s:ByteArray):List Int:=s.data.toList.map fun b=>(b.toNat:Int)
structure Dg (zs:List Int):Prop where
 some:zs≠ []
 head:zs.getD 0 0=48→zs.length=1
 all: ∀i,i<zs.length→48≤zs.getD i 0∧zs.getD i 0≤57
def numOf (zs:List Int):Nat:=zs.foldl (fun a z=>10*a+(z-48).toNat) 0
theorem nums_length (s:ByteArray):(nums s).length=s.size:=by simp[nums]
theorem nums_at (s:ByteArray) (i:Nat) (h:i<s.size):(nums s).getD i 0=(s[i].toNat:Int):=by
 rw[Mk,nums,List.getElem?_map,Kh (by simpa using h)]
 rfl
theorem nums_byte (s:ByteArray): ∀z∈nums s,0≤z∧z≤255:=by
 intro z hz
 obtain⟨b,_,rfl⟩:=List.mem_map.mp hz
 have:=b.toNat_lt
 omega
theorem strOfNums_nums (s:ByteArray):strOfNums (nums s)=s:=by
 unfold strOfNums nums
 apply ByteArray.ext
 simp only[List.map_map]
 have:(fun n:Int=>UInt8.ofNat n.toNat)∘(fun b:UInt8=>(b.toNat:Int))=id:=by
  funext b;simp
 rw[this];simp
theorem nums_strOfNums (zs:List Int) (h: ∀z∈zs,0≤z∧z≤255):nums (strOfNums zs)=zs:=by
 unfold strOfNums nums
 simp only[List.map_map]
 conv=>rhs;rw[←List.map_id zs]
 apply List.map_congr_left
 intro z hz
 have:=h z hz
 simp only[Function.comp,id,UInt8.toNat_ofNat']
 omega
theorem numOf_snoc (zs:List Int) (z:Int):numOf (zs++ [z])=10*numOf zs+(z-48).toNat:=by simp[numOf]
theorem numOf_nil:numOf []=0:=rfl
theorem numOf_step (zs:List Int) (k:Nat) (h:k<zs.length):numOf (zs.take (k+1))=10*numOf (zs.take k)+(zs.getD k 0-48).toNat:=by
 rw[List.take_succ_eq_append_getElem h,numOf_snoc,Mk,Kh h];rfl
theorem numOf_mono (zs:List Int) (k j:Nat) (h:k+j≤zs.length):numOf (zs.take k)≤numOf (zs.take (k+j)):=by
 induction j with
 |zero=>exact Mz _
 |succ j ih=>
  have:=ih (by omega)
  have e:=numOf_step zs (k+j) (by omega)
  rw[←Nat.add_assoc,e];omega
theorem numOf_take (zs:List Int) (k:Nat) (h:k≤zs.length):numOf (zs.take k)≤numOf zs:=by
 have:=numOf_mono zs k (zs.length-k) (by omega)
 rw[show k+(zs.length-k)=zs.length by omega,List.take_length]at this
 exact this
theorem numOf_pow (zs:List Int) (hd:49≤zs.getD 0 0) (j:Nat) (h:j+1≤zs.length):10^j≤numOf (zs.take (j+1)):=by
 induction j with
 |zero=>
  rw[numOf_step zs 0 (by omega),Jh,numOf_nil]
  have e:(10:Nat)^0=1:=rfl
  omega
 |succ j ih=>
  have:=ih (by omega)
  rw[numOf_step zs (j+1) (by omega),Nat.pow_succ];omega
theorem Dg.long {zs:List Int} (h:Dg zs) (hl:39<zs.length): ¬W128 (numOf zs):=by
 have h1:=h.all 0 (by omega)
 have h2:49≤zs.getD 0 0:=by
  have: ¬zs.getD 0 0=48:=fun e=>by have:=h.head e;omega
  omega
 have h3:10^39≤numOf (zs.take 40):=numOf_pow zs h2 39 (by omega)
 have h4:=numOf_take zs 40 (by omega)
 unfold W128;omega
theorem numOf_dec (n:Nat):numOf (dec n)=n:=by
 induction n using Nat.strongRecOn with
 |_ n ih=>
  by_cases h:n<10
  ·rw[dec_small h,show [48+(n:Int)]= []++ [48+(n:Int)] from rfl,numOf_snoc,numOf_nil];omega
  ·rw[dec_big h,numOf_snoc,ih (n/10) (by omega)];omega
theorem dec_head (n:Nat) (h:1≤n):49≤(dec n).getD 0 0:=by
 induction n using Nat.strongRecOn with
 |_ n ih=>
  by_cases hs:n<10
  ·rw[dec_small hs];simp;omega
  ·have h1:=ih (n/10) (by omega) (by omega)
   have h2:=dec_pos (n/10)
   rw[dec_big hs]
   rw[Mk,List.getElem?_append_left (by omega),←Mk]
   exact h1
theorem getD_mem {zs:List Int} {i:Nat} (h:i<zs.length):zs.getD i 0∈zs:=by
 rw[Mk,Kh h];exact List.getElem_mem h
theorem dec_dg (n:Nat):Dg (dec n):=by
 refine⟨fun e=>by have:=dec_pos n;rw[e]at this;simp at this,fun e=>?_,fun i hi=>dec_byte n _ (getD_mem hi)⟩
 have: ¬1≤n:=fun h=>by have:=dec_head n h;omega
 obtain rfl:n=0:=by omega
 rw[dec_small (by decide)];rfl
theorem dec_numOf {zs:List Int} (h:Dg zs): ∀k,1≤k→k≤zs.length→(2≤k→49≤zs.getD 0 0)→dec (numOf (zs.take k))=zs.take k:=by
 intro k
 induction k with
 |zero=>intro h;omega
 |succ k ih=>
  intro _ hk hh
  have ha:=h.all k (by omega)
  have hst:=numOf_step zs k (by omega)
  have htk:zs.take (k+1)=zs.take k++ [zs.getD k 0]:=by
   rw[List.take_succ_eq_append_getElem (by omega),Mk,Kh (by omega)];rfl
  by_cases h0:k=0
  ·subst h0
   rw[hst,htk]
   simp only[Jh,numOf_nil,List.nil_append]
   rw[dec_small (by omega)]
   congr 1;omega
  ·have h49:=hh (by omega)
   have hi:=ih (by omega) (by omega) (fun _=>h49)
   have hp:=numOf_pow zs h49 (k-1) (by omega)
   rw[show k-1+1=k by omega]at hp
   have h1:1≤10^(k-1):=Nat.one_le_pow _ _ (by decide)
   rw[hst,dec_big (by omega),htk]
   have e1:(10*numOf (zs.take k)+(zs.getD k 0-48).toNat)/10=numOf (zs.take k):=by omega
   have e2:(10*numOf (zs.take k)+(zs.getD k 0-48).toNat)%10=(zs.getD k 0-48).toNat:=by omega
   rw[e1,e2,hi]
   congr 2;omega
theorem Dg.back {zs:List Int} (h:Dg zs):dec (numOf zs)=zs:=by
 have hl:1≤zs.length:=by have:=h.some;cases zs with|nil=>exact absurd rfl this|cons a l=>simp
 have:=dec_numOf h zs.length hl (Mz _) (fun h2=>by
  have h1:=h.all 0 (by omega)
  have: ¬zs.getD 0 0=48:=fun e=>by have:=h.head e;omega
  omega)
 rw[List.take_length]at this
 exact this
end
section
def clsN (b:Int):Nat:=if 192≤b∧b<224 then 1 else if 224≤b∧b<240 then 2 else if 240≤b∧b<248 then 3 else 0
def clsB (b:Int):Int:=if 192≤b∧b<224 then b-192 else if 224≤b∧b<240 then b-224 else if 240≤b∧b<248 then b-240 else b
def clsL (b:Int):Int:=if 192≤b∧b<224 then 128 else if 224≤b∧b<240 then 2048 else if 240≤b∧b<248 then 65536 else 0
def contB (zs:List Int) (j:Nat):Bool:=decide (j<zs.length)&&decide (128≤zs.getD j 0)&&decide (zs.getD j 0≤191)
def allB (zs:List Int) (i:Nat):Nat→Bool
 |0=>true
 |k+1=>allB zs i k&&contB zs (i+(k+1))
def cAt (zs:List Int) (i:Nat):Nat→Int
 |0=>clsB (zs.getD i 0)
 |k+1=>64*cAt zs i k+zs.getD (i+(k+1)) 0-128
def wholeB (zs:List Int) (i:Nat):Bool:=
 decide (0<clsN (zs.getD i 0))&&allB zs i (clsN (zs.getD i 0))&&decide (clsL (zs.getD i 0)≤cAt zs i (clsN (zs.getD i 0)))&&decide (cAt zs i (clsN (zs.getD i 0))≤1114111)&& !(decide (55296≤cAt zs i (clsN (zs.getD i 0)))&&decide (cAt zs i (clsN (zs.getD i 0))<57344))
def runeA (zs:List Int) (i:Nat):Int:=if zs.getD i 0<128 then zs.getD i 0 else if wholeB zs i=true then cAt zs i (clsN (zs.getD i 0))else-1
def widA (zs:List Int) (i:Nat):Nat:=if zs.getD i 0<128 then 1 else if wholeB zs i=true then clsN (zs.getD i 0)+1 else 1
theorem widA_pos (zs:List Int) (i:Nat):1≤widA zs i:=by
 unfold widA
 split
 ·exact Mz _
 ·split<;>omega
def rfrom (zs:List Int) (i:Nat):List Int:=if i<zs.length then runeA zs i::rfrom zs (i+widA zs i)else []
termination_by zs.length-i
decreasing_by have:=widA_pos zs i;omega
theorem rfrom_in {zs:List Int} {i:Nat} (h:i<zs.length):rfrom zs i=runeA zs i::rfrom zs (i+widA zs i):=by rw[rfrom,if_pos h]
theorem rfrom_out {zs:List Int} {i:Nat} (h: ¬i<zs.length):rfrom zs i= []:=by rw[rfrom,if_neg h]
def runesOf (zs:List Int):List Int:=rfrom zs 0
theorem clsN_le (b : Int) : clsN b ≤ 3 := by unfold clsN; repeat' split
                                             all_goals omega
theorem contB_iff {zs:List Int} {j:Nat} :contB zs j=true↔j<zs.length∧128≤zs.getD j 0∧zs.getD j 0≤191:=by
 unfold contB;simp[and_assoc]
theorem allB_in {zs:List Int} {i k:Nat} (h:allB zs i k=true) {j:Nat} (h1:1≤j) (h2:j≤k):contB zs (i+j)=true:=by
 induction k with
 |zero=>omega
 |succ k ih=>
  simp only[allB,Bool.and_eq_true]at h
  by_cases e:j=k+1
  ·subst e;exact h.2
  ·exact ih h.1 (by omega)
theorem wholeB_end {zs:List Int} {i:Nat} (h:wholeB zs i=true):i+clsN (zs.getD i 0)<zs.length:=by
 unfold wholeB at h
 simp only[Bool.and_eq_true,decide_eq_true_eq]at h
 have:=allB_in h.1.1.1.2 (j:=clsN (zs.getD i 0)) (by omega) (Mz _)
 exact(contB_iff.mp this).1
theorem widA_in {zs:List Int} {i:Nat} (h:i<zs.length):i+widA zs i≤zs.length:=by
 unfold widA
 split
 ·omega
 ·split
  ·rename_i hw;have:=wholeB_end hw;omega
  ·omega
theorem runeA_le (zs:List Int) (i:Nat) (h0:0≤zs.getD i 0): -1≤runeA zs i∧runeA zs i≤1114111:=by
 unfold runeA
 split
 ·omega
 ·split
  ·rename_i hw
   unfold wholeB at hw
   simp only[Bool.and_eq_true,decide_eq_true_eq]at hw
   have h1:=hw.1.2
   have h2:=hw.1.1.2
   have h3 : 0 ≤ clsL (zs.getD i 0) := by unfold clsL; repeat' split
                                          all_goals omega
   omega
  ·omega
theorem runeA_bad {zs:List Int} {i:Nat} (h1: ¬zs.getD i 0<128) (h2:wholeB zs i=false):runeA zs i= -1∧widA zs i=1:=by
 unfold runeA widA
 rw[if_neg h1,if_neg h1,h2]
 exact⟨rfl,rfl⟩
theorem runeA_good {zs:List Int} {i:Nat} (h1: ¬zs.getD i 0<128) (h2:wholeB zs i=true):runeA zs i=cAt zs i (clsN (zs.getD i 0))∧widA zs i=clsN (zs.getD i 0)+1:=by
 unfold runeA widA
 rw[if_neg h1,if_neg h1,if_pos h2,if_pos h2]
 exact⟨rfl,rfl⟩
theorem runeA_low {zs:List Int} {i:Nat} (h1:zs.getD i 0<128):runeA zs i=zs.getD i 0∧widA zs i=1:=by
 unfold runeA widA
 rw[if_pos h1,if_pos h1]
 exact⟨rfl,rfl⟩
theorem nums_get (s:ByteArray) (k:Nat):(((s.get! k).toNat:Nat):Int)=(nums s).getD k 0:=by
 by_cases h:k<s.size
 ·rw[nums_at s k h]
  congr 2
  simp[ByteArray.get!,h]
  rfl
 ·rw[Mk,List.getElem?_eq_none (by rw[nums_length];omega)]
  have:s.get! k=0:=by
   simp[ByteArray.get!,h]
   rfl
  rw[this];rfl
theorem cont_get (s:ByteArray) (k:Nat):(decide (k<s.size)&&(s.get! k).toNat/64==2)=contB (nums s) k:=by
 have hg:=nums_get s k
 obtain⟨a,ha⟩: ∃a,(s.get! k).toNat=a:=⟨_,rfl⟩
 rw[ha]at hg ⊢
 unfold contB
 rw[nums_length,←hg]
 by_cases hk:k<s.size
 ·have e:(a/64==2)=(decide ((128:Int)≤a)&&decide ((a:Int)≤191)):=by
   rw[Bool.eq_iff_iff]
   simp only[beq_iff_eq,Bool.and_eq_true,decide_eq_true_eq]
   omega
  rw[e,Bool.and_assoc]
 ·simp[hk]
theorem decode_rune (s:ByteArray) (pos:Nat) (_h:pos<s.size):
  (runeA (nums s) pos= -1∧widA (nums s) pos=1∧Utf8.decode s pos=(65533,1))∨(0≤runeA (nums s) pos∧Utf8.decode s pos=((runeA (nums s) pos).toNat,widA (nums s) pos)):=by
 have g0:=nums_get s pos
 have g1:=nums_get s (pos+1)
 have g2:=nums_get s (pos+2)
 have g3:=nums_get s (pos+3)
 have c1:=cont_get s (pos+1)
 have c2:=cont_get s (pos+2)
 have c3:=cont_get s (pos+3)
 obtain⟨a0,e0⟩: ∃a,(s.get! pos).toNat=a:=⟨_,rfl⟩
 obtain⟨a1,e1⟩: ∃a,(s.get! (pos+1)).toNat=a:=⟨_,rfl⟩
 obtain⟨a2,e2⟩: ∃a,(s.get! (pos+2)).toNat=a:=⟨_,rfl⟩
 obtain⟨a3,e3⟩: ∃a,(s.get! (pos+3)).toNat=a:=⟨_,rfl⟩
 have b0:a0<256:=by rw[←e0];exact(s.get! pos).toNat_lt
 have b1:a1<256:=by rw[←e1];exact(s.get! (pos+1)).toNat_lt
 have b2:a2<256:=by rw[←e2];exact(s.get! (pos+2)).toNat_lt
 have b3:a3<256:=by rw[←e3];exact(s.get! (pos+3)).toNat_lt
 rw[e0]at g0
 rw[e1]at g1 c1
 rw[e2]at g2 c2
 rw[e3]at g3 c3
 simp only[Utf8.decode,Nat.add_zero,e0,e1,e2,e3,c1,c2,c3]
 generalize hzs:nums s=zs at*
 by_cases k0:a0<128
 ·rw[if_pos k0]
  obtain⟨r1,r2⟩:=runeA_low (zs:=zs) (i:=pos) (by omega)
  rw[r1,r2,←g0]
  exact Or.inr ⟨by omega,by simp⟩
 rw[if_neg k0]
 have kk: ¬zs.getD pos 0<128:=by omega
 have q1:allB zs pos 1=contB zs (pos+1):=by simp[allB]
 have q2:allB zs pos 2=(contB zs (pos+1)&&contB zs (pos+2)):=by simp[allB]
 have q3:allB zs pos 3=(contB zs (pos+1)&&contB zs (pos+2)&&contB zs (pos+3)):=by simp[allB]
 have none:wholeB zs pos=false→(runeA zs pos= -1∧widA zs pos=1∧(Utf8.runeError,1)=(65533,1)):=fun h=>⟨(runeA_bad kk h).1,(runeA_bad kk h).2,rfl⟩
 have some: ∀n c,wholeB zs pos=true→clsN (zs.getD pos 0)=n→cAt zs pos n=((c:Nat):Int)→(0≤runeA zs pos∧((c,n+1):Nat×Nat)=((runeA zs pos).toNat,widA zs pos)):=fun n c h hn hc=>by
  obtain⟨h1,h2⟩:=runeA_good kk h
  rw[h1,h2,hn,hc]
  exact⟨by omega,by simp⟩
 by_cases k2:192≤a0∧a0<224
 ·have n1:clsN (zs.getD pos 0)=1:=by unfold clsN;rw[if_pos (by omega)]
  have l1:clsL (zs.getD pos 0)=128:=by unfold clsL;rw[if_pos (by omega)]
  have v1:cAt zs pos 1=((a0:Int)-192)*64+a1-128:=by simp only[cAt,clsB];rw[if_pos (by omega),←g0,←g1];omega
  have t1:(a0/32==6)=true:=by simp;omega
  have t2:(a0/16==14)=false:=by simp;omega
  have t3:(a0/8==30)=false:=by simp;omega
  rw[t1,t2,t3]
  simp only[Bool.true_and,Bool.false_and,Bool.false_eq_true,if_false]
  cases hc1:contB zs (pos+1)with
  |false=>
   left
   simp only[Bool.false_eq_true,if_false]
   exact none (by unfold wholeB;rw[n1,q1,hc1];rfl)
  |true=>
   have:=contB_iff.mp hc1
   simp only[if_true]
   by_cases hv:a0%32*64+a1%64≥128
   ·rw[if_pos hv]
    right
    exact some 1 _ (by unfold wholeB;rw[n1,q1,hc1,l1,v1];simp;omega) n1 (by rw[v1];omega)
   ·rw[if_neg hv]
    left
    exact none (by unfold wholeB;rw[n1,q1,hc1,l1,v1];simp;omega)
 by_cases k3:224≤a0∧a0<240
 ·have n1:clsN (zs.getD pos 0)=2:=by unfold clsN;rw[if_neg (by omega),if_pos (by omega)]
  have l1:clsL (zs.getD pos 0)=2048:=by unfold clsL;rw[if_neg (by omega),if_pos (by omega)]
  have v1:cAt zs pos 2=64*(((a0:Int)-224)*64+a1-128)+a2-128:=by simp only[cAt,clsB];rw[if_neg (by omega),if_pos (by omega),←g0,←g1,←g2];omega
  have t1:(a0/32==6)=false:=by simp;omega
  have t2:(a0/16==14)=true:=by simp;omega
  have t3:(a0/8==30)=false:=by simp;omega
  rw[t1,t2,t3]
  simp only[Bool.true_and,Bool.false_and,Bool.false_eq_true,if_false]
  cases hc:(contB zs (pos+1)&&contB zs (pos+2))with
  |false=>
   left
   simp only[Bool.false_eq_true,if_false]
   exact none (by unfold wholeB;rw[n1,q2,hc];rfl)
  |true=>
   have hcc:=hc
   rw[Bool.and_eq_true,contB_iff,contB_iff]at hcc
   simp only[if_true]
   obtain⟨c,hcv⟩: ∃c,a0%16*4096+a1%64*64+a2%64=c:=⟨_,rfl⟩
   rw[hcv]
   have hcx:(c:Int)=cAt zs pos 2:=by rw[v1];omega
   by_cases hv:(decide (c≥2048)&&Utf8.valid (c:Int))=true
   ·rw[if_pos hv]
    right
    refine some 2 _ ?_ n1 hcx.symm
    unfold wholeB Utf8.valid at*
    rw[n1,q2,hc,l1,←hcx]
    simp at hv ⊢;omega
   ·rw[if_neg hv]
    left
    refine none ?_
    unfold wholeB Utf8.valid at*
    rw[n1,q2,hc,l1,←hcx]
    simp at hv ⊢;omega
 by_cases k4:240≤a0∧a0<248
 ·have n1:clsN (zs.getD pos 0)=3:=by unfold clsN;rw[if_neg (by omega),if_neg (by omega),if_pos (by omega)]
  have l1:clsL (zs.getD pos 0)=65536:=by unfold clsL;rw[if_neg (by omega),if_neg (by omega),if_pos (by omega)]
  have v1:cAt zs pos 3=64*(64*(((a0:Int)-240)*64+a1-128)+a2-128)+a3-128:=by simp only[cAt,clsB];rw[if_neg (by omega),if_neg (by omega),if_pos (by omega),←g0,←g1,←g2,←g3];omega
  have t1:(a0/32==6)=false:=by simp;omega
  have t2:(a0/16==14)=false:=by simp;omega
  have t3:(a0/8==30)=true:=by simp;omega
  rw[t1,t2,t3]
  simp only[Bool.true_and,Bool.false_and,Bool.false_eq_true,if_false]
  cases hc:(contB zs (pos+1)&&contB zs (pos+2)&&contB zs (pos+3))with
  |false=>
   left
   simp only[Bool.false_eq_true,if_false]
   exact none (by unfold wholeB;rw[n1,q3,hc];rfl)
  |true=>
   have hcc:=hc
   rw[Bool.and_eq_true,Bool.and_eq_true,contB_iff,contB_iff,contB_iff]at hcc
   simp only[if_true]
   obtain⟨c,hcv⟩: ∃c,a0%8*262144+a1%64*4096+a2%64*64+a3%64=c:=⟨_,rfl⟩
   rw[hcv]
   have hcx:(c:Int)=cAt zs pos 3:=by rw[v1];omega
   by_cases hv:(decide (c≥65536)&&Utf8.valid (c:Int))=true
   ·rw[if_pos hv]
    right
    refine some 3 _ ?_ n1 hcx.symm
    unfold wholeB Utf8.valid at*
    rw[n1,q3,hc,l1,←hcx]
    simp at hv ⊢;omega
   ·rw[if_neg hv]
    left
    refine none ?_
    unfold wholeB Utf8.valid at*
    rw[n1,q3,hc,l1,←hcx]
    simp at hv ⊢;omega
 ·have n1:clsN (zs.getD pos 0)=0:=by unfold clsN;rw[if_neg (by omega),if_neg (by omega),if_neg (by omega)]
  have t1:(a0/32==6)=false:=by simp;omega
  have t2:(a0/16==14)=false:=by simp;omega
  have t3:(a0/8==30)=false:=by simp;omega
  rw[t1,t2,t3]
  simp only[Bool.false_and,Bool.false_eq_true,if_false]
  left
  exact none (by unfold wholeB;rw[n1];rfl)
end
section
def letterB (r:Int):Bool:=(decide (97≤r)&&decide (r≤122))||(decide (65≤r)&&decide (r≤90))||(decide (192≤r)&&decide (r≤591)&&decide (r≠215)&&decide (r≠247))||(decide (880≤r)&&decide (r≤1279))
def digitB (r:Int):Bool:=decide (48≤r)&&decide (r≤57)
def GoodL (l:List Int):Prop:= ∀i,i<l.length→0≤l.getD i 0
def nameOk (l:List Int) (i:Nat):Bool:=letterB (l.getD i 0)||digitB (l.getD i 0)||(decide (i+1≠l.length)&&(decide (l.getD i 0=95)||decide (l.getD i 0=45)))
def NameL (l:List Int):Prop:=1≤l.length∧l.length≤24∧letterB (l.getD 0 0)=true∧∀i,i<l.length→nameOk l i=true
def encL (r:Int):List Int:=
 if r<128 then [r]else if r<2048 then [192+r/64,128+r%64]else if r<65536 then [224+r/4096,128+r/64%64,128+r%64]else [240+r/262144,128+r/4096%64,128+r/64%64,128+r%64]
theorem encL_len (r : Int) : (encL r).length ≤ 4 := by unfold encL; repeat' split
                                                       all_goals simp
theorem encL_byte {r:Int} (h0:0≤r) (h1:r≤1114111): ∀z∈encL r,0≤z∧z≤255:=by
 intro z hz
 unfold encL at hz
 repeat' split at hz
 all_goals
  simp only[List.mem_cons,List.not_mem_nil,or_false]at hz
  omega
def hexD (n:Nat):Int:=if n<10 then 48+(n:Int)else 87+(n:Int)
def hexL (n:Nat):List Int:=if n<16 then [hexD n]else hexL (n/16)++ [hexD (n%16)]
termination_by n
decreasing_by omega
def quoteR (r:Int):List Int:=
 if r=34 then [92,34]else if r=92 then [92,92]else if r=10 then [92,110]else if r=9 then [92,116]else if r<32∨r=127 then [92,117,123]++hexL r.toNat++ [125]else encL r
def quoteB (l:List Int):List Int:=l.flatMap quoteR
def quoteL (l:List Int):List Int:= [34]++quoteB l++ [34]
theorem take_snoc {l:List Int} {i:Nat} (h:i<l.length):l.take (i+1)=l.take i++ [l.getD i 0]:=by
 rw[List.take_succ_eq_append_getElem h,Mk,Kh h];rfl
end
section
inductive Qs where
 |start|norm (xs:List Int)|esc (xs:List Int)|uni (xs:List Int)|hex (xs:List Int) (k:Nat) (x:Int)|done (xs:List Int)|dead
def hexV (r:Int):Int:=if 48≤r∧r≤57 then r-48 else if 97≤r∧r≤102 then r-87 else-1
def ustep:Qs→Int→Qs
 | .start,r=>if r=34 then .norm []else .dead
 | .norm xs,r=>if r=34 then .done xs else if r<32∨r=127 then .dead else if r=92 then .esc xs else .norm (xs++ [r])
 | .esc xs,r=>if r=34∨r=92 then .norm (xs++ [r])else if r=110 then .norm (xs++ [10])else if r=116 then .norm (xs++ [9])else if r=117 then .uni xs else .dead
 | .uni xs,r=>if r=123 then .hex xs 0 0 else .dead
 | .hex xs k x,r=>if 0≤hexV r∧k<6 then .hex xs (k+1) (16*x+hexV r)else if r=125∧k≠0∧x≤1114111∧¬(55296≤x∧x<57344)then .norm (xs++ [x])else .dead
 | .done _,_=> .dead
 | .dead,_=> .dead
def ut (l:List Int) (i:Nat):Qs:=(l.take i).foldl ustep .start
def uf (l:List Int):Qs:=l.foldl ustep .start
theorem ut_next {l:List Int} {i:Nat} {u:Qs} {z:Int} (h:ut l i=u) (hi:i<l.length) (hz:l.getD i 0=z):ut l (i+1)=ustep u z:=by
 unfold ut at*
 rw[take_snoc hi,List.foldl_append,h,hz];rfl
theorem ut_all (l:List Int):ut l l.length=uf l:=by unfold ut uf;rw[List.take_length]
theorem dead_fold (l:List Int):l.foldl ustep .dead= .dead:=by
 induction l with
 |nil=>rfl
 |cons z l ih=>exact ih
theorem uf_drop {l:List Int} {i:Nat} :uf l=(l.drop i).foldl ustep (ut l i):=by
 unfold uf ut
 rw[←List.foldl_append,List.take_append_drop]
def NoQ (l:List Int):Prop:= ∀xs,uf l≠ .done xs
theorem NoQ.dead {l:List Int} {i:Nat} (h:ut l i= .dead):NoQ l:=fun xs e=>by
 rw[uf_drop (i:=i),h,dead_fold]at e;cases e
theorem NoQ.over {l:List Int} {i:Nat} {u:Qs} (h:ut l i=u) (hi:i=l.length) (hu: ∀xs,u≠ .done xs):NoQ l:=fun xs e=>by
 subst hi
 rw[ut_all]at h
 exact hu xs (h.symm.trans e)
theorem ustep_low (u:Qs) {r:Int} (h:r<0):ustep u r= .dead:=by
 have hv:hexV r= -1:=by unfold hexV;rw[if_neg (by omega),if_neg (by omega)]
 cases u with
 |start=>exact if_neg (by omega)
 | norm xs => show (if r = 34 then Qs.done xs else if r < 32 ∨ r = 127 then .dead else if r = 92 then .esc xs else .norm (xs ++ [r])) = .dead
              rw [if_neg (by omega), if_pos (by omega)]
 | esc xs => show (if r = 34 ∨ r = 92 then Qs.norm (xs ++ [r]) else if r = 110 then .norm (xs ++ [10]) else if r = 116 then .norm (xs ++ [9]) else if r = 117 then .uni xs else .dead) = .dead
             rw [if_neg (by omega), if_neg (by omega), if_neg (by omega), if_neg (by omega)]
 |uni xs=>exact if_neg (by omega)
 | hex xs k x => show (if 0 ≤ hexV r ∧ k < 6 then Qs.hex xs (k + 1) (16 * x + hexV r) else if r = 125 ∧ k ≠ 0 ∧ x ≤ 1114111 ∧ ¬ (55296 ≤ x ∧ x < 57344) then .norm (xs ++ [x]) else .dead) = .dead
                 rw [if_neg (by omega), if_neg (by omega)]
 |done xs=>rfl
 |dead=>rfl
theorem NoQ.bad {l:List Int} (h: ¬GoodL l):NoQ l:=by
 refine Classical.byContradiction fun hn=>h fun i hi=>?_
 refine Classical.byContradiction fun hz=>hn ?_
 exact NoQ.dead ((ut_next rfl hi rfl).trans (ustep_low _ (by omega)))
def UnqL (l:List Int) (t:List Int) (c:Int):Prop:=
 (NoQ l∧t= []∧c=5)∨∃xs,uf l= .done xs∧((120<xs.length∧t= []∧c=9)∨(xs.length≤120∧t=xs.flatMap encL∧c=0))
end
section
def unitOf (c:Int):Nat:=if c=119 then 604800 else if c=100 then 86400 else if c=104 then 3600 else if c=109 then 60 else if c=115 then 1 else 0
def MaxT:Nat:=253402300799
theorem unitOf_le (c:Int):unitOf c≤604800:=by
 unfold unitOf;repeat' split
 all_goals omega
theorem unitOf_digit {c:Int} (h:48≤c∧c≤57):unitOf c=0:=by
 unfold unitOf
 rw[if_neg (by omega),if_neg (by omega),if_neg (by omega),if_neg (by omega),if_neg (by omega)]
theorem unitOf_letter {c:Int} (h:unitOf c≠0): ¬(48≤c∧c≤57):=fun hd=>h (unitOf_digit hd)
theorem unitOf_high {c:Int} (h:128≤c):unitOf c=0:=by
 unfold unitOf
 rw[if_neg (by omega),if_neg (by omega),if_neg (by omega),if_neg (by omega),if_neg (by omega)]
structure St where
 acc:Nat
 last:Nat
 num:Option Nat
def stp (s:St) (z:Int):Option St:=
 if 48≤z∧z≤57 then some ⟨s.acc,s.last,some (10*s.num.getD 0+(z-48).toNat)⟩
 else match s.num with
  |none=>none
  |some n=>if unitOf z=0∨s.last≤unitOf z then none else some ⟨s.acc+n*unitOf z,unitOf z,none⟩
def runs:St→List Int→Option St
 |s,[]=>some s
 |s,z::r=>(stp s z).bind fun t=>runs t r
theorem runs_nil (s:St):runs s []=some s:=rfl
theorem runs_append (s:St) (a b:List Int):runs s (a++b)=(runs s a).bind fun t=>runs t b:=by
 induction a generalizing s with
 |nil=>rfl
 |cons z a ih=>
  simp only[List.cons_append,runs]
  cases h:stp s z with
  |none=>rfl
  |some t=>exact ih t
theorem runs_snoc (s:St) (a:List Int) (z:Int):runs s (a++ [z])=(runs s a).bind fun t=>stp t z:=by
 rw[runs_append]
 congr 1;funext t
 simp only[runs]
 cases stp t z<;>rfl
def St0:St:=⟨0,1000000,none⟩
def Tells (zs:List Int) (N:Nat):Prop:=zs≠ []∧∃last,runs St0 zs=some ⟨N,last,none⟩
theorem Tells.unique {zs:List Int} {N M:Nat} (h:Tells zs N) (g:Tells zs M):N=M:=by
 obtain⟨_,l,h⟩:=h
 obtain⟨_,l',g⟩:=g
 rw[h]at g
 simp only[Option.some.injEq,St.mk.injEq]at g
 exact g.1
theorem stp_digit {s:St} {z:Int} (h:48≤z∧z≤57):stp s z=some ⟨s.acc,s.last,some (10*s.num.getD 0+(z-48).toNat)⟩:=by rw[stp,if_pos h]
theorem stp_unit {a l n:Nat} {z:Int} (h:unitOf z≠0) (hl:unitOf z<l):stp ⟨a,l,some n⟩ z=some ⟨a+n*unitOf z,unitOf z,none⟩:=by
 rw[stp,if_neg (unitOf_letter h)]
 simp only
 rw[if_neg (by omega)]
theorem stp_bare {a l:Nat} {z:Int} (h: ¬(48≤z∧z≤57)):stp ⟨a,l,none⟩ z=none:=by rw[stp,if_neg h]
theorem stp_none {a l n:Nat} {z:Int} (h: ¬(48≤z∧z≤57)) (hu:unitOf z=0∨l≤unitOf z):stp ⟨a,l,some n⟩ z=none:=by
 rw[stp,if_neg h]
 simp only
 rw[if_pos hu]
theorem runs_dead {s:St} {zs:List Int} {k:Nat} (hk:k<zs.length) {t:St} (h:runs s (zs.take k)=some t) (hd:stp t (zs.getD k 0)=none):runs s zs=none:=by
 have e:zs=zs.take k++(zs.getD k 0::zs.drop (k+1)):=by
  rw[Mk,Kh hk]
  simp
 rw[e,runs_append,h]
 simp only[Option.bind_some,runs,hd]
 rfl
theorem runs_next {s:St} {zs:List Int} {k:Nat} (hk:k<zs.length) {t:St} (h:runs s (zs.take k)=some t):runs s (zs.take (k+1))=stp t (zs.getD k 0):=by
 rw[List.take_succ_eq_append_getElem hk,runs_snoc,h,Mk,Kh hk]
 rfl
theorem Tells.of_none {zs:List Int} (h:runs St0 zs=none): ∀N,¬Tells zs N:=fun N g=>by
 obtain⟨_,l,g⟩:=g
 rw[h]at g;cases g
theorem runs_digits (ds:List Int) (hd: ∀z∈ds,48≤z∧z≤57) (a l:Nat) (n:Option Nat) (hne:ds≠ []):runs ⟨a,l,n⟩ ds=some ⟨a,l,some (ds.foldl (fun x z=>10*x+(z-48).toNat) (n.getD 0))⟩:=by
 induction ds generalizing n with
 |nil=>exact(hne rfl).elim
 |cons z r ih=>
  simp only[runs]
  rw[stp_digit (hd z Jz)]
  simp only[Option.bind_some,List.foldl_cons]
  cases r with
  |nil=>rfl
  |cons y r=>
   rw[ih (fun x hx=>hd x (Jy _ hx)) (some (10*n.getD 0+(z-48).toNat)) (by simp)]
   rfl
theorem runs_dec (m a l:Nat):runs ⟨a,l,none⟩ (dec m)=some ⟨a,l,some m⟩:=by
 rw[runs_digits (dec m) (dec_byte m) a l none (fun e=>by have:=dec_pos m;rw[e]at this;simp at this)]
 have:=numOf_dec m
 unfold numOf at this
 simp only[Option.getD_none]
 rw[this]
theorem runs_piece (m a l:Nat) (c:Int) (hu:unitOf c≠0) (hl:unitOf c<l):runs ⟨a,l,none⟩ (dec m++ [c])=some ⟨a+m*unitOf c,unitOf c,none⟩:=by
 rw[runs_snoc,runs_dec]
 exact stp_unit hu hl
def sp:List Int→Nat→List Int
 | [],_=> []
 |c::r,n=>if unitOf c≤n then dec (n/unitOf c)++ [c]++sp r (n%unitOf c)else sp r n
def units:List Int:= [119,100,104,109,115]
def spn (n:Nat):List Int:=if n=0 then [48,115]else sp units n
theorem sp_last (n a l:Nat) (h:1<l): ∃l',runs ⟨a,l,none⟩ (sp [115] n)=some ⟨a+n,l',none⟩:=by
 have hu:unitOf 115=1:=rfl
 simp only[sp,hu,List.append_nil]
 by_cases h0:1≤n
 ·rw[if_pos h0,runs_piece _ _ _ _ (by rw[hu];decide) (by rw[hu];exact h),hu]
  exact⟨1,by simp⟩
 ·rw[if_neg h0]
  obtain rfl:n=0:=by omega
  exact⟨l,rfl⟩
theorem sp_step (c:Int) (r:List Int) (v:Nat) (hu:unitOf c≠0) (ih: ∀n a l,v<l→∃l',runs ⟨a,l,none⟩ (sp r n)=some ⟨a+n,l',none⟩) (hvl:v<unitOf c) (n a l:Nat) (h:unitOf c<l):
  ∃l',runs ⟨a,l,none⟩ (sp (c::r) n)=some ⟨a+n,l',none⟩:=by
 simp only[sp]
 by_cases hn:unitOf c≤n
 ·rw[if_pos hn,runs_append,runs_piece _ _ _ _ hu h]
  simp only[Option.bind_some]
  obtain⟨l',h'⟩:=ih (n%unitOf c) (a+n/unitOf c*unitOf c) (unitOf c) hvl
  refine⟨l',?_⟩
  rw[h']
  have:=Nat.div_add_mod n (unitOf c)
  have e:n/unitOf c*unitOf c=unitOf c*(n/unitOf c):=Nat.mul_comm _ _
  rw[show a+n/unitOf c*unitOf c+n%unitOf c=a+n by omega]
 ·rw[if_neg hn]
  exact ih n a l (by omega)
theorem sp_all (n a:Nat): ∃l',runs ⟨a,1000000,none⟩ (sp units n)=some ⟨a+n,l',none⟩:=by
 have h4:=sp_last
 have h3:=fun n a l h=>sp_step 109 [115] 1 (by decide) (fun n a l h=>h4 n a l h) (by decide) n a l h
 have h2:=fun n a l h=>sp_step 104 [109,115] 60 (by decide) (fun n a l h=>h3 n a l h) (by decide) n a l h
 have h1:=fun n a l h=>sp_step 100 [104,109,115] 3600 (by decide) (fun n a l h=>h2 n a l h) (by decide) n a l h
 exact sp_step 119 [100,104,109,115] 86400 (by decide) (fun n a l h=>h1 n a l h) (by decide) n a 1000000 (by decide)
theorem sp_some {n:Nat} (h:n≠0):sp units n≠ []:=by
 intro e
 obtain⟨l,hl⟩:=sp_all n 0
 rw[e,runs_nil]at hl
 simp only[Option.some.injEq,St.mk.injEq]at hl
 omega
theorem spn_tells (n:Nat):Tells (spn n) n:=by
 unfold spn
 by_cases h:n=0
 ·subst h
  exact⟨by simp,1,by rw[if_pos rfl];rfl⟩
 ·rw[if_neg h]
  obtain⟨l,hl⟩:=sp_all n 0
  exact⟨sp_some h,l,by rw[Ly]at hl;exact hl⟩
end
section
def withinB (r:Int):Bool:=letterB r||digitB r||decide (r=95)||decide (r=45)||decide (r=46)||decide (r=37)
def byteR (r:Int):List Int:=if r<0 then [255]else encL r
def textR (l:List Int):List Int:=l.flatMap byteR
theorem textR_byte {l:List Int} (h: ∀z∈l,-1≤z∧z≤1114111): ∀z∈textR l,0≤z∧z≤255:=by
 intro z hz
 obtain⟨r,hr,hz⟩:=List.mem_flatMap.mp hz
 unfold byteR at hz
 split at hz
 ·rw[List.mem_singleton.mp hz];omega
 ·exact encL_byte (by omega) (h r hr).2 z hz
def AllD (zs:List Int):Prop:=zs≠ []∧∀i,i<zs.length→48≤zs.getD i 0∧zs.getD i 0≤57
noncomputable def numF (zs:List Int):Nat×Int:=open Classical in if Dg zs then(if numOf zs≤18446744073709551615 then(numOf zs,0)else(0,8))else(0,5)
theorem numF_no {zs:List Int} (h: ¬Dg zs):numF zs=(0,5):=if_neg h
theorem numF_big {zs:List Int} (h:Dg zs) (hn: ¬numOf zs≤18446744073709551615):numF zs=(0,8):=by unfold numF;rw[if_pos h,if_neg hn]
theorem numF_fine {zs:List Int} (h:Dg zs) (hn:numOf zs≤18446744073709551615):numF zs=(numOf zs,0):=by unfold numF;rw[if_pos h,if_pos hn]
theorem numF_bd (zs:List Int):(numF zs).1≤18446744073709551615:=by
 unfold numF
 split
 ·split
  ·assumption
  ·exact Nat.zero_le _
 ·exact Nat.zero_le _
def t3 (B:List Int):Nat:=numOf ((B++List.replicate (3-B.length) 48).take 3)
noncomputable def facF (A B:List Int):Nat×Int:=
 open Classical in
 if AllD B∧B.length≤3 then
  (if(numF A).2=0 then(if(18446744073709551615-t3 B)/1000<(numF A).1 then(0,8)else(1000*(numF A).1+t3 B,0))else(0,(numF A).2))
 else(0,5)
end
section
structure DigAt (u u1 v1 v0 Q q r:Int):Prop where
 hu:q*v1+r=u
 hq:Q≤q
 hr0:0≤r
 hr:r<4294967296
end
section
def RuneOk (r:Int):Prop:=0≤r∧r≤1114111∧¬(55296≤r∧r<57344)
theorem getD_right (a b:List Int) (i:Nat):(a++b).getD (a.length+i) 0=b.getD i 0:=by
 simp only[Mk]
 rw[List.getElem?_append_right (by omega)]
 congr 2
 omega
theorem contB_right (a b:List Int) (i:Nat):contB (a++b) (a.length+i)=contB b i:=by
 unfold contB
 rw[getD_right,Kq]
 congr 2
 simp
theorem allB_right (a b:List Int) (i k:Nat):allB (a++b) (a.length+i) k=allB b i k:=by
 induction k with
 |zero=>rfl
 |succ k ih=>simp only[allB];rw[ih,Nat.add_assoc,contB_right]
theorem cAt_right (a b:List Int) (i k:Nat):cAt (a++b) (a.length+i) k=cAt b i k:=by
 induction k with
 |zero=>simp only[cAt];rw[getD_right]
 |succ k ih=>simp only[cAt];rw[ih,Nat.add_assoc,getD_right]
theorem wholeB_right (a b:List Int) (i:Nat):wholeB (a++b) (a.length+i)=wholeB b i:=by
 unfold wholeB
 rw[getD_right,allB_right,cAt_right]
theorem runeA_right (a b:List Int) (i:Nat):runeA (a++b) (a.length+i)=runeA b i:=by
 unfold runeA
 rw[getD_right,wholeB_right,cAt_right]
theorem widA_right (a b:List Int) (i:Nat):widA (a++b) (a.length+i)=widA b i:=by
 unfold widA
 rw[getD_right,wholeB_right]
theorem rfrom_right (a b:List Int): ∀(n i:Nat),b.length-i≤n→rfrom (a++b) (a.length+i)=rfrom b i:=by
 intro n
 induction n with
 |zero=>intro i hi;rw[rfrom_out (by rw[Kq];omega),rfrom_out (by omega)]
 |succ n ih=>
  intro i hi
  by_cases h:i<b.length
  ·rw[rfrom_in (by rw[Kq];omega),rfrom_in h,runeA_right,widA_right,Nat.add_assoc,ih (i+widA b i) (by have:=widA_pos b i;omega)]
  ·rw[rfrom_out (by rw[Kq];omega),rfrom_out h]
theorem runes_right (a b:List Int):rfrom (a++b) a.length=runesOf b:=rfrom_right a b b.length 0 (by omega)
theorem rfrom_drop {zs:List Int} {i:Nat} (h:i≤zs.length):rfrom zs i=runesOf (zs.drop i):=by
 have:=runes_right (zs.take i) (zs.drop i)
 rw[List.take_append_drop,List.length_take,Nat.min_eq_left h]at this
 exact this
theorem runes_nil:runesOf []= []:=rfrom_out (by simp)
theorem runes_enc {r:Int} (h:RuneOk r) (ys:List Int):runesOf (encL r++ys)=r::runesOf ys:=by
 obtain⟨h0,h1,h2⟩:=h
 have key: ∀a:List Int,0<a.length→runeA (a++ys) 0=r→widA (a++ys) 0=a.length→runesOf (a++ys)=r::runesOf ys:=fun a ha hr hw=>by
  have e:=rfrom_in (zs:=a++ys) (i:=0) (by rw[Kq];omega)
  rw[hr,hw,Ly,runes_right]at e
  exact e
 unfold encL
 split
 ·rename_i h3
  exact key [r] (by simp) (runeA_low (by simpa using h3)).1 (runeA_low (by simpa using h3)).2
 split
 ·rename_i h3 h4
  refine key _ (by simp) ?_ ?_
  all_goals
   have hb:([192+r/64,128+r%64]++ys).getD 0 0=192+r/64:=rfl
   have hc:([192+r/64,128+r%64]++ys).getD 1 0=128+r%64:=rfl
   have hn:clsN (([192+r/64,128+r%64]++ys).getD 0 0)=1:=by rw[hb];unfold clsN;rw[if_pos (by omega)]
   have hv:cAt ([192+r/64,128+r%64]++ys) 0 1=r:=by simp only[cAt,Ly];rw[hb,hc];unfold clsB;rw[if_pos (by omega)];omega
   have hw:wholeB ([192+r/64,128+r%64]++ys) 0=true:=by
    unfold wholeB
    rw[hn,hv,hb]
    have:allB ([192+r/64,128+r%64]++ys) 0 1=true:=by simp only[allB,Bool.true_and,Ly];exact contB_iff.mpr ⟨by simp,by rw[hc];omega,by rw[hc];omega⟩
    rw[this];unfold clsL;rw[if_pos (by omega)];simp;omega
   have:=runeA_good (by rw[hb];omega) hw
   rw[hn,hv]at this
   first|exact this.1|exact this.2
 split
 ·rename_i h3 h4 h5
  refine key _ (by simp) ?_ ?_
  all_goals
   have hb:([224+r/4096,128+r/64%64,128+r%64]++ys).getD 0 0=224+r/4096:=rfl
   have hc:([224+r/4096,128+r/64%64,128+r%64]++ys).getD 1 0=128+r/64%64:=rfl
   have hd:([224+r/4096,128+r/64%64,128+r%64]++ys).getD 2 0=128+r%64:=rfl
   have hn:clsN (([224+r/4096,128+r/64%64,128+r%64]++ys).getD 0 0)=2:=by rw[hb];unfold clsN;rw[if_neg (by omega),if_pos (by omega)]
   have hv:cAt ([224+r/4096,128+r/64%64,128+r%64]++ys) 0 2=r:=by simp only[cAt,Ly];rw[hb,hc,hd];unfold clsB;rw[if_neg (by omega),if_pos (by omega)];omega
   have hw:wholeB ([224+r/4096,128+r/64%64,128+r%64]++ys) 0=true:=by
    unfold wholeB
    rw[hn,hv,hb]
    have:allB ([224+r/4096,128+r/64%64,128+r%64]++ys) 0 2=true:=by
     simp only[allB,Bool.true_and,Ly,Bool.and_eq_true]
     exact⟨contB_iff.mpr ⟨by simp,by rw[hc];omega,by rw[hc];omega⟩,contB_iff.mpr ⟨by simp,by rw[hd];omega,by rw[hd];omega⟩⟩
    rw[this];unfold clsL;rw[if_neg (by omega),if_pos (by omega)];simp;omega
   have:=runeA_good (by rw[hb];omega) hw
   rw[hn,hv]at this
   first|exact this.1|exact this.2
 ·rename_i h3 h4 h5
  refine key _ (by simp) ?_ ?_
  all_goals
   have hb:([240+r/262144,128+r/4096%64,128+r/64%64,128+r%64]++ys).getD 0 0=240+r/262144:=rfl
   have hc:([240+r/262144,128+r/4096%64,128+r/64%64,128+r%64]++ys).getD 1 0=128+r/4096%64:=rfl
   have hd:([240+r/262144,128+r/4096%64,128+r/64%64,128+r%64]++ys).getD 2 0=128+r/64%64:=rfl
   have he:([240+r/262144,128+r/4096%64,128+r/64%64,128+r%64]++ys).getD 3 0=128+r%64:=rfl
   have hn:clsN (([240+r/262144,128+r/4096%64,128+r/64%64,128+r%64]++ys).getD 0 0)=3:=by rw[hb];unfold clsN;rw[if_neg (by omega),if_neg (by omega),if_pos (by omega)]
   have hv:cAt ([240+r/262144,128+r/4096%64,128+r/64%64,128+r%64]++ys) 0 3=r:=by simp only[cAt,Ly];rw[hb,hc,hd,he];unfold clsB;rw[if_neg (by omega),if_neg (by omega),if_pos (by omega)];omega
   have hw:wholeB ([240+r/262144,128+r/4096%64,128+r/64%64,128+r%64]++ys) 0=true:=by
    unfold wholeB
    rw[hn,hv,hb]
    have:allB ([240+r/262144,128+r/4096%64,128+r/64%64,128+r%64]++ys) 0 3=true:=by
     simp only[allB,Bool.true_and,Ly,Bool.and_eq_true]
     exact⟨⟨contB_iff.mpr ⟨by simp,by rw[hc];omega,by rw[hc];omega⟩,contB_iff.mpr ⟨by simp,by rw[hd];omega,by rw[hd];omega⟩⟩,contB_iff.mpr ⟨by simp,by rw[he];omega,by rw[he];omega⟩⟩
    rw[this];unfold clsL;rw[if_neg (by omega),if_neg (by omega),if_pos (by omega)];simp;omega
   have:=runeA_good (by rw[hb];omega) hw
   rw[hn,hv]at this
   first|exact this.1|exact this.2
theorem runes_low {r:Int} (h0:0≤r) (h:r<128) (ys:List Int):runesOf (r::ys)=r::runesOf ys:=by
 have:=runes_enc (r:=r) ⟨h0,by omega,by omega⟩ ys
 unfold encL at this
 rw[if_pos h]at this
 exact this
end
section
theorem take_two {zs:List Int} {i:Nat} (h:i+1<zs.length):(zs.drop i).take 2= [zs.getD i 0,zs.getD (i+1) 0]:=by
 apply List.ext_getElem
 ·simp;omega
 ·intro j h1 h2
  have:j=0∨j=1:=by simp at h2;omega
  rcases this with rfl|rfl<;>simp[Mk,h,show i<zs.length by omega]
theorem take_three {zs:List Int} {i:Nat} (h:i+2<zs.length):(zs.drop i).take 3= [zs.getD i 0,zs.getD (i+1) 0,zs.getD (i+2) 0]:=by
 apply List.ext_getElem
 ·simp;omega
 ·intro j h1 h2
  have:j=0∨j=1∨j=2:=by simp at h2;omega
  rcases this with rfl|rfl|rfl<;>simp[Mk,h,show i<zs.length by omega,show i+1<zs.length by omega]
theorem take_four {zs:List Int} {i:Nat} (h:i+3<zs.length):(zs.drop i).take 4= [zs.getD i 0,zs.getD (i+1) 0,zs.getD (i+2) 0,zs.getD (i+3) 0]:=by
 apply List.ext_getElem
 ·simp;omega
 ·intro j h1 h2
  have:j=0∨j=1∨j=2∨j=3:=by simp at h2;omega
  rcases this with rfl|rfl|rfl|rfl<;>simp[Mk,h,show i<zs.length by omega,show i+1<zs.length by omega,show i+2<zs.length by omega]
theorem take_one {zs:List Int} {i:Nat} (h:i<zs.length):(zs.drop i).take 1= [zs.getD i 0]:=by
 apply List.ext_getElem
 ·simp;omega
 ·intro j h1 h2
  have:j=0:=by simp at h2;omega
  subst this
  simp[Mk,h]
theorem clsN_is {b:Int} {n:Nat} (h:clsN b=n):(n=1→192≤b∧b<224)∧(n=2→224≤b∧b<240)∧(n=3→240≤b∧b<248):=by
 unfold clsN at h
 split at h
 ·omega
 ·split at h
  ·omega
  ·split at h<;>omega
theorem enc_back {zs:List Int} {i:Nat} (hi:i<zs.length) (hb: ∀z∈zs,0≤z∧z≤255) (h:0≤runeA zs i):RuneOk (runeA zs i)∧encL (runeA zs i)=(zs.drop i).take (widA zs i):=by
 have hbd: ∀j,j<zs.length→0≤zs.getD j 0∧zs.getD j 0≤255:=fun j hj=>by
  rw[Mk,Kh hj]
  exact hb _ (List.getElem_mem hj)
 by_cases k0:zs.getD i 0<128
 ·obtain⟨h1,h2⟩:=runeA_low k0
  rw[h1,h2,take_one hi]
  have:=hbd i hi
  exact⟨⟨by omega,by omega,by omega⟩,by unfold encL;rw[if_pos k0]⟩
 ·cases hw:wholeB zs i with
  |false=>rw[(runeA_bad k0 hw).1]at h;omega
  |true=>
   obtain⟨h1,h2⟩:=runeA_good k0 hw
   have hend:=wholeB_end hw
   have hw2:=hw
   unfold wholeB at hw2
   simp only[Bool.and_eq_true,decide_eq_true_eq,Bool.not_eq_true',Bool.and_eq_false_iff,decide_eq_false_iff_not]at hw2
   obtain⟨⟨⟨⟨n0,hall⟩,hL⟩,hM⟩,hS⟩:=hw2
   have hb0:=hbd i hi
   have n3:=clsN_le (zs.getD i 0)
   have hn:clsN (zs.getD i 0)=1∨clsN (zs.getD i 0)=2∨clsN (zs.getD i 0)=3:=by omega
   rcases hn with hn|hn|hn
   ·rw[hn]at h1 h2 hend hall hL hM hS
    have hc:=contB_iff.mp (allB_in hall (j:=1) (by omega) (by omega))
    rw[h1,h2,take_two hend]
    have hcl:192≤zs.getD i 0∧zs.getD i 0<224:=(clsN_is hn).1 rfl
    have hv:cAt zs i 1=64*(zs.getD i 0-192)+zs.getD (i+1) 0-128:=by simp only[cAt,clsB];rw[if_pos hcl]
    have hLL:clsL (zs.getD i 0)=128:=by unfold clsL;rw[if_pos hcl]
    rw[hLL]at hL
    refine⟨⟨by omega,by omega,by omega⟩,?_⟩
    unfold encL
    rw[if_neg (by omega),if_pos (by omega)]
    simp only[List.cons.injEq,and_true]
    omega
   ·rw[hn]at h1 h2 hend hall hL hM hS
    have hc:=contB_iff.mp (allB_in hall (j:=1) (by omega) (by omega))
    have hd:=contB_iff.mp (allB_in hall (j:=2) (by omega) (by omega))
    rw[h1,h2,take_three hend]
    have hcl:224≤zs.getD i 0∧zs.getD i 0<240:=(clsN_is hn).2.1 rfl
    have hno: ¬(192≤zs.getD i 0∧zs.getD i 0<224):=by omega
    have hv:cAt zs i 2=64*(64*(zs.getD i 0-224)+zs.getD (i+1) 0-128)+zs.getD (i+2) 0-128:=by simp only[cAt,clsB];rw[if_neg hno,if_pos hcl]
    have hLL:clsL (zs.getD i 0)=2048:=by unfold clsL;rw[if_neg hno,if_pos hcl]
    rw[hLL]at hL
    generalize zs.getD i 0=a at*
    generalize zs.getD (i+1) 0=b at*
    generalize zs.getD (i+2) 0=c at*
    generalize cAt zs i 2=v at*
    refine⟨⟨by omega,by omega,by omega⟩,?_⟩
    unfold encL
    rw[if_neg (by omega),if_neg (by omega),if_pos (by omega)]
    simp only[List.cons.injEq,and_true]
    omega
   ·rw[hn]at h1 h2 hend hall hL hM hS
    have hc:=contB_iff.mp (allB_in hall (j:=1) (by omega) (by omega))
    have hd:=contB_iff.mp (allB_in hall (j:=2) (by omega) (by omega))
    have he:=contB_iff.mp (allB_in hall (j:=3) (by omega) (by omega))
    rw[h1,h2,take_four hend]
    have hcl:240≤zs.getD i 0∧zs.getD i 0<248:=(clsN_is hn).2.2 rfl
    have hno: ¬(192≤zs.getD i 0∧zs.getD i 0<224):=by omega
    have hno2: ¬(224≤zs.getD i 0∧zs.getD i 0<240):=by omega
    have hv:cAt zs i 3=64*(64*(64*(zs.getD i 0-240)+zs.getD (i+1) 0-128)+zs.getD (i+2) 0-128)+zs.getD (i+3) 0-128:=by simp only[cAt,clsB];rw[if_neg hno,if_neg hno2,if_pos hcl]
    have hLL:clsL (zs.getD i 0)=65536:=by unfold clsL;rw[if_neg hno,if_neg hno2,if_pos hcl]
    rw[hLL]at hL
    generalize zs.getD i 0=a at*
    generalize zs.getD (i+1) 0=b at*
    generalize zs.getD (i+2) 0=c at*
    generalize zs.getD (i+3) 0=d at*
    generalize cAt zs i 3=v at*
    refine⟨⟨by omega,by omega,by omega⟩,?_⟩
    unfold encL
    rw[if_neg (by omega),if_neg (by omega),if_neg (by omega)]
    simp only[List.cons.injEq,and_true]
    refine⟨?_,?_,?_,?_⟩<;>omega
theorem good_back {zs:List Int} (hb: ∀z∈zs,0≤z∧z≤255) (hg: ∀r∈runesOf zs,0≤r):(∀r∈runesOf zs,RuneOk r)∧(runesOf zs).flatMap encL=zs:=by
 have key: ∀n i,zs.length-i≤n→(∀r∈rfrom zs i,0≤r)→(∀r∈rfrom zs i,RuneOk r)∧(rfrom zs i).flatMap encL=zs.drop i:=by
  intro n
  induction n with
  |zero=>intro i hi _;rw[rfrom_out (by omega),List.drop_eq_nil_of_le (by omega)];exact⟨fun r hr=>(by cases hr),rfl⟩
  |succ n ih=>
   intro i hi hr
   by_cases h:i<zs.length
   ·rw[rfrom_in h]at hr ⊢
    have hp:=widA_pos zs i
    obtain⟨e1,e2⟩:=enc_back h hb (hr _ Jz)
    obtain⟨i1,i2⟩:=ih (i+widA zs i) (by omega) (fun r hm=>hr r (Jy _ hm))
    refine⟨fun r hm=>?_,?_⟩
    ·rcases List.mem_cons.mp hm with rfl|hm
     ·exact e1
     ·exact i1 r hm
    ·rw[List.flatMap_cons,i2,e2,←List.drop_drop]
     exact List.take_append_drop _ _
   ·rw[rfrom_out h,List.drop_eq_nil_of_le (by omega)];exact⟨fun r hr=>(by cases hr),rfl⟩
 exact key zs.length 0 (by omega) hg
theorem good_mem {l:List Int} (h:GoodL l): ∀r∈l,0≤r:=fun r hr=>by
 obtain⟨i,hi,rfl⟩:=List.getElem_of_mem hr
 have:=h i hi
 rw[Mk,Kh hi]at this
 exact this
def quoteU (r:Int):List Int:=
 if r=34 then [92,34]else if r=92 then [92,92]else if r=10 then [92,110]else if r=9 then [92,116]else if r<32∨r=127 then [92,117,123]++hexL r.toNat++ [125]else [r]
theorem runes_ascii (a:List Int) (h: ∀z∈a,0≤z∧z<128) (ys:List Int):runesOf (a++ys)=a++runesOf ys:=by
 induction a with
 |nil=>rfl
 |cons z a ih=>
  have:=h z Jz
  rw[List.cons_append,runes_low this.1 this.2,ih (fun x hx=>h x (Jy _ hx))];rfl
end
section
def fr:Nat→Nat→List Int
 |0,_=> []
 |k+1,l=>if l=0 then []else(48+((l/1000:Nat):Int))::fr k (l%1000*10)
def tailOf (l:Nat):List Int:=if l=0 then []else 46::fr 4 l
def pct (p:Nat):List Int:=dec (p/10000)++(tailOf (p%10000)++ [37])
theorem fr_zero (k:Nat):fr k 0= []:=by cases k<;>simp[fr]
theorem fr_step {k l:Nat} (h: ¬l=0):fr (k+1) l=(48+((l/1000:Nat):Int))::fr k (l%1000*10):=by rw[fr,if_neg h]
theorem fr_byte (k l:Nat) (hl:l<10000): ∀x∈fr k l,48≤x∧x≤57:=by
 induction k generalizing l with
 |zero=>simp[fr]
 |succ k ih=>
  by_cases h:l=0
  ·subst h;simp[fr_zero]
  ·intro x hx
   rw[fr_step h]at hx
   rcases List.mem_cons.mp hx with rfl|hx
   ·omega
   ·exact ih _ (by omega) x hx
theorem pct_byte (p:Nat): ∀x∈pct p,0≤x∧x≤255:=by
 intro x hx
 unfold pct tailOf at hx
 rcases List.mem_append.mp hx with hx|hx
 ·have:=dec_byte _ x hx;omega
 ·rcases List.mem_append.mp hx with hx|hx
  ·split at hx
   ·simp at hx
   ·rcases List.mem_cons.mp hx with rfl|hx
    ·omega
    ·have:=fr_byte 4 _ (by omega) x hx;omega
  ·simp at hx;omega
theorem fr_four (l:Nat) (_h:l<10000):
  fr 4 l=if¬l%10=0 then [48+((l/1000:Nat):Int),48+((l/100%10:Nat):Int),48+((l/10%10:Nat):Int),48+((l%10:Nat):Int)]
   else if¬l%100=0 then [48+((l/1000:Nat):Int),48+((l/100%10:Nat):Int),48+((l/10%10:Nat):Int)]
   else if¬l%1000=0 then [48+((l/1000:Nat):Int),48+((l/100%10:Nat):Int)]
   else if¬l=0 then [48+((l/1000:Nat):Int)]else []:=by
 have e1:l%1000*10/1000=l/100%10:=by omega
 have e2:l%1000*10%1000*10/1000=l/10%10:=by omega
 have e3:l%1000*10%1000*10%1000*10/1000=l%10:=by omega
 by_cases h1:l%10=0
 ·rw[if_neg (by omega)]
  by_cases h2:l%100=0
  ·rw[if_neg (by omega)]
   by_cases h3:l%1000=0
   ·rw[if_neg (by omega)]
    by_cases h4:l=0
    ·rw[if_neg (by omega),h4,fr_zero]
    ·rw[if_pos h4,fr_step h4,show l%1000*10=0 by omega,fr_zero]
   ·rw[if_pos h3,fr_step (by omega),fr_step (by omega),e1,show l%1000*10%1000*10=0 by omega,fr_zero]
  ·rw[if_pos h2,fr_step (by omega),fr_step (by omega),fr_step (by omega),e1,e2,show l%1000*10%1000*10%1000*10=0 by omega,fr_zero]
 ·rw[if_pos h1,fr_step (by omega),fr_step (by omega),fr_step (by omega),fr_step (by omega),e1,e2,e3];rfl
def dB (B:List Int) (j:Nat):Nat:=(B.getD j 48-48).toNat
def pv (B:List Int):Nat→Nat
 |0=>0
 |j+1=>pv B j+dB B j*10^(3-j)
structure Fr (B:List Int):Prop where
 some:1≤B.length
 few:B.length≤4
 all: ∀i,i<B.length→48≤B.getD i 0∧B.getD i 0≤57
 last:B.getD (B.length-1) 0≠48
theorem getD_default {B:List Int} {i:Nat} (h:i<B.length) (a b:Int):B.getD i a=B.getD i b:=by
 rw[Mk,Mk,Kh h];rfl
theorem getD_beyond {B:List Int} {i:Nat} (h: ¬i<B.length) (a:Int):B.getD i a=a:=by
 rw[Mk,List.getElem?_eq_none (by omega)];rfl
theorem dB_le {B:List Int} (h: ∀i,i<B.length→48≤B.getD i 0∧B.getD i 0≤57) (j:Nat):dB B j≤9:=by
 unfold dB
 by_cases hj:j<B.length
 ·rw[getD_default hj 48 0];have:=h j hj;omega
 ·rw[getD_beyond hj];omega
theorem dB_none {B:List Int} {j:Nat} (h: ¬j<B.length):dB B j=0:=by unfold dB;rw[getD_beyond h];rfl
theorem pv_four (B:List Int):pv B 4=dB B 0*1000+dB B 1*100+dB B 2*10+dB B 3:=by simp[pv]
theorem pv_end {B:List Int} (j:Nat) (h:B.length≤j) (h4:j≤4):pv B j=pv B 4:=by
 have: ∀d,j+d≤4→pv B (j+d)=pv B j:=by
  intro d
  induction d with
  |zero=>intro _;rfl
  |succ d ih=>intro hd;rw[←Nat.add_assoc,pv,dB_none (by omega),ih (by omega)];omega
 rw[←this (4-j) (by omega),show j+(4-j)=4 by omega]
theorem pv_lt {B:List Int} (h: ∀i,i<B.length→48≤B.getD i 0∧B.getD i 0≤57):pv B 4≤9999:=by
 rw[pv_four]
 have h0:=dB_le h 0;have h1:=dB_le h 1;have h2:=dB_le h 2;have h3:=dB_le h 3
 omega
theorem pv_nil (j:Nat):pv [] j=0:=by
 induction j with
 |zero=>rfl
 |succ j ih=>rw[pv,ih,dB_none (by simp)];omega
theorem fr_pv {B:List Int} (h:Fr B):fr 4 (pv B 4)=B∧pv B 4≠0:=by
 obtain⟨h1,h2,h3,h4⟩:=h
 rw[pv_four]
 rcases B with _|⟨a,_|⟨b,_|⟨c,_|⟨d,_|⟨e,B⟩⟩⟩⟩⟩
 ·simp at h1
 ·have a1:=h3 0 (by simp)
  simp[dB]at a1 h4 ⊢
  rw[fr_four _ (by omega),if_neg (by omega),if_neg (by omega),if_neg (by omega),if_pos (by omega)]
  refine⟨?_,by omega⟩
  simp;omega
 ·have a1:=h3 0 (by simp);have a2:=h3 1 (by simp)
  simp[dB]at a1 a2 h4 ⊢
  rw[fr_four _ (by omega),if_neg (by omega),if_neg (by omega),if_pos (by omega)]
  refine⟨?_,by omega⟩
  simp;omega
 ·have a1:=h3 0 (by simp);have a2:=h3 1 (by simp);have a3:=h3 2 (by simp)
  simp[dB]at a1 a2 a3 h4 ⊢
  rw[fr_four _ (by omega),if_neg (by omega),if_pos (by omega)]
  refine⟨?_,by omega⟩
  simp;omega
 ·have a1:=h3 0 (by simp);have a2:=h3 1 (by simp);have a3:=h3 2 (by simp);have a4:=h3 3 (by simp)
  simp[dB]at a1 a2 a3 a4 h4 ⊢
  rw[fr_four _ (by omega),if_pos (by omega)]
  refine⟨?_,by omega⟩
  simp;omega
 ·simp at h2
theorem fr_fr {l:Nat} (h:l<10000) (h0:l≠0):Fr (fr 4 l)∧pv (fr 4 l) 4=l:=by
 rw[fr_four _ h]
 by_cases h1:l%10=0
 ·rw[if_neg (by omega)]
  by_cases h2:l%100=0
  ·rw[if_neg (by omega)]
   by_cases h3:l%1000=0
   ·rw[if_neg (by omega),if_pos h0]
    refine⟨⟨by simp,by simp,?_,?_⟩,?_⟩
    ·intro i hi
     have:i=0:=by simpa using hi
     subst this;simp;omega
    ·simp;omega
    ·rw[pv_four];simp[dB];omega
   ·rw[if_pos h3]
    refine⟨⟨by simp,by simp,?_,?_⟩,?_⟩
    ·intro i hi
     rcases i with _|_|i
     ·simp;omega
     ·simp;omega
     ·simp at hi;omega
    ·simp;omega
    ·rw[pv_four];simp[dB];omega
  ·rw[if_pos h2]
   refine⟨⟨by simp,by simp,?_,?_⟩,?_⟩
   ·intro i hi
    rcases i with _|_|_|i
    ·simp;omega
    ·simp;omega
    ·simp;omega
    ·simp at hi;omega
   ·simp;omega
   ·rw[pv_four];simp[dB];omega
 ·rw[if_pos h1]
  refine⟨⟨by simp,by simp,?_,?_⟩,?_⟩
  ·intro i hi
   rcases i with _|_|_|_|i
   ·simp;omega
   ·simp;omega
   ·simp;omega
   ·simp;omega
   ·simp at hi;omega
  ·simp;omega
  ·rw[pv_four];simp[dB];omega
structure Halves (ys A B:List Int) (d:Bool):Prop where
 all:ys=A++(if d then 46::B else [])
 none:46∉A
 nil:d=false→B= []
structure Written (A B:List Int) (d:Bool):Prop where
 dg:Dg A
 fr:d=true→Fr B
def parts (A B:List Int):Nat:=numOf A*10000+pv B 4
theorem Halves.unique {ys A B A' B':List Int} {d d':Bool} (h:Halves ys A B d) (h':Halves ys A' B' d'):A=A'∧B=B'∧d=d':=by
 obtain⟨h1,h2,h3⟩:=h
 obtain⟨h1',h2',h3'⟩:=h'
 have e:A++(if d then 46::B else [])=A'++(if d' then 46::B' else []):=h1.symm.trans h1'
 clear h1 h1'
 have key: ∀A A':List Int,46∉A→46∉A'→A++(if d then 46::B else [])=A'++(if d' then 46::B' else [])→A=A'∧(if d then 46::B else [])=(if d' then 46::B' else []):=by
  intro A
  induction A with
  |nil=>
   intro A' _ g' e
   cases A' with
   |nil=>exact⟨rfl,e⟩
   |cons x A'=>
    exfalso
    cases d with
    |false=>simp at e
    |true=>simp at e;exact g' (by rw[←e.1];exact Jz)
  |cons a A ih=>
   intro A' g g' e
   cases A' with
   |nil=>
    exfalso
    cases d' with
    |false=>simp at e
    |true=>simp at e;exact g (by rw[e.1];exact Jz)
   |cons x A'=>
    simp only[List.cons_append,List.cons.injEq]at e
    obtain⟨i1,i2⟩:=ih A' (fun h=>g (Jy _ h)) (fun h=>g' (Jy _ h)) e.2
    exact⟨by rw[e.1,i1],i2⟩
 obtain⟨i1,i2⟩:=key A A' h2 h2' e
 refine⟨i1,?_⟩
 cases d<;>cases d'
 ·exact⟨(h3 rfl).trans (h3' rfl).symm,rfl⟩
 ·simp at i2
 ·simp at i2
 ·simp at i2;exact⟨i2,rfl⟩
theorem Written.back {ys A B:List Int} {d:Bool} (h:Halves ys A B d) (g:Written A B d):pct (parts A B)=ys++ [37]:=by
 obtain⟨h1,h2,h3⟩:=h
 obtain⟨g1,g2⟩:=g
 unfold pct parts tailOf
 cases d with
 |false=>
  have hB:=h3 rfl
  subst hB
  rw[pv_nil,h1,show(numOf A*10000+0)/10000=numOf A by omega,show(numOf A*10000+0)%10000=0 by omega,g1.back]
  simp
 |true=>
  have hf:=g2 rfl
  have hl:=pv_lt hf.all
  obtain⟨e1,e2⟩:=fr_pv hf
  rw[h1,show(numOf A*10000+pv B 4)/10000=numOf A by omega,show(numOf A*10000+pv B 4)%10000=pv B 4 by omega,g1.back,if_neg e2,e1]
  simp
theorem pct_halves (p:Nat): ∃ys A B d,pct p=ys++ [37]∧Halves ys A B d∧Written A B d∧parts A B=p:=by
 have hn:46∉dec (p/10000):=fun h=>by have:=dec_byte _ _ h;omega
 by_cases h:p%10000=0
 ·refine⟨dec (p/10000),dec (p/10000),[],false,?_,⟨by simp,hn,fun _=>rfl⟩,⟨dec_dg _,fun e=>by cases e⟩,?_⟩
  ·unfold pct tailOf;rw[if_pos h];simp
  ·unfold parts;rw[numOf_dec,pv_nil];omega
 ·obtain⟨f1,f2⟩:=fr_fr (show p%10000<10000 by omega) h
  refine⟨dec (p/10000)++46::fr 4 (p%10000),dec (p/10000),fr 4 (p%10000),true,?_,⟨by simp,hn,fun e=>by cases e⟩,⟨dec_dg _,fun _=>f1⟩,?_⟩
  ·unfold pct tailOf;rw[if_neg h];simp
  ·unfold parts;rw[numOf_dec,f2];omega
end
section
def posOf (zs:List Int):Nat→Nat
 |0=>0
 |k+1=>if posOf zs k<zs.length then posOf zs k+widA zs (posOf zs k)else posOf zs k
theorem pos_le (zs:List Int) (k:Nat):posOf zs k≤zs.length:=by
 induction k with
 |zero=>exact Nat.zero_le _
 |succ k ih=>
  simp only[posOf]
  split
  ·rename_i h;exact widA_in h
  ·exact ih
theorem pos_drop (zs:List Int) (k:Nat):rfrom zs (posOf zs k)=(runesOf zs).drop k:=by
 induction k with
 |zero=>rfl
 |succ k ih=>
  simp only[posOf]
  split
  ·rename_i h
   rw[rfrom_in h]at ih
   have:(runesOf zs).drop (k+1)=((runesOf zs).drop k).drop 1:=by rw[List.drop_drop]
   rw[this,←ih];rfl
  ·rename_i h
   rw[rfrom_out h]at ih
   rw[rfrom_out h]
   have:(runesOf zs).drop (k+1)=((runesOf zs).drop k).drop 1:=by rw[List.drop_drop]
   rw[this,←ih];rfl
theorem getD_take {zs:List Int} {p i:Nat} (h:i<p):(zs.take p).getD i 0=zs.getD i 0:=by
 simp only[Mk]
 rw[List.getElem?_take_of_lt h]
theorem contB_take {zs:List Int} {p j:Nat} (hp:p≤zs.length) (h:contB (zs.take p) j=true):contB zs j=true∧j<p:=by
 obtain⟨h1,h2,h3⟩:=contB_iff.mp h
 rw[List.length_take,Nat.min_eq_left hp]at h1
 rw[getD_take h1]at h2 h3
 exact⟨contB_iff.mpr ⟨by omega,h2,h3⟩,h1⟩
theorem contB_into {zs:List Int} {p j:Nat} (hp:p≤zs.length) (h:contB zs j=true) (hj:j<p):contB (zs.take p) j=true:=by
 obtain⟨h1,h2,h3⟩:=contB_iff.mp h
 exact contB_iff.mpr ⟨by rw[List.length_take,Nat.min_eq_left hp];exact hj,by rw[getD_take hj];exact h2,by rw[getD_take hj];exact h3⟩
theorem allB_take {zs:List Int} {p i k:Nat} (hp:p≤zs.length) (h:allB (zs.take p) i k=true):allB zs i k=true:=by
 induction k with
 |zero=>rfl
 |succ k ih=>
  simp only[allB,Bool.and_eq_true]at h ⊢
  exact⟨ih h.1,(contB_take hp h.2).1⟩
theorem allB_into {zs:List Int} {p i k:Nat} (hp:p≤zs.length) (h:allB zs i k=true) (hj:i+k<p):allB (zs.take p) i k=true:=by
 induction k with
 |zero=>rfl
 |succ k ih=>
  simp only[allB,Bool.and_eq_true]at h ⊢
  exact⟨ih h.1 (by omega),contB_into hp h.2 hj⟩
theorem cAt_take {zs:List Int} {p i k:Nat} (hj:i+k<p):cAt (zs.take p) i k=cAt zs i k:=by
 induction k with
 |zero=>simp only[cAt];rw[getD_take (by omega)]
 |succ k ih=>simp only[cAt];rw[ih (by omega),getD_take hj]
theorem rune_take {zs:List Int} {p i:Nat} (hp:p≤zs.length) (hi:i<p) (h:i+widA zs i≤p):runeA (zs.take p) i=runeA zs i∧widA (zs.take p) i=widA zs i:=by
 have hg:=getD_take (zs:=zs) hi
 by_cases k0:zs.getD i 0<128
 ·have h1:=runeA_low k0
  have h2:=runeA_low (zs:=zs.take p) (i:=i) (by rw[hg];exact k0)
  rw[h1.1,h1.2,h2.1,h2.2,hg];exact⟨rfl,rfl⟩
 ·have k1: ¬(zs.take p).getD i 0<128:=by rw[hg];exact k0
  cases hw:wholeB zs i with
  |true=>
   have h1:=runeA_good k0 hw
   rw[h1.2]at h
   have hc:=cAt_take (zs:=zs) (p:=p) (i:=i) (k:=clsN (zs.getD i 0)) (by omega)
   have hw2:wholeB (zs.take p) i=true:=by
    have hw3:=hw
    unfold wholeB at hw3 ⊢
    rw[hg,hc]
    simp only[Bool.and_eq_true]at hw3 ⊢
    exact⟨⟨⟨⟨hw3.1.1.1.1,allB_into hp hw3.1.1.1.2 (by omega)⟩,hw3.1.1.2⟩,hw3.1.2⟩,hw3.2⟩
   have h2:=runeA_good k1 hw2
   rw[h1.1,h1.2,h2.1,h2.2,hg,hc];exact⟨rfl,rfl⟩
  |false=>
   have h1:=runeA_bad k0 hw
   have hw2:wholeB (zs.take p) i=false:=by
    cases hx:wholeB (zs.take p) i with
    |false=>rfl
    |true=>
     have he:=wholeB_end hx
     rw[hg,List.length_take,Nat.min_eq_left hp]at he
     have hc:=cAt_take (zs:=zs) (p:=p) (i:=i) (k:=clsN (zs.getD i 0)) (by omega)
     have hw3:=hx
     unfold wholeB at hw3
     rw[hg,hc]at hw3
     simp only[Bool.and_eq_true]at hw3
     have:wholeB zs i=true:=by
      unfold wholeB
      simp only[Bool.and_eq_true]
      exact⟨⟨⟨⟨hw3.1.1.1.1,allB_take hp hw3.1.1.1.2⟩,hw3.1.1.2⟩,hw3.1.2⟩,hw3.2⟩
     rw[this]at hw;cases hw
   have h2:=runeA_bad k1 hw2
   rw[h1.1,h1.2,h2.1,h2.2];exact⟨rfl,rfl⟩
theorem pos_mono (zs:List Int) (k:Nat):posOf zs k≤posOf zs (k+1):=by
 simp only[posOf]
 split<;>omega
theorem pos_take (zs:List Int) (k:Nat):runesOf (zs.take (posOf zs k))=(runesOf zs).take k:=by
 have hp:=pos_le zs k
 obtain⟨p,hpp⟩: ∃p,posOf zs k=p:=⟨_,rfl⟩
 have hmono: ∀j,j≤k→posOf zs j≤p:=fun j hj=>by
  rw[←hpp]
  obtain⟨d,rfl⟩: ∃d,k=j+d:=⟨k-j,by omega⟩
  clear hpp hj hp
  induction d with
  |zero=>exact Mz _
  |succ d ih=>exact Nat.le_trans ih (pos_mono zs (j+d))
 rw[hpp]at hp ⊢
 have hlen:(zs.take p).length=p:=by rw[List.length_take,Nat.min_eq_left hp]
 have key: ∀n j,k-j≤n→j≤k→rfrom (zs.take p) (posOf zs j)=((runesOf zs).drop j).take (k-j):=by
  intro n
  induction n with
  |zero=>
   intro j hj hjk
   obtain rfl:j=k:=by omega
   rw[hpp,rfrom_out (by rw[hlen];omega)];simp
  |succ n ih=>
   intro j hj hjk
   by_cases e:j=k
   ·subst e;rw[hpp,rfrom_out (by rw[hlen];omega)];simp
   ·have hn:=ih (j+1) (by omega) (by omega)
    have hd:=pos_drop zs j
    have hm:=hmono (j+1) (by omega)
    simp only[posOf]at hn hm
    by_cases hl:posOf zs j<zs.length
    ·rw[if_pos hl]at hn hm
     have hw:=widA_pos zs (posOf zs j)
     obtain⟨r1,r2⟩:=rune_take hp (show posOf zs j<p by omega) hm
     rw[rfrom_in (by rw[hlen];omega),r1,r2,hn]
     rw[rfrom_in hl]at hd
     rw[←hd,show k-j=(k-(j+1))+1 by omega,List.take_succ_cons]
     congr 2
     have h1:(runesOf zs).drop (j+1)=((runesOf zs).drop j).drop 1:=by rw[List.drop_drop]
     rw[h1,←hd];rfl
    ·rw[if_neg hl]at hn hm
     rw[rfrom_out hl]at hd
     rw[←hd,rfrom_out (by rw[hlen];omega)];simp
 exact key k 0 (by omega) (Nat.zero_le _)
def foldB (z:Int):Int:=if 65≤z∧z≤90 then z+32 else z
end
end Go.Proofs.YtalcagmhdppdjaaGreatDoor
