/-
  A text's first runes, and its small letters: plain arithmetic. No program in sight.
-/
import Derived.Test.YtgmfkbamfnkbgaaDoorPkChangeWindows00
import Derived.Laws.RangeAny
namespace Go.Proofs.YtgmfkbamfnkbgaaDoor
open Nat renaming zero_add→Ly,le_refl→Mz
open List renaming length_append→Kq
section
def clsN (b:Int):Nat:=if 192≤b∧b<224 then 1 else if 224≤b∧b<240 then 2 else if 240≤b∧b<248 then 3 else 0
def clsB (b:Int):Int:=if 192≤b∧b<224 then b-192 else if 224≤b∧b<240 then b-224 else if 240≤b∧b<248 then b-240 else b
def clsL (b:Int):Int:=if 192≤b∧b<224 then 128 else if 224≤b∧b<240 then 2048 else if 240≤b∧b<248 then 65536 else 0
def contB (zs:List Int) (j:Nat):Bool:=decide (j<zs.length)&&decide (128≤zs.getD j 0)&&decide (zs.getD j 0≤191)
def allB (zs:List Int) (i:Nat):Nat→Bool
 |0=>true
 |k+1=>allB zs i k&&contB zs (i+(k+1))
def cAt (zs:List Int) (i:Nat):Nat→Int
 |0=>clsB (zs.getD i 0)
 |k+1=>64*cAt zs i k+zs.getD (i+(k+1)) 0-128
def wholeB (zs:List Int) (i:Nat):Bool:=
 decide (0<clsN (zs.getD i 0))&&allB zs i (clsN (zs.getD i 0))&&decide (clsL (zs.getD i 0)≤cAt zs i (clsN (zs.getD i 0)))&&decide (cAt zs i (clsN (zs.getD i 0))≤1114111)&& !(decide (55296≤cAt zs i (clsN (zs.getD i 0)))&&decide (cAt zs i (clsN (zs.getD i 0))<57344))
def runeA (zs:List Int) (i:Nat):Int:=if zs.getD i 0<128 then zs.getD i 0 else if wholeB zs i=true then cAt zs i (clsN (zs.getD i 0))else-1
def widA (zs:List Int) (i:Nat):Nat:=if zs.getD i 0<128 then 1 else if wholeB zs i=true then clsN (zs.getD i 0)+1 else 1
theorem widA_pos (zs:List Int) (i:Nat):1≤widA zs i:=by
 unfold widA
 split
 ·exact Mz _
 ·split<;>omega
def rfrom (zs:List Int) (i:Nat):List Int:=if i<zs.length then runeA zs i::rfrom zs (i+widA zs i)else []
termination_by zs.length-i
decreasing_by have:=widA_pos zs i;omega
theorem rfrom_in {zs:List Int} {i:Nat} (h:i<zs.length):rfrom zs i=runeA zs i::rfrom zs (i+widA zs i):=by rw[rfrom,if_pos h]
theorem rfrom_out {zs:List Int} {i:Nat} (h: ¬i<zs.length):rfrom zs i= []:=by rw[rfrom,if_neg h]
def runesOf (zs:List Int):List Int:=rfrom zs 0
theorem contB_iff {zs:List Int} {j:Nat} :contB zs j=true↔j<zs.length∧128≤zs.getD j 0∧zs.getD j 0≤191:=by
 unfold contB;simp[and_assoc]
theorem allB_in {zs:List Int} {i k:Nat} (h:allB zs i k=true) {j:Nat} (h1:1≤j) (h2:j≤k):contB zs (i+j)=true:=by
 induction k with
 |zero=>omega
 |succ k ih=>
  simp only[allB,Bool.and_eq_true]at h
  by_cases e:j=k+1
  ·subst e;exact h.2
  ·exact ih h.1 (by omega)
theorem wholeB_end {zs:List Int} {i:Nat} (h:wholeB zs i=true):i+clsN (zs.getD i 0)<zs.length:=by
 unfold wholeB at h
 simp only[Bool.and_eq_true,decide_eq_true_eq]at h
 have:=allB_in h.1.1.1.2 (j:=clsN (zs.getD i 0)) (by omega) (Mz _)
 exact(contB_iff.mp this).1
theorem widA_in {zs:List Int} {i:Nat} (h:i<zs.length):i+widA zs i≤zs.length:=by
 unfold widA
 split
 ·omega
 ·split
  ·rename_i hw;have:=wholeB_end hw;omega
  ·omega
theorem runeA_le (zs:List Int) (i:Nat) (h0:0≤zs.getD i 0): -1≤runeA zs i∧runeA zs i≤1114111:=by
 unfold runeA
 split
 ·omega
 ·split
  ·rename_i hw
   unfold wholeB at hw
   simp only[Bool.and_eq_true,decide_eq_true_eq]at hw
   have h1:=hw.1.2
   have h2:=hw.1.1.2
   have h3 : 0 ≤ clsL (zs.getD i 0) := by unfold clsL; repeat' split
                                          all_goals omega
   omega
  ·omega
theorem runeA_bad {zs:List Int} {i:Nat} (h1: ¬zs.getD i 0<128) (h2:wholeB zs i=false):runeA zs i= -1∧widA zs i=1:=by
 unfold runeA widA
 rw[if_neg h1,if_neg h1,h2]
 exact⟨rfl,rfl⟩
theorem runeA_good {zs:List Int} {i:Nat} (h1: ¬zs.getD i 0<128) (h2:wholeB zs i=true):runeA zs i=cAt zs i (clsN (zs.getD i 0))∧widA zs i=clsN (zs.getD i 0)+1:=by
 unfold runeA widA
 rw[if_neg h1,if_neg h1,if_pos h2,if_pos h2]
 exact⟨rfl,rfl⟩
theorem runeA_low {zs:List Int} {i:Nat} (h1:zs.getD i 0<128):runeA zs i=zs.getD i 0∧widA zs i=1:=by
 unfold runeA widA
 rw[if_pos h1,if_pos h1]
 exact⟨rfl,rfl⟩
theorem nums_get (s:ByteArray) (k:Nat):(((s.get! k).toNat:Nat):Int)=(nums s).getD k 0:=by
 by_cases h:k<s.size
 ·rw[nums_at s k h]
  congr 2
  simp[ByteArray.get!,h]
  rfl
 ·rw[List.getD_eq_getElem?_getD,List.getElem?_eq_none (by rw[nums_length];omega)]
  have:s.get! k=0:=by
   simp[ByteArray.get!,h]
   rfl
  rw[this];rfl
theorem cont_get (s:ByteArray) (k:Nat):(decide (k<s.size)&&(s.get! k).toNat/64==2)=contB (nums s) k:=by
 have hg:=nums_get s k
 obtain⟨a,ha⟩: ∃a,(s.get! k).toNat=a:=⟨_,rfl⟩
 rw[ha]at hg ⊢
 unfold contB
 rw[nums_length,←hg]
 by_cases hk:k<s.size
 ·have e:(a/64==2)=(decide ((128:Int)≤a)&&decide ((a:Int)≤191)):=by
   rw[Bool.eq_iff_iff]
   simp only[beq_iff_eq,Bool.and_eq_true,decide_eq_true_eq]
   omega
  rw[e,Bool.and_assoc]
 ·simp[hk]
theorem decode_rune (s:ByteArray) (pos:Nat) (_h:pos<s.size):
  (runeA (nums s) pos= -1∧widA (nums s) pos=1∧Utf8.decode s pos=(65533,1))∨(0≤runeA (nums s) pos∧Utf8.decode s pos=((runeA (nums s) pos).toNat,widA (nums s) pos)):=by
 have g0:=nums_get s pos
 have g1:=nums_get s (pos+1)
 have g2:=nums_get s (pos+2)
 have g3:=nums_get s (pos+3)
 have c1:=cont_get s (pos+1)
 have c2:=cont_get s (pos+2)
 have c3:=cont_get s (pos+3)
 obtain⟨a0,e0⟩: ∃a,(s.get! pos).toNat=a:=⟨_,rfl⟩
 obtain⟨a1,e1⟩: ∃a,(s.get! (pos+1)).toNat=a:=⟨_,rfl⟩
 obtain⟨a2,e2⟩: ∃a,(s.get! (pos+2)).toNat=a:=⟨_,rfl⟩
 obtain⟨a3,e3⟩: ∃a,(s.get! (pos+3)).toNat=a:=⟨_,rfl⟩
 have b0:a0<256:=by rw[←e0];exact(s.get! pos).toNat_lt
 have b1:a1<256:=by rw[←e1];exact(s.get! (pos+1)).toNat_lt
 have b2:a2<256:=by rw[←e2];exact(s.get! (pos+2)).toNat_lt
 have b3:a3<256:=by rw[←e3];exact(s.get! (pos+3)).toNat_lt
 rw[e0]at g0
 rw[e1]at g1 c1
 rw[e2]at g2 c2
 rw[e3]at g3 c3
 simp only[Utf8.decode,Nat.add_zero,e0,e1,e2,e3,c1,c2,c3]
 generalize hzs:nums s=zs at*
 by_cases k0:a0<128
 ·rw[if_pos k0]
  obtain⟨r1,r2⟩:=runeA_low (zs:=zs) (i:=pos) (by omega)
  rw[r1,r2,←g0]
  exact Or.inr ⟨by omega,by simp⟩
 rw[if_neg k0]
 have kk: ¬zs.getD pos 0<128:=by omega
 have q1:allB zs pos 1=contB zs (pos+1):=by simp[allB]
 have q2:allB zs pos 2=(contB zs (pos+1)&&contB zs (pos+2)):=by simp[allB]
 have q3:allB zs pos 3=(contB zs (pos+1)&&contB zs (pos+2)&&contB zs (pos+3)):=by simp[allB]
 have none:wholeB zs pos=false→(runeA zs pos= -1∧widA zs pos=1∧(Utf8.runeError,1)=(65533,1)):=fun h=>⟨(runeA_bad kk h).1,(runeA_bad kk h).2,rfl⟩
 have some: ∀n c,wholeB zs pos=true→clsN (zs.getD pos 0)=n→cAt zs pos n=((c:Nat):Int)→(0≤runeA zs pos∧((c,n+1):Nat×Nat)=((runeA zs pos).toNat,widA zs pos)):=fun n c h hn hc=>by
  obtain⟨h1,h2⟩:=runeA_good kk h
  rw[h1,h2,hn,hc]
  exact⟨by omega,by simp⟩
 by_cases k2:192≤a0∧a0<224
 ·have n1:clsN (zs.getD pos 0)=1:=by unfold clsN;rw[if_pos (by omega)]
  have l1:clsL (zs.getD pos 0)=128:=by unfold clsL;rw[if_pos (by omega)]
  have v1:cAt zs pos 1=((a0:Int)-192)*64+a1-128:=by simp only[cAt,clsB];rw[if_pos (by omega),←g0,←g1];omega
  have t1:(a0/32==6)=true:=by simp;omega
  have t2:(a0/16==14)=false:=by simp;omega
  have t3:(a0/8==30)=false:=by simp;omega
  rw[t1,t2,t3]
  simp only[Bool.true_and,Bool.false_and,Bool.false_eq_true,if_false]
  cases hc1:contB zs (pos+1)with
  |false=>
   left
   simp only[Bool.false_eq_true,if_false]
   exact none (by unfold wholeB;rw[n1,q1,hc1];rfl)
  |true=>
   have:=contB_iff.mp hc1
   simp only[if_true]
   by_cases hv:a0%32*64+a1%64≥128
   ·rw[if_pos hv]
    right
    exact some 1 _ (by unfold wholeB;rw[n1,q1,hc1,l1,v1];simp;omega) n1 (by rw[v1];omega)
   ·rw[if_neg hv]
    left
    exact none (by unfold wholeB;rw[n1,q1,hc1,l1,v1];simp;omega)
 by_cases k3:224≤a0∧a0<240
 ·have n1:clsN (zs.getD pos 0)=2:=by unfold clsN;rw[if_neg (by omega),if_pos (by omega)]
  have l1:clsL (zs.getD pos 0)=2048:=by unfold clsL;rw[if_neg (by omega),if_pos (by omega)]
  have v1:cAt zs pos 2=64*(((a0:Int)-224)*64+a1-128)+a2-128:=by simp only[cAt,clsB];rw[if_neg (by omega),if_pos (by omega),←g0,←g1,←g2];omega
  have t1:(a0/32==6)=false:=by simp;omega
  have t2:(a0/16==14)=true:=by simp;omega
  have t3:(a0/8==30)=false:=by simp;omega
  rw[t1,t2,t3]
  simp only[Bool.true_and,Bool.false_and,Bool.false_eq_true,if_false]
  cases hc:(contB zs (pos+1)&&contB zs (pos+2))with
  |false=>
   left
   simp only[Bool.false_eq_true,if_false]
   exact none (by unfold wholeB;rw[n1,q2,hc];rfl)
  |true=>
   have hcc:=hc
   rw[Bool.and_eq_true,contB_iff,contB_iff]at hcc
   simp only[if_true]
   obtain⟨c,hcv⟩: ∃c,a0%16*4096+a1%64*64+a2%64=c:=⟨_,rfl⟩
   rw[hcv]
   have hcx:(c:Int)=cAt zs pos 2:=by rw[v1];omega
   by_cases hv:(decide (c≥2048)&&Utf8.valid (c:Int))=true
   ·rw[if_pos hv]
    right
    refine some 2 _ ?_ n1 hcx.symm
    unfold wholeB Utf8.valid at*
    rw[n1,q2,hc,l1,←hcx]
    simp at hv ⊢;omega
   ·rw[if_neg hv]
    left
    refine none ?_
    unfold wholeB Utf8.valid at*
    rw[n1,q2,hc,l1,←hcx]
    simp at hv ⊢;omega
 by_cases k4:240≤a0∧a0<248
 ·have n1:clsN (zs.getD pos 0)=3:=by unfold clsN;rw[if_neg (by omega),if_neg (by omega),if_pos (by omega)]
  have l1:clsL (zs.getD pos 0)=65536:=by unfold clsL;rw[if_neg (by omega),if_neg (by omega),if_pos (by omega)]
  have v1:cAt zs pos 3=64*(64*(((a0:Int)-240)*64+a1-128)+a2-128)+a3-128:=by simp only[cAt,clsB];rw[if_neg (by omega),if_neg (by omega),if_pos (by omega),←g0,←g1,←g2,←g3];omega
  have t1:(a0/32==6)=false:=by simp;omega
  have t2:(a0/16==14)=false:=by simp;omega
  have t3:(a0/8==30)=true:=by simp;omega
  rw[t1,t2,t3]
  simp only[Bool.true_and,Bool.false_and,Bool.false_eq_true,if_false]
  cases hc:(contB zs (pos+1)&&contB zs (pos+2)&&contB zs (pos+3))with
  |false=>
   left
   simp only[Bool.false_eq_true,if_false]
   exact none (by unfold wholeB;rw[n1,q3,hc];rfl)
  |true=>
   have hcc:=hc
   rw[Bool.and_eq_true,Bool.and_eq_true,contB_iff,contB_iff,contB_iff]at hcc
   simp only[if_true]
   obtain⟨c,hcv⟩: ∃c,a0%8*262144+a1%64*4096+a2%64*64+a3%64=c:=⟨_,rfl⟩
   rw[hcv]
   have hcx:(c:Int)=cAt zs pos 3:=by rw[v1];omega
   by_cases hv:(decide (c≥65536)&&Utf8.valid (c:Int))=true
   ·rw[if_pos hv]
    right
    refine some 3 _ ?_ n1 hcx.symm
    unfold wholeB Utf8.valid at*
    rw[n1,q3,hc,l1,←hcx]
    simp at hv ⊢;omega
   ·rw[if_neg hv]
    left
    refine none ?_
    unfold wholeB Utf8.valid at*
    rw[n1,q3,hc,l1,←hcx]
    simp at hv ⊢;omega
 ·have n1:clsN (zs.getD pos 0)=0:=by unfold clsN;rw[if_neg (by omega),if_neg (by omega),if_neg (by omega)]
  have t1:(a0/32==6)=false:=by simp;omega
  have t2:(a0/16==14)=false:=by simp;omega
  have t3:(a0/8==30)=false:=by simp;omega
  rw[t1,t2,t3]
  simp only[Bool.false_and,Bool.false_eq_true,if_false]
  left
  exact none (by unfold wholeB;rw[n1];rfl)
end
section
def letterB (r:Int):Bool:=(decide (97≤r)&&decide (r≤122))||(decide (65≤r)&&decide (r≤90))||(decide (192≤r)&&decide (r≤591)&&decide (r≠215)&&decide (r≠247))||(decide (880≤r)&&decide (r≤1279))
def digitB (r:Int):Bool:=decide (48≤r)&&decide (r≤57)
def GoodL (l:List Int):Prop:= ∀i,i<l.length→0≤l.getD i 0
def nameOk (l:List Int) (i:Nat):Bool:=letterB (l.getD i 0)||digitB (l.getD i 0)||(decide (i+1≠l.length)&&(decide (l.getD i 0=95)||decide (l.getD i 0=45)))
def NameL (l:List Int):Prop:=1≤l.length∧l.length≤24∧letterB (l.getD 0 0)=true∧∀i,i<l.length→nameOk l i=true
def encL (r:Int):List Int:=
 if r<128 then [r]else if r<2048 then [192+r/64,128+r%64]else if r<65536 then [224+r/4096,128+r/64%64,128+r%64]else [240+r/262144,128+r/4096%64,128+r/64%64,128+r%64]
def hexD (n:Nat):Int:=if n<10 then 48+(n:Int)else 87+(n:Int)
def hexL (n:Nat):List Int:=if n<16 then [hexD n]else hexL (n/16)++ [hexD (n%16)]
termination_by n
decreasing_by omega
def quoteR (r:Int):List Int:=
 if r=34 then [92,34]else if r=92 then [92,92]else if r=10 then [92,110]else if r=9 then [92,116]else if r<32∨r=127 then [92,117,123]++hexL r.toNat++ [125]else encL r
def quoteB (l:List Int):List Int:=l.flatMap quoteR
def quoteL (l:List Int):List Int:= [34]++quoteB l++ [34]
end
section
inductive Qs where
 |start|norm (xs:List Int)|esc (xs:List Int)|uni (xs:List Int)|hex (xs:List Int) (k:Nat) (x:Int)|done (xs:List Int)|dead
def hexV (r:Int):Int:=if 48≤r∧r≤57 then r-48 else if 97≤r∧r≤102 then r-87 else-1
def ustep:Qs→Int→Qs
 | .start,r=>if r=34 then .norm []else .dead
 | .norm xs,r=>if r=34 then .done xs else if r<32∨r=127 then .dead else if r=92 then .esc xs else .norm (xs++ [r])
 | .esc xs,r=>if r=34∨r=92 then .norm (xs++ [r])else if r=110 then .norm (xs++ [10])else if r=116 then .norm (xs++ [9])else if r=117 then .uni xs else .dead
 | .uni xs,r=>if r=123 then .hex xs 0 0 else .dead
 | .hex xs k x,r=>if 0≤hexV r∧k<6 then .hex xs (k+1) (16*x+hexV r)else if r=125∧k≠0∧x≤1114111∧¬(55296≤x∧x<57344)then .norm (xs++ [x])else .dead
 | .done _,_=> .dead
 | .dead,_=> .dead
def ut (l:List Int) (i:Nat):Qs:=(l.take i).foldl ustep .start
def uf (l:List Int):Qs:=l.foldl ustep .start
def NoQ (l:List Int):Prop:= ∀xs,uf l≠ .done xs
def UnqL (l:List Int) (t:List Int) (c:Int):Prop:=
 (NoQ l∧t= []∧c=5)∨∃xs,uf l= .done xs∧((120<xs.length∧t= []∧c=9)∨(xs.length≤120∧t=xs.flatMap encL∧c=0))
end
section
def RuneOk (r:Int):Prop:=0≤r∧r≤1114111∧¬(55296≤r∧r<57344)
theorem getD_right (a b:List Int) (i:Nat):(a++b).getD (a.length+i) 0=b.getD i 0:=by
 simp only[List.getD_eq_getElem?_getD]
 rw[List.getElem?_append_right (by omega)]
 congr 2
 omega
theorem contB_right (a b:List Int) (i:Nat):contB (a++b) (a.length+i)=contB b i:=by
 unfold contB
 rw[getD_right,Kq]
 congr 2
 simp
theorem allB_right (a b:List Int) (i k:Nat):allB (a++b) (a.length+i) k=allB b i k:=by
 induction k with
 |zero=>rfl
 |succ k ih=>simp only[allB];rw[ih,Nat.add_assoc,contB_right]
theorem cAt_right (a b:List Int) (i k:Nat):cAt (a++b) (a.length+i) k=cAt b i k:=by
 induction k with
 |zero=>simp only[cAt];rw[getD_right]
 |succ k ih=>simp only[cAt];rw[ih,Nat.add_assoc,getD_right]
theorem wholeB_right (a b:List Int) (i:Nat):wholeB (a++b) (a.length+i)=wholeB b i:=by
 unfold wholeB
 rw[getD_right,allB_right,cAt_right]
theorem runeA_right (a b:List Int) (i:Nat):runeA (a++b) (a.length+i)=runeA b i:=by
 unfold runeA
 rw[getD_right,wholeB_right,cAt_right]
theorem widA_right (a b:List Int) (i:Nat):widA (a++b) (a.length+i)=widA b i:=by
 unfold widA
 rw[getD_right,wholeB_right]
theorem rfrom_right (a b:List Int): ∀(n i:Nat),b.length-i≤n→rfrom (a++b) (a.length+i)=rfrom b i:=by
 intro n
 induction n with
 |zero=>intro i hi;rw[rfrom_out (by rw[Kq];omega),rfrom_out (by omega)]
 |succ n ih=>
  intro i hi
  by_cases h:i<b.length
  ·rw[rfrom_in (by rw[Kq];omega),rfrom_in h,runeA_right,widA_right,Nat.add_assoc,ih (i+widA b i) (by have:=widA_pos b i;omega)]
  ·rw[rfrom_out (by rw[Kq];omega),rfrom_out h]
theorem runes_right (a b:List Int):rfrom (a++b) a.length=runesOf b:=rfrom_right a b b.length 0 (by omega)
theorem runes_nil:runesOf []= []:=rfrom_out (by simp)
theorem runes_enc {r:Int} (h:RuneOk r) (ys:List Int):runesOf (encL r++ys)=r::runesOf ys:=by
 obtain⟨h0,h1,h2⟩:=h
 have key: ∀a:List Int,0<a.length→runeA (a++ys) 0=r→widA (a++ys) 0=a.length→runesOf (a++ys)=r::runesOf ys:=fun a ha hr hw=>by
  have e:=rfrom_in (zs:=a++ys) (i:=0) (by rw[Kq];omega)
  rw[hr,hw,Ly,runes_right]at e
  exact e
 unfold encL
 split
 ·rename_i h3
  exact key [r] (by simp) (runeA_low (by simpa using h3)).1 (runeA_low (by simpa using h3)).2
 split
 ·rename_i h3 h4
  refine key _ (by simp) ?_ ?_
  all_goals
   have hb:([192+r/64,128+r%64]++ys).getD 0 0=192+r/64:=rfl
   have hc:([192+r/64,128+r%64]++ys).getD 1 0=128+r%64:=rfl
   have hn:clsN (([192+r/64,128+r%64]++ys).getD 0 0)=1:=by rw[hb];unfold clsN;rw[if_pos (by omega)]
   have hv:cAt ([192+r/64,128+r%64]++ys) 0 1=r:=by simp only[cAt,Ly];rw[hb,hc];unfold clsB;rw[if_pos (by omega)];omega
   have hw:wholeB ([192+r/64,128+r%64]++ys) 0=true:=by
    unfold wholeB
    rw[hn,hv,hb]
    have:allB ([192+r/64,128+r%64]++ys) 0 1=true:=by simp only[allB,Bool.true_and,Ly];exact contB_iff.mpr ⟨by simp,by rw[hc];omega,by rw[hc];omega⟩
    rw[this];unfold clsL;rw[if_pos (by omega)];simp;omega
   have:=runeA_good (by rw[hb];omega) hw
   rw[hn,hv]at this
   first|exact this.1|exact this.2
 split
 ·rename_i h3 h4 h5
  refine key _ (by simp) ?_ ?_
  all_goals
   have hb:([224+r/4096,128+r/64%64,128+r%64]++ys).getD 0 0=224+r/4096:=rfl
   have hc:([224+r/4096,128+r/64%64,128+r%64]++ys).getD 1 0=128+r/64%64:=rfl
   have hd:([224+r/4096,128+r/64%64,128+r%64]++ys).getD 2 0=128+r%64:=rfl
   have hn:clsN (([224+r/4096,128+r/64%64,128+r%64]++ys).getD 0 0)=2:=by rw[hb];unfold clsN;rw[if_neg (by omega),if_pos (by omega)]
   have hv:cAt ([224+r/4096,128+r/64%64,128+r%64]++ys) 0 2=r:=by simp only[cAt,Ly];rw[hb,hc,hd];unfold clsB;rw[if_neg (by omega),if_pos (by omega)];omega
   have hw:wholeB ([224+r/4096,128+r/64%64,128+r%64]++ys) 0=true:=by
    unfold wholeB
    rw[hn,hv,hb]
    have:allB ([224+r/4096,128+r/64%64,128+r%64]++ys) 0 2=true:=by
     simp only[allB,Bool.true_and,Ly,Bool.and_eq_true]
     exact⟨contB_iff.mpr ⟨by simp,by rw[hc];omega,by rw[hc];omega⟩,contB_iff.mpr ⟨by simp,by rw[hd];omega,by rw[hd];omega⟩⟩
    rw[this];unfold clsL;rw[if_neg (by omega),if_pos (by omega)];simp;omega
   have:=runeA_good (by rw[hb];omega) hw
   rw[hn,hv]at this
   first|exact this.1|exact this.2
 ·rename_i h3 h4 h5
  refine key _ (by simp) ?_ ?_
  all_goals
   have hb:([240+r/262144,128+r/4096%64,128+r/64%64,128+r%64]++ys).getD 0 0=240+r/262144:=rfl
   have hc:([240+r/262144,128+r/4096%64,128+r/64%64,128+r%64]++ys).getD 1 0=128+r/4096%64:=rfl
   have hd:([240+r/262144,128+r/4096%64,128+r/64%64,128+r%64]++ys).getD 2 0=128+r/64%64:=rfl
   have he:([240+r/262144,128+r/4096%64,128+r/64%64,128+r%64]++ys).getD 3 0=128+r%64:=rfl
   have hn:clsN (([240+r/262144,128+r/4096%64,128+r/64%64,128+r%64]++ys).getD 0 0)=3:=by rw[hb];unfold clsN;rw[if_neg (by omega),if_neg (by omega),if_pos (by omega)]
   have hv:cAt ([240+r/262144,128+r/4096%64,128+r/64%64,128+r%64]++ys) 0 3=r:=by simp only[cAt,Ly];rw[hb,hc,hd,he];unfold clsB;rw[if_neg (by omega),if_neg (by omega),if_pos (by omega)];omega
   have hw:wholeB ([240+r/262144,128+r/4096%64,128+r/64%64,128+r%64]++ys) 0=true:=by
    unfold wholeB
    rw[hn,hv,hb]
    have:allB ([240+r/262144,128+r/4096%64,128+r/64%64,128+r%64]++ys) 0 3=true:=by
     simp only[allB,Bool.true_and,Ly,Bool.and_eq_true]
     exact⟨⟨contB_iff.mpr ⟨by simp,by rw[hc];omega,by rw[hc];omega⟩,contB_iff.mpr ⟨by simp,by rw[hd];omega,by rw[hd];omega⟩⟩,contB_iff.mpr ⟨by simp,by rw[he];omega,by rw[he];omega⟩⟩
    rw[this];unfold clsL;rw[if_neg (by omega),if_neg (by omega),if_pos (by omega)];simp;omega
   have:=runeA_good (by rw[hb];omega) hw
   rw[hn,hv]at this
   first|exact this.1|exact this.2
theorem runes_low {r:Int} (h0:0≤r) (h:r<128) (ys:List Int):runesOf (r::ys)=r::runesOf ys:=by
 have:=runes_enc (r:=r) ⟨h0,by omega,by omega⟩ ys
 unfold encL at this
 rw[if_pos h]at this
 exact this
end
section
def quoteU (r:Int):List Int:=
 if r=34 then [92,34]else if r=92 then [92,92]else if r=10 then [92,110]else if r=9 then [92,116]else if r<32∨r=127 then [92,117,123]++hexL r.toNat++ [125]else [r]
theorem runes_ascii (a:List Int) (h: ∀z∈a,0≤z∧z<128) (ys:List Int):runesOf (a++ys)=a++runesOf ys:=by
 induction a with
 |nil=>rfl
 |cons z a ih=>
  have:=h z List.mem_cons_self
  rw[List.cons_append,runes_low this.1 this.2,ih (fun x hx=>h x (List.mem_cons_of_mem _ hx))];rfl
end
section
def posOf (zs:List Int):Nat→Nat
 |0=>0
 |k+1=>if posOf zs k<zs.length then posOf zs k+widA zs (posOf zs k)else posOf zs k
def foldB (z:Int):Int:=if 65≤z∧z≤90 then z+32 else z
end
end Go.Proofs.YtgmfkbamfnkbgaaDoor
