/-
  Package scan's token, walked; and what a front's piece is.
-/
import Derived.Test.YtalcagmhdppdjaaGreatDoorPkCompileTurns06
set_option maxRecDepth 100000
set_option maxHeartbeats 8000000
namespace Go.Proofs.YtalcagmhdppdjaaGreatDoor
open Lib renaming hid→Lh
open Go.RowKit.Below renaming refl→Mj
open List renaming getD_eq_getElem?_getD→Mk,getElem?_eq_getElem→Kh
open Nat renaming le_refl→Mz
section
open Go.RowKit
def GivesNu (p:Nat×Int) (w:World) (e:Ending) (w':World):Prop:=e= .returned (.tuple #[.int .u64 (p.1:Int), .int .i64 p.2])∧Below w.heap.size w w'
def narF (N:Nat) (c:Int):Nat×Int:=if c=3∨18446744073709551615<N then(0,8)else(N,c)
theorem snarrow_any (h l c:Int) (N:Nat) (w:World) (hW:IsW h l N):Calls Tryz.prog 131 #[.agg #[.int .u64 h, .int .u64 l], .int .i64 c] w (GivesNu (narF N c) w):=by
 obtain⟨h0,h1,l0,l1,hn⟩:=hW
 have hbel:Below w.heap.size w (w.alloc (.cells #[.int .u64 h, .int .u64 l] 194)):=(Mj _ _).alloc (Mz _) _
 by_cases hc:c=3
 ·have e:Hid (narF N c=(0,8)):=if_pos (Or.inl hc)
  have HB:=Lh hbel
  subst hc
  clear hn hbel
  go_enter Tryz.func131,Tryz.ntmps131
  go_wp2
  go_ret2
  exact⟨by rw[e.out];rfl,HB.out⟩
 ·have hcb:(c==3)=false:=by simpa using hc
  by_cases hh:h=0
  ·have e:Hid (narF N c=(N,c)):=if_neg (by omega)
   have hl:Hid (l=(N:Int)):=Lh (by omega)
   have HB:=Lh hbel
   subst hh
   clear hn hbel hc
   go_enter Tryz.func131,Tryz.ntmps131
   go_wp2
   go_ret2
   exact⟨by rw[e.out,hl.out];rfl,HB.out⟩
  ·have e:Hid (narF N c=(0,8)):=if_pos (Or.inr (by omega))
   have HB:=Lh hbel
   have hhb:(h !=0)=true:=by simpa using hh
   clear hn hbel hc hh
   go_enter Tryz.func131,Tryz.ntmps131
   go_wp2
   go_ret2
   exact⟨by rw[e.out];rfl,HB.out⟩
theorem sread_num (s:ByteArray) (hm:s.size≤9223372036854775807): ∃(N:Nat) (c:Int),narF N c=numF (nums s)∧∀w,Calls Tryz.prog 132 #[.string s] w (GivesWC N c w):=by
 by_cases h:Dg (nums s)
 ·refine⟨_,_,?_,fun w=>eread_yes s w hm h⟩
  by_cases hW:W128 (numOf (nums s))
  ·rw[capN_in hW,capC_in hW]
   unfold narF
   by_cases hn:numOf (nums s)≤18446744073709551615
   ·rw[if_neg (by omega),numF_fine h hn]
   ·rw[if_pos (by omega),numF_big h hn]
  ·rw[capN_out hW,capC_out hW,numF_big h (fun hn=>hW (by unfold W128;omega))]
   rfl
 ·exact⟨0,5,by rw[numF_no h];rfl,fun w=>eread_no s w hm h⟩
theorem numOf_lt_all {A:List Int} {n:Nat} (hn:A.length=n) (h: ∀i,i<n→48≤A.getD i 0∧A.getD i 0≤57):numOf A<10^n:=by
 have:=numOf_lt (A:=A) (fun i hi=>h i (by omega)) A.length (Mz _)
 rw[List.take_length,hn]at this
 exact this
structure TAt (B:List Int) (pos:Nat) (P u:Int):Prop where
 few:pos≤3
 len:pos≤B.length
 u:u=((10^(3-pos):Nat):Int)
 p:P=((numOf (B.take pos)*10^(3-pos):Nat):Int)
 all: ∀i,i<pos→48≤B.getD i 0∧B.getD i 0≤57
theorem TAt.start (B:List Int):TAt B 0 0 1000:=⟨by decide,Nat.zero_le _,rfl,by simp[numOf],fun i h=>by omega⟩
theorem TAt.low {B:List Int} {pos:Nat} {P u:Int} (h:TAt B pos P u):numOf (B.take pos)<10^pos:=numOf_lt_all (n:=pos) (by rw[List.length_take];have:=h.len;omega) (fun i hi=>by rw[getD_take hi];exact h.all i hi)
theorem TAt.bounds {B:List Int} {pos:Nat} {P u:Int} (h:TAt B pos P u):0≤P∧P≤999∧1≤u∧u≤1000:=by
 have hl:=h.low
 obtain⟨h1,h2,h3,h4,h5⟩:=h
 subst h3;subst h4
 generalize numOf (B.take pos)=x at hl
 have hp:pos=0∨pos=1∨pos=2∨pos=3:=by omega
 rcases hp with rfl|rfl|rfl|rfl<;>simp at hl ⊢ <;>omega
theorem TAt.unit {B:List Int} {pos:Nat} {P u:Int} (h:TAt B pos P u) (hp: ¬pos=3): ∃v,u/10=v∧1≤v∧v≤100∧v=((10^(2-pos):Nat):Int):=by
 obtain⟨h1,h2,h3,h4,h5⟩:=h
 subst h3
 have hp:pos=0∨pos=1∨pos=2:=by omega
 rcases hp with rfl|rfl|rfl<;>exact⟨_,rfl,by decide,by decide,by decide⟩
theorem TAt.stop {B:List Int} {P u:Int} (h:TAt B 3 P u):u/10=0:=by
 rw[h.u];rfl
theorem TAt.next {B:List Int} {pos:Nat} {P u v z m:Int} (h:TAt B pos P u) (hp: ¬pos=3) (hl:pos<B.length) (hv:v=((10^(2-pos):Nat):Int)) (hz:B.getD pos 0=z) (h1:48≤z) (h2:z≤57) (hm:v*(z-48)=m):
  TAt B (pos+1) (P+m) v:=by
 have hf:=h.few
 refine⟨by omega,hl,by rw[hv,show 3-(pos+1)=2-pos by omega],?_,fun i hi=>?_⟩
 ·have e:z-48=(((z-48).toNat:Nat):Int):=by omega
  have e2:10^(3-pos)=10*10^(2-pos):=by rw[show 3-pos=(2-pos)+1 by omega,Nat.pow_succ];omega
  rw[numOf_step _ _ hl,hz,h.p,←hm,hv,e,Int.toNat_natCast,e2,show 3-(pos+1)=2-pos by omega]
  generalize numOf (B.take pos)=x
  generalize 10^(2-pos)=y
  generalize (z-48).toNat=d
  rw[Nat.add_mul]
  push_cast
  grind
 ·by_cases e:i=pos
  ·subst e;rw[hz];exact⟨h1,h2⟩
  ·exact h.all i (by omega)
theorem TAt.done {B:List Int} {pos:Nat} {P u:Int} (h:TAt B pos P u) (hl:pos=B.length):P=(t3 B:Int)∧B.length≤3∧∀i,i<B.length→48≤B.getD i 0∧B.getD i 0≤57:=by
 obtain⟨h1,h2,h3,h4,h5⟩:=h
 subst hl
 refine⟨?_,h1,h5⟩
 rw[h4,List.take_length]
 unfold t3
 clear h2 h3 h4 h5
 rcases B with _|⟨a,_|⟨b,_|⟨c,_|⟨d,t⟩⟩⟩⟩
 ·simp[numOf]
 ·simp[numOf];omega
 ·simp[numOf];omega
 ·simp[numOf]
 ·simp at h1
def GivesT3 (B:List Int) (w:World) (e:Ending) (w':World):Prop:= ∃(x:Int) (b:Bool),e= .returned (.tuple #[.int .u64 x, .bool b])∧(b=true↔AllD B∧B.length≤3)∧(b=true→x=(t3 B:Int))∧Below w.heap.size w w'
theorem sthou_any (s:ByteArray) (w:World) (hm:s.size≤9223372036854775807):Calls Tryz.prog 153 #[.string s] w (GivesT3 (nums s) w):=by
 have hlen:Hid ((nums s).length=s.size):=nums_length s
 go_enter Tryz.func153,Tryz.ntmps153
 go_wp2
 go_loopw [4,5,7] (fun v4 v5 _ w'=> ∃(pos:Nat) (P u:Int),v4= .int .u64 P∧v5= .int .u64 u∧TAt (nums s) pos P u∧w'=w.iter s pos) (fun _ _ _ w'=>s.size-w'.iterPos w.heap.size)
 case atStart=>exact⟨0,0,1000,rfl,rfl,TAt.start _,rfl⟩
 case round=>
  obtain⟨pos,P,u,rfl,rfl,hB,rfl⟩:=hrel
  obtain⟨b0,b1,b2,b3⟩:=hB.bounds
  have HB:=Lh hB
  clear hB
  by_cases h1:pos<s.size
  ·obtain⟨z,p,hnx,zl,zh,hyes,hno⟩:=next_rune (w.iter s pos) w.heap.size s pos (World.iter_heap w s pos) h1
   simp only[iter_at]at hnx
   replace hyes:=Lh hyes
   replace hno:=Lh hno
   by_cases h4:pos=3
   ·subst h4
    have hu:=HB.out.stop
    have hfin:Hid (¬(AllD (nums s)∧(nums s).length≤3)):=Lh (by rintro⟨_,h2⟩;have h3:=hlen.out;omega)
    go_wp2
    go_ret2
    exact⟨0,false,rfl,⟨fun e=>Bool.noConfusion e,fun f=>(hfin.out f).elim⟩,fun e=>Bool.noConfusion e,iter_below _ _ _⟩
   ·obtain⟨v,hv,v1,v2,hvp⟩:=HB.out.unit h4
    replace hvp:=Lh hvp
    have hv0:(v==0)=false:=by simp;omega
    obtain⟨q,hq⟩: ∃q,digitB z=q:=⟨_,rfl⟩
    have RD:=Lh (fun w=>sdg_is hq w)
    cases q with
    |false=>
     have hnd: ¬(48≤z∧z≤57):=fun hd=>by unfold digitB at hq;simp[hd]at hq
     have hfin:Hid (¬(AllD (nums s)∧(nums s).length≤3)):=Lh (by rintro⟨h2,_⟩;exact hno.out hnd (h2.2 pos (by have:=hlen.out;omega)))
     clear hnd hq
     go_wp2_with (go_at_call 107;(with_reducible refine(RD.out _).mono ?_);rintro e w1 ⟨rfl,rfl⟩)
     go_ret2
     exact⟨0,false,rfl,⟨fun e=>Bool.noConfusion e,fun f=>(hfin.out f).elim⟩,fun e=>Bool.noConfusion e,iter_below _ _ _⟩
    |true=>
     have hd:48≤z∧z≤57:=by unfold digitB at hq;simpa using hq
     obtain⟨d0,d1⟩:=hd
     obtain⟨rfl,hz2⟩:=hyes.out ⟨d0,d1⟩
     obtain⟨m,hmm⟩: ∃m,v*(z-48)=m:=⟨_,rfl⟩
     have hnext:=Lh (HB.out.next h4 (by have:=hlen.out;omega) hvp.out hz2 (by omega) (by omega) hmm)
     have hnb:=hnext.out.bounds
     have m0:0≤m:=by rw[←hmm];exact Int.mul_nonneg (by omega) (by omega)
     have m1:P+m≤999:=hnb.2.1
     have hzk:0≤z-48:=by omega
     replace hz2:=Lh hz2
     clear hnb hq
     go_wp2_with (go_at_call 107;(with_reducible refine(RD.out _).mono ?_);rintro e w1 ⟨rfl,rfl⟩)
     go_roundw
     case rel=>exact⟨pos+1,P+m,v,by rw[←hmm],rfl,hnext.out,rfl⟩
     case measure=>simp;omega
  ·have hnx: ∀ty,(Instr.next (.pointer (some ⟨w.heap.size,0,none⟩)) true ty).run Tryz.prog (w.iter s pos)=_:=fun ty=>run_next_end w s pos ty h1
   have hpe:Hid (pos=(nums s).length):=by have h2:=HB.out.len;have h3:=hlen.out;unfold Hid;omega
   have hfin:=Lh (HB.out.done hpe.out)
   by_cases hz:s.size=0
   ·have hs:s=⟨#[]⟩:=by
     have hn:nums s= []:=List.eq_nil_of_length_eq_zero (by rw[nums_length];exact hz)
     have:=strOfNums_nums s
     rw[hn]at this
     exact this.symm
    have hno:Hid (¬(AllD (nums s)∧(nums s).length≤3)):=Lh (by rintro⟨h2,_⟩;exact h2.1 (List.eq_nil_of_length_eq_zero (by rw[nums_length];exact hz)))
    subst hs
    clear hz
    go_wp2
    go_ret2
    exact⟨P,false,rfl,⟨fun e=>Bool.noConfusion e,fun f=>(hno.out f).elim⟩,fun e=>Bool.noConfusion e,iter_below _ _ _⟩
   ·obtain⟨e1,e2⟩:=toList_empty (s:=s) (by omega)
    have hyes:Hid (AllD (nums s)∧(nums s).length≤3):=Lh ⟨⟨fun e=>hz (by rw[←nums_length,e];rfl),hfin.out.2.2⟩,hfin.out.2.1⟩
    clear hz
    go_wp2
    go_ret2
    exact⟨P,true,rfl,⟨fun _=>hyes.out,fun _=>rfl⟩,fun _=>hfin.out.1,iter_below _ _ _⟩
theorem digits_runes {zs:List Int} (hb: ∀z∈zs,0≤z∧z≤255):(∀r∈runesOf zs,digitB r=true)↔∀z∈zs,48≤z∧z≤57:=by
 have hd: ∀z:Int,digitB z=true↔48≤z∧z≤57:=fun z=>by unfold digitB;simp
 constructor
 ·intro h
  have h1: ∀r∈runesOf zs,48≤r∧r≤57:=fun r hr=>(hd r).mp (h r hr)
  have h2:=text_runes hb (fun r hr=>by have:=h1 r hr;omega)
  rw[text_ascii (fun r hr=>by have:=h1 r hr;omega)]at h2
  rw[←h2]
  exact h1
 ·intro h
  rw[runes_of_ascii (fun z hz=>by have:=h z hz;omega)]
  exact fun r hr=>(hd r).mpr (h r hr)
theorem told_digit {y z:Int} (h:(z= -1∧y=65533)∨(0≤z∧y=z)):digitB y=digitB z:=by
 rcases h with⟨rfl,rfl⟩|⟨_,rfl⟩
 ·decide
 ·rfl
theorem sonly_any (s:ByteArray) (w:World) (_hm:s.size≤9223372036854775807):Calls Tryz.prog 128 #[.string s] w (GivesQ (∀z∈nums s,48≤z∧z≤57) w):=by
 have HD:=Lh (digits_runes (nums_byte s))
 go_enter Tryz.func128,Tryz.ntmps128
 go_wp2
 go_loopw [4] (fun _ wr=> ∃k:Nat,(∀j,j<k→digitB ((runesOf (nums s)).getD j 0)=true)∧wr=w.iter s (posOf (nums s) k)) (fun _ wr=>s.size-wr.iterPos w.heap.size)
 case atStart=>exact⟨0,fun j hj=>by omega,rfl⟩
 case round=>
  obtain⟨k,hk,rfl⟩:=hrel
  have HK:=Lh hk
  clear hk
  by_cases h1:posOf (nums s) k<s.size
  ·obtain⟨y,hnx,y0,y1,hi,ht,hlt,hle,_⟩:=rune_step w s k h1
   have HI:=Lh hi
   have HLT:=Lh hlt
   have HLE:=Lh hle
   have HW:=Lh (told_digit ht)
   clear hi ht hlt hle h1
   obtain⟨P,hP⟩: ∃P,posOf (nums s) k=P:=⟨_,rfl⟩
   obtain⟨Q,hQ⟩: ∃Q,posOf (nums s) (k+1)=Q:=⟨_,rfl⟩
   rw[hP,hQ]at hnx HLT
   rw[hQ]at HLE
   rw[hP]at ⊢
   have HQ:=Lh hQ
   clear hP hQ
   obtain⟨q,hq⟩: ∃q,digitB y=q:=⟨_,rfl⟩
   have RI:=Lh (fun w=>sdg_is hq w)
   rw[hq]at HW
   clear hq
   cases q with
   |false=>
    have hno:Hid (¬∀z∈nums s,48≤z∧z≤57):=Lh (fun h=>by
     have h2:=HD.out.mpr h _ (getD_mem HI.out)
     rw[←HW.out]at h2;cases h2)
    go_wp2_with (go_at_call 107;(with_reducible refine(RI.out _).mono ?_);rintro e w2 ⟨rfl,rfl⟩)
    go_ret
    exact GivesQ.no hno.out (iter_new _ _ _)
   |true=>
    have hnx2:Hid (∀j,j<k+1→digitB ((runesOf (nums s)).getD j 0)=true):=Lh (fun j hj=>by
     by_cases e:j=k
     ·rw[e];exact HW.out.symm
     ·exact HK.out j (by omega))
    go_wp2_with (go_at_call 107;(with_reducible refine(RI.out _).mono ?_);rintro e w2 ⟨rfl,rfl⟩)
    go_roundw
    case rel=>exact⟨k+1,hnx2.out,by rw[HQ.out]⟩
    case measure=>simp;have:=HLT.out;have:=HLE.out;omega
  ·have hnx: ∀ty,(Instr.next (.pointer (some ⟨w.heap.size,0,none⟩)) true ty).run Tryz.prog (w.iter s (posOf (nums s) k))=_:=fun ty=>run_next_end w s (posOf (nums s) k) ty h1
   have hend:=rune_end h1
   have hyes:Hid (∀z∈nums s,48≤z∧z≤57):=Lh (HD.out.mp (fun r hr=>by
    obtain⟨i,hi,rfl⟩:=List.mem_iff_getElem.mp hr
    have:=HK.out i (by omega)
    rw[Mk,Kh hi]at this
    exact this))
   clear hend h1
   go_wp2
   go_ret
   exact GivesQ.yes hyes.out (iter_new _ _ _)
theorem suffix_is (s:ByteArray):(Lib.hasSuffix s.data.toList [37]=true)↔∃ys,nums s=ys++ [37]:=by
 constructor
 ·intro h
  unfold Lib.hasSuffix at h
  obtain⟨t,ht⟩:=List.isSuffixOf_iff_suffix.mp h
  refine⟨t.map fun b=>(b.toNat:Int),?_⟩
  rw[nums,←ht]
  simp
 ·rintro⟨ys,hy⟩
  have hl:s.data.toList≠ []:=fun e=>by rw[nums,e]at hy;simp at hy
  have hx:=List.dropLast_concat_getLast hl
  rw[nums,←hx,List.map_append]at hy
  have hlast:((s.data.toList.getLast hl).toNat:Int)=37:=by
   have:=congrArg List.getLast? hy
   simpa using this
  have h37:s.data.toList.getLast hl=37:=UInt8.toNat_inj.mp (by have e:(37:UInt8).toNat=37:=rfl;omega)
  unfold Lib.hasSuffix
  exact List.isSuffixOf_iff_suffix.mpr ⟨s.data.toList.dropLast,by rw[←h37];exact hx⟩
theorem suffix_last {s:ByteArray} (h:0<s.size):(Lib.hasSuffix s.data.toList [37]=true)↔(nums s).getD ((nums s).length-1) 0=37:=by
 rw[suffix_is,nums_length]
 exact⟨fun⟨ys,hy⟩=>ends_last hy,fun e=>ends_of h e⟩
theorem contains_point (s:ByteArray):(decide (0≤Lib.indexByte s.data.toList 46)=true)↔46∈nums s:=by
 have hge:=Lib.indexByte_ge s.data.toList 46
 rw[decide_eq_true_iff,point_in]
 constructor
 ·intro h
  obtain⟨i,hi⟩: ∃i:Nat,Lib.indexByte s.data.toList 46=i:=⟨(Lib.indexByte s.data.toList 46).toNat,by omega⟩
  exact List.mem_of_getElem? (Lib.indexByte_some hi).1
 ·intro hc
  refine Classical.byContradiction fun hn=>?_
  have h1:Lib.indexByte s.data.toList 46= -1:=by omega
  obtain⟨k,hk,e⟩:=List.mem_iff_getElem.mp hc
  exact Lib.indexByte_none h1 k (by rw[Kh hk,e])
noncomputable def kindF (zs:List Int):Int:=open Classical in if AllD zs then 3 else if zs.getD (zs.length-1) 0=37 then 5 else if 46∈zs then 4 else 6
theorem allD_iff {s:ByteArray} (h:0<s.size):AllD (nums s)↔∀z∈nums s,48≤z∧z≤57:=by
 refine⟨allD_digits,fun g=>⟨fun e=>?_,fun i hi=>g _ (getD_mem hi)⟩⟩
 have:=nums_length s
 rw[e]at this
 simp at this;omega
theorem snkind_any (s:ByteArray) (w:World) (hm:s.size≤9223372036854775807) (h:0<s.size):Calls Tryz.prog 109 #[.string s] w fun e w'=>e= .returned (.int .i64 (kindF (nums s)))∧Below w.heap.size w w':=by
 have HA:=Lh (allD_iff h)
 have RO:=Lh (fun W=>sonly_any s W hm)
 have RS:=Lh (fun W=>Tryz.strings_HasSuffix s ⟨#[37]⟩ W hm)
 have RC:=Lh (fun W=>Tryz.strings_Contains_one s 46 W)
 have hs:=suffix_last h
 have hc:=contains_point s
 have e37:(⟨#[37]⟩:ByteArray).data.toList= [37]:=rfl
 rw[e37]at RS
 generalize Lib.hasSuffix s.data.toList [37]=qs at RS hs
 generalize decide (0≤Lib.indexByte s.data.toList 46)=qc at RC hc
 have HS:=Lh hs
 have HC:=Lh hc
 obtain⟨K,hK⟩: ∃K,kindF (nums s)=K:=⟨_,rfl⟩
 have hKe:K=(open Classical in if AllD (nums s)then 3 else if(nums s).getD ((nums s).length-1) 0=37 then 5 else if 46∈nums s then 4 else 6):=hK.symm
 rw[hK]
 have HKe:=Lh hKe
 clear hs hc hK hKe h e37
 by_cases h1:AllD (nums s)
 ·have hk:Hid (K=3):=Lh (by rw[HKe.out,if_pos h1])
  have hy:=Lh (HA.out.mp h1)
  clear h1
  go_enter Tryz.func109,Tryz.ntmps109
  go_wp2_with (go_at_call 128;(with_reducible refine(RO.out _).mono ?_);rintro e w1 ⟨q,rfl,hq,g1⟩;obtain rfl:q=true:=hq.mpr hy.out;have G1:=Lh g1;clear hq g1)
  go_ret
  exact⟨by rw[hk.out];rfl,G1.out⟩
 ·have hn:=Lh (fun g=>h1 (HA.out.mpr g))
  have hke:Hid (K=(open Classical in if(nums s).getD ((nums s).length-1) 0=37 then 5 else if 46∈nums s then 4 else 6)):=Lh (by rw[HKe.out,if_neg h1])
  clear h1 HKe
  cases qs with
  |true=>
   have hk:Hid (K=5):=Lh (by rw[hke.out,if_pos (HS.out.mp rfl)])
   go_enter Tryz.func109,Tryz.ntmps109
   go_wp2_with (first
    |(go_at_call 128;(with_reducible refine(RO.out _).mono ?_);rintro e w1 ⟨q,rfl,hq,g1⟩;obtain rfl:q=false:=(by cases q with|false=>rfl|true=>exact(hn.out (hq.mp rfl)).elim);have G1:=Lh g1;clear hq g1)
    |(go_at_call 129;(with_reducible refine(RS.out _).mono ?_);rintro e w2 ⟨rfl,rfl⟩))
   go_ret
   exact⟨by rw[hk.out];rfl,G1.out⟩
  |false=>
   have hke2:Hid (K=(open Classical in if 46∈nums s then 4 else 6)):=Lh (by rw[hke.out,if_neg (fun e=>by have:=HS.out.mpr e;cases this)])
   clear hke
   cases qc with
   |true=>
    have hk:Hid (K=4):=Lh (by rw[hke2.out,if_pos (HC.out.mp rfl)])
    go_enter Tryz.func109,Tryz.ntmps109
    go_wp2_with (first
     |(go_at_call 128;(with_reducible refine(RO.out _).mono ?_);rintro e w1 ⟨q,rfl,hq,g1⟩;obtain rfl:q=false:=(by cases q with|false=>rfl|true=>exact(hn.out (hq.mp rfl)).elim);have G1:=Lh g1;clear hq g1)
     |(go_at_call 129;(with_reducible refine(RS.out _).mono ?_);rintro e w2 ⟨rfl,rfl⟩)
     |(go_at_call 130;(with_reducible refine(RC.out _).mono ?_);rintro e w3 ⟨rfl,rfl⟩))
    go_ret
    exact⟨by rw[hk.out];rfl,G1.out⟩
   |false=>
    have hk:Hid (K=6):=Lh (by rw[hke2.out,if_neg (fun e=>by have:=HC.out.mpr e;cases this)])
    go_enter Tryz.func109,Tryz.ntmps109
    go_wp2_with (first
     |(go_at_call 128;(with_reducible refine(RO.out _).mono ?_);rintro e w1 ⟨q,rfl,hq,g1⟩;obtain rfl:q=false:=(by cases q with|false=>rfl|true=>exact(hn.out (hq.mp rfl)).elim);have G1:=Lh g1;clear hq g1)
     |(go_at_call 129;(with_reducible refine(RS.out _).mono ?_);rintro e w2 ⟨rfl,rfl⟩)
     |(go_at_call 130;(with_reducible refine(RC.out _).mono ?_);rintro e w3 ⟨rfl,rfl⟩))
    go_ret
    exact⟨by rw[hk.out];rfl,G1.out⟩
end
section
open Go.RowKit
theorem narF_small {X:Nat} (h:X≤18446744073709551615):narF X 0=(X,0):=if_neg (by omega)
theorem narF_big {X:Nat} (h:18446744073709551615<X):narF X 0=(0,8):=if_pos (Or.inr h)
theorem sfac_any (s:ByteArray) (w:World) (hm:s.size≤4294967296) (hp:46∈nums s):Calls Tryz.prog 134 #[.string s] w (GivesNu (facF (headP (nums s)) (tailP (nums s))) w):=by
 obtain⟨a,b,d,hH,ha,hb,hcut⟩:=cut_any s (by omega)
 have hd:d=true:=by
  cases d with
  |true=>rfl
  |false=>
   have h1:=hH.all
   simp only[Bool.false_eq_true,if_false,List.append_nil]at h1
   rw[h1]at hp
   exact(hH.none hp).elim
 subst hd
 have hall:nums s=nums a++46::nums b:=by have:=hH.all;simpa using this
 obtain⟨e1,e2⟩:=head_tail (a:=nums a) (b:=nums b) (fun z hz e=>hH.none (by rw[←e];exact hz))
 rw[hall,e1,e2]
 obtain⟨N,c,hN,hRd⟩:=sread_num a (by omega)
 have RC:=Lh hcut
 have RT:=Lh (fun W=>sthou_any b W (by omega))
 have RR:=Lh hRd
 have hbd:=numF_bd (nums a)
 obtain⟨F,hF⟩: ∃F,facF (nums a) (nums b)=F:=⟨_,rfl⟩
 have hFe:F=(open Classical in if AllD (nums b)∧(nums b).length≤3 then(if(numF (nums a)).2=0 then(if(18446744073709551615-t3 (nums b))/1000<(numF (nums a)).1 then(0,8)else(1000*(numF (nums a)).1+t3 (nums b),0))else(0,(numF (nums a)).2))else(0,5)):=hF.symm
 rw[hF]
 have HF:=Lh hFe
 clear hF hFe hall e1 e2 hH ha hb hcut hRd hp
 by_cases hok:AllD (nums b)∧(nums b).length≤3
 ·have HOK:=Lh hok
  have HF2:Hid (F=if(numF (nums a)).2=0 then(if(18446744073709551615-t3 (nums b))/1000<(numF (nums a)).1 then(0,8)else(1000*(numF (nums a)).1+t3 (nums b),0))else(0,(numF (nums a)).2)):=Lh (by rw[HF.out,if_pos hok])
  clear HF hok
  have ht3:t3 (nums b)≤999:=by
   have h1:=numOf_lt_all (A:=(nums b++List.replicate (3-(nums b).length) 48).take 3) (n:=3) (by have:=HOK.out.2;simp;omega) (fun i hi=>by
    rw[getD_take hi]
    by_cases hil:i<(nums b).length
    ·rw[Mk,List.getElem?_append_left hil,←Mk]
     exact HOK.out.1.2 i hil
    ·rw[Mk,List.getElem?_append_right (by omega)]
     have:i-(nums b).length<3-(nums b).length:=by omega
     simp[this])
   unfold t3
   omega
  obtain⟨T,hT⟩: ∃T,t3 (nums b)=T:=⟨_,rfl⟩
  obtain⟨p,hp⟩: ∃p,numF (nums a)=p:=⟨_,rfl⟩
  rw[hT,hp]at HF2
  rw[hT]at ht3
  rw[hp]at hN hbd
  have HT:=Lh hT
  have HN:=Lh hN
  clear hT hN hp
  obtain⟨n,cc⟩:=p
  have HF3:Hid (F=if cc=0 then(if(18446744073709551615-T)/1000<n then(0,8)else(1000*n+T,0))else(0,cc)):=HF2
  have hn0:(0:Int)≤(n:Int):=by omega
  have hn1:(n:Int)≤18446744073709551615:=by have:n≤18446744073709551615:=hbd;omega
  clear HF2 hbd
  by_cases hcc:cc=0
  ·subst hcc
   have hX:n*1000+T<340282366920938463463374607431768211456:=by omega
   have hfin:Hid (narF (capN (n*1000+T)) (capC (n*1000+T))=F):=Lh (by
    rw[HF3.out,if_pos rfl,capN_in hX,capC_in hX]
    by_cases hb:(18446744073709551615-T)/1000<n
    ·rw[if_pos hb,narF_big (by omega)]
    ·rw[if_neg hb,narF_small (by omega),Nat.mul_comm])
   have RX:=Lh (fun W=>etimes_any (n:Int) 1000 W hn0 hn1 (by decide) (by decide))
   rw[show(n:Int).toNat*(1000:Int).toNat=n*1000 by rw[Int.toNat_natCast];rfl]at RX
   have hWT:Hid (IsW 0 (T:Int) T):=Lh ⟨by decide,by decide,by omega,by omega,by omega⟩
   go_enter Tryz.func134,Tryz.ntmps134
   go_wp2_with (first
    |(go_at_call 149;(with_reducible refine(RC.out _).mono ?_);rintro e w1 ⟨rfl,g1⟩;have G1:=Lh g1;clear g1)
    |(go_at_call 153;(with_reducible refine(RT.out _).mono ?_);rintro e w2 ⟨x,q,rfl,hq,hx,g2⟩;obtain rfl:q=true:=hq.mpr HOK.out;have hx2:=hx rfl;rw[HT.out]at hx2;subst hx2;have G2:=Lh (below_step G1.out g2);clear hq hx g2)
    |(go_at_call 132;(with_reducible refine(RR.out _).mono ?_);rintro e w3 ⟨h,l,rfl,hW,g3⟩;have G3:=Lh (below_step G2.out g3);have HW:=Lh hW;clear g3 hW;have RN:=Lh (fun W=>snarrow_any h l c N W HW.out);rw[HN.out]at RN)
    |(go_at_call 154;(with_reducible refine(RX.out _).mono ?_);rintro e w5 ⟨h5,l5,rfl,hW5,g5⟩;have G5:=Lh (below_step G4.out g5);have HW5:=Lh hW5;clear g5 hW5)
    |(go_at_call 147;(with_reducible refine(eadd_any _ _ _ _ _ _ _ HW5.out hWT.out).mono ?_);rintro e w6 ⟨h6,l6,rfl,hW6,g6⟩;have G6:=Lh (below_step G5.out g6);have RN6:=Lh (fun W=>snarrow_any h6 l6 (capC (n*1000+T)) (capN (n*1000+T)) W hW6);rw[hfin.out]at RN6;clear g6 hW6)
    |(go_at_call 131;(with_reducible refine(RN6.out _).mono ?_);rintro e w7 ⟨rfl,g7⟩;have G7:=Lh (below_step G6.out g7);clear g7)
    |(go_at_call 131;(with_reducible refine(RN.out _).mono ?_);rintro e w4 ⟨rfl,g4⟩;have G4:=Lh (below_step G3.out g4);clear g4))
   go_ret2
   exact⟨rfl,G7.out⟩
  ·have hcb:(cc !=0)=true:=by simpa using hcc
   have hfin:Hid (F=(0,cc)):=Lh (by rw[HF3.out,if_neg hcc])
   clear hcc
   go_enter Tryz.func134,Tryz.ntmps134
   go_wp2_with (first
    |(go_at_call 149;(with_reducible refine(RC.out _).mono ?_);rintro e w1 ⟨rfl,g1⟩;have G1:=Lh g1;clear g1)
    |(go_at_call 153;(with_reducible refine(RT.out _).mono ?_);rintro e w2 ⟨x,q,rfl,hq,hx,g2⟩;obtain rfl:q=true:=hq.mpr HOK.out;have G2:=Lh (below_step G1.out g2);clear hq hx g2)
    |(go_at_call 132;(with_reducible refine(RR.out _).mono ?_);rintro e w3 ⟨h,l,rfl,hW,g3⟩;have G3:=Lh (below_step G2.out g3);have HW:=Lh hW;clear g3 hW;have RN:=Lh (fun W=>snarrow_any h l c N W HW.out);rw[HN.out]at RN)
    |(go_at_call 131;(with_reducible refine(RN.out _).mono ?_);rintro e w4 ⟨rfl,g4⟩;have G4:=Lh (below_step G3.out g4);clear g4))
   go_ret2
   exact⟨by rw[hfin.out];rfl,G4.out⟩
 ·have hfin:Hid (F=(0,5)):=Lh (by rw[HF.out,if_neg hok])
  have HOK:=Lh hok
  clear HF hok
  go_enter Tryz.func134,Tryz.ntmps134
  go_wp2_with (first
   |(go_at_call 149;(with_reducible refine(RC.out _).mono ?_);rintro e w1 ⟨rfl,g1⟩;have G1:=Lh g1;clear g1)
   |(go_at_call 153;(with_reducible refine(RT.out _).mono ?_);rintro e w2 ⟨x,q,rfl,hq,hx,g2⟩;obtain rfl:q=false:=(by cases q with|false=>rfl|true=>exact(HOK.out (hq.mp rfl)).elim);have G2:=Lh (below_step G1.out g2);clear hq hx g2))
  go_ret2
  exact⟨by rw[hfin.out];rfl,G2.out⟩
noncomputable def numK (k:Int) (zs:List Int):Nat×Int:=if k=3 then numF zs else if k=5 then shareF zs else if k=4 then facF (headP zs) (tailP zs)else spanF zs
theorem GivesPC.nat {N:Nat} {c:Int} {w:World} {e:Ending} {w':World} (h:GivesPC N c w e w'):e= .returned (.tuple #[.int .u32 (N:Int), .int .i64 c])∧Below w.heap.size w w':=by
 obtain⟨x,rfl,h0,h1,h2,hb⟩:=h
 have:x=(N:Int):=by omega
 subst this
 exact⟨rfl,hb⟩
theorem snumber_p (s:ByteArray) (k:Int) (w:World) (hm:s.size≤4294967296) (h4:k=4→46∈nums s):Calls Tryz.prog 110 #[.int .i64 k, .string s] w (GivesNu (numK k (nums s)) w):=by
 obtain⟨p,hp⟩: ∃p,numK k (nums s)=p:=⟨_,rfl⟩
 have hpe:p=if k=3 then numF (nums s)else if k=5 then shareF (nums s)else if k=4 then facF (headP (nums s)) (tailP (nums s))else spanF (nums s):=hp.symm
 rw[hp]
 clear hp
 by_cases k3:k=3
 ·obtain⟨N,c,hN,hRd⟩:=sread_num s (by omega)
  rw[if_pos k3]at hpe
  rw[←hpe]at hN
  have HN:=Lh hN
  have RR:=Lh hRd
  subst k3
  clear hN hRd h4 hpe
  go_enter Tryz.func110,Tryz.ntmps110
  go_wp2_with (first
   |(go_at_call 132;(with_reducible refine(RR.out _).mono ?_);rintro e w3 ⟨h,l,rfl,hW,g3⟩;have G3:=Lh g3;have HW:=Lh hW;clear g3 hW;have RN:=Lh (fun W=>snarrow_any h l c N W HW.out);rw[HN.out]at RN)
   |(go_at_call 131;(with_reducible refine(RN.out _).mono ?_);rintro e w4 ⟨rfl,g4⟩;have G4:=Lh (below_step G3.out g4);clear g4))
  go_ret2
  exact⟨rfl,G4.out⟩
 have b3:(k==3)=false:=by simpa using k3
 rw[if_neg k3]at hpe
 by_cases k5:k=5
 ·rw[if_pos k5]at hpe
  have hO:=share_out (R:=fun N c=> ∀w,Calls Tryz.prog 133 #[.string s] w (GivesPC N c w)) (pread_cases s (by omega))
  have hbd:=share_bd (nums s)
  rw[←hpe]at hO hbd
  have hb2:((p.1:Nat):Int)≤1000000:=by omega
  have RO:=Lh (fun w=>(hO w).mono (fun e w' h=>GivesPC.nat h))
  subst k5
  clear hO hbd h4 hpe k3
  go_enter Tryz.func110,Tryz.ntmps110
  go_wp2_with (go_at_call 133;(with_reducible refine(RO.out _).mono ?_);rintro e w1 ⟨rfl,g1⟩;have G1:=Lh g1;clear g1)
  go_ret2
  exact⟨rfl,G1.out⟩
 have b5:(k==5)=false:=by simpa using k5
 rw[if_neg k5]at hpe
 by_cases k4:k=4
 ·rw[if_pos k4]at hpe
  have RF:=Lh (fun W=>sfac_any s W hm (h4 k4))
  rw[←hpe]at RF
  subst k4
  clear h4 hpe k3 k5
  go_enter Tryz.func110,Tryz.ntmps110
  go_wp2_with (go_at_call 134;(with_reducible refine(RF.out _).mono ?_);rintro e w1 ⟨rfl,g1⟩;have G1:=Lh g1;clear g1)
  go_ret2
  exact⟨rfl,G1.out⟩
 have b4:(k==4)=false:=by simpa using k4
 rw[if_neg k4]at hpe
 have RS:Hid (∀W,Calls Tryz.prog 135 #[.string s] W fun e w'=>e= .returned (.tuple #[.int .i64 (p.1:Int), .int .i64 p.2])∧Below W.heap.size W w'):=Lh (fun W=>(spread_any s W (by omega)).mono (by
  rintro e w' ⟨x,c,rfl,ho,hb⟩
  obtain⟨rfl,rfl⟩:=span_out ho
  exact⟨by rw[hpe],hb⟩))
 have hbd:=span_bd (nums s)
 rw[←hpe]at hbd
 have hb2:((p.1:Nat):Int)≤253402300799:=by omega
 clear hbd h4 hpe k3 k5 k4
 go_enter Tryz.func110,Tryz.ntmps110
 go_wp2_with (go_at_call 135;(with_reducible refine(RS.out _).mono ?_);rintro e w1 ⟨rfl,g1⟩;have G1:=Lh g1;clear g1)
 go_ret2
 exact⟨rfl,G1.out⟩
end
section
open Go.RowKit
def valV (p:TkV×Int):Value:=if p.2=0 then .iface 78 (tkAt p.1 0 0)else .iface 37 (.int .i64 p.2)
theorem valV_fine (t:TkV):valV (t,0)= .iface 78 (tkAt t 0 0):=if_pos rfl
theorem valV_err {t:TkV} {c:Int} (h:c≠0):valV (t,c)= .iface 37 (.int .i64 c):=if_neg h
theorem numT_valV (k:Nat) (n:Nat) (c:Int):valV (numT k (n,c))=if c=0 then .iface 78 (tkAt ⟨k,[],n⟩ 0 0)else .iface 37 (.int .i64 c):=by
 by_cases h:c=0
 ·rw[if_pos h,numT_fine (show(n,c).2=0 from h),valV_fine]
 ·rw[if_neg h,numT_err (show¬(n,c).2=0 from h)];exact valV_err h
theorem empty_of {s:ByteArray} (h:s.size=0):s=⟨#[]⟩:=by
 have hn:nums s= []:=List.eq_nil_of_length_eq_zero (by rw[nums_length];exact h)
 have:=strOfNums_nums s
 rw[hn]at this
 exact this.symm
theorem valG_num {zs:List Int} (h: ¬NameL (runesOf zs)) (h1: ¬(zs= []∨digitB (zs.getD 0 0)=false)): ∃k:Nat,kindF zs=(k:Int)∧valG zs=numT k (numK (kindF zs) zs)∧(kindF zs=4→46∈zs):=by
 by_cases h2:AllD zs
 ·have e:kindF zs=3:=by unfold kindF;rw[if_pos h2]
  exact⟨3,e,by rw[valG_count h h1 h2,e];rfl,fun e2=>by omega⟩
 by_cases h3:zs.getD (zs.length-1) 0=37
 ·have e:kindF zs=5:=by unfold kindF;rw[if_neg h2,if_pos h3]
  exact⟨5,e,by rw[valG_share h h1 h2 h3,e];rfl,fun e2=>by omega⟩
 by_cases h4:46∈zs
 ·have e:kindF zs=4:=by unfold kindF;rw[if_neg h2,if_neg h3,if_pos h4]
  exact⟨4,e,by rw[valG_factor h h1 h2 h3 h4,e];rfl,fun _=>h4⟩
 ·have e:kindF zs=6:=by unfold kindF;rw[if_neg h2,if_neg h3,if_neg h4]
  exact⟨6,e,by rw[valG_span h h1 h2 h3 h4,e];rfl,fun e2=>by omega⟩
theorem svalue_p (s:ByteArray) (w:World) (hm:s.size≤4294967296):Calls Tryz.prog 78 #[.string s] w fun e w'=>e= .returned (valV (valG (nums s)))∧Below w.heap.size w w':=by
 have RN:=Lh (fun W=>tname_plain s W hm)
 by_cases hN:NameL (runesOf (nums s))
 ·have hv:Hid (valV (valG (nums s))= .iface 78 (.agg #[.int .i64 1, .string s, .int .u64 0, .int .i64 0, .int .i64 0])):=Lh (by
   rw[valG_name hN,valV_fine]
   unfold tkAt
   rw[strOfNums_nums];rfl)
  have HN:=Lh hN
  clear hN
  go_enter Tryz.func78,Tryz.ntmps78
  go_wp2_with (go_at_call 53;(with_reducible refine(RN.out _).mono ?_);rintro e w1 ⟨q,rfl,hq,g1⟩;obtain rfl:q=true:=hq.mpr HN.out;have G1:=Lh g1;clear hq g1)
  go_ret
  exact⟨by rw[hv.out];rfl,G1.out⟩
 have HN:=Lh hN
 by_cases h0:s.size=0
 ·have hs:=empty_of h0
  have hv:Hid (valV (valG (nums s))= .iface 37 (.int .i64 5)):=Lh (by rw[valG_none hN (Or.inl (by rw[hs];rfl))];exact valV_err (by decide))
  subst hs
  clear hN h0
  go_enter Tryz.func78,Tryz.ntmps78
  go_wp2_with (go_at_call 53;(with_reducible refine(RN.out _).mono ?_);rintro e w1 ⟨q,rfl,hq,g1⟩;obtain rfl:q=false:=(by cases q with|false=>rfl|true=>exact(HN.out (hq.mp rfl)).elim);have G1:=Lh g1;clear hq g1)
  go_ret
  exact⟨by rw[hv.out];rfl,G1.out⟩
 have hs0:0<s.size:=by omega
 obtain⟨e1,e2⟩:=toList_empty hs0
 obtain⟨b,hb⟩: ∃b,(nums s).getD 0 0=b:=⟨_,rfl⟩
 have hx:((s[0]'hs0).toNat:Int)=b:=(byte_at s hs0).trans hb
 have hi:(0:Int)<(s.size:Int):=by omega
 have hbb:=nums_byte s b (by rw[←hb];exact getD_mem (by rw[nums_length];exact hs0))
 have hb0:=hbb.1
 have hb1:=hbb.2
 obtain⟨q,hq⟩: ∃q,digitB b=q:=⟨_,rfl⟩
 have RD:=Lh (fun w=>sdg_is hq w)
 cases q with
 |false=>
  have hv:Hid (valV (valG (nums s))= .iface 37 (.int .i64 5)):=Lh (by rw[valG_none hN (Or.inr (by rw[hb];exact hq))];exact valV_err (by decide))
  clear hN h0 hb hq hbb
  go_enter Tryz.func78,Tryz.ntmps78
  go_wp2_with (first
   |(go_at_call 53;(with_reducible refine(RN.out _).mono ?_);rintro e w1 ⟨q,rfl,hq,g1⟩;obtain rfl:q=false:=(by cases q with|false=>rfl|true=>exact(HN.out (hq.mp rfl)).elim);have G1:=Lh g1;clear hq g1)
   |(go_at_call 107;(with_reducible refine(RD.out _).mono ?_);rintro e w9 ⟨rfl,rfl⟩))
  go_ret
  exact⟨by rw[hv.out];rfl,G1.out⟩
 |true=>
  have h1: ¬(nums s= []∨digitB ((nums s).getD 0 0)=false):=by
   rintro(h|h)
   ·exact nums_ne hs0 h
   ·rw[hb,hq]at h;cases h
  obtain⟨k,hk,hvg,h4⟩:=valG_num hN h1
  have RK:=Lh (fun W=>snkind_any s W (by omega) hs0)
  have RU:=Lh (fun W=>snumber_p s (kindF (nums s)) W hm h4)
  obtain⟨p,hp⟩: ∃p,numK (kindF (nums s)) (nums s)=p:=⟨_,rfl⟩
  rw[hp]at RU hvg
  rw[hk]at RK RU
  obtain⟨n,c⟩:=p
  have RU2:Hid (∀W,Calls Tryz.prog 110 #[.int .i64 (k:Int), .string s] W fun e w'=>e= .returned (.tuple #[.int .u64 (n:Int), .int .i64 c])∧Below W.heap.size W w'):=Lh (fun W=>RU.out W)
  have hv:Hid (valV (valG (nums s))=if c=0 then .iface 78 (tkAt ⟨k,[],n⟩ 0 0)else .iface 37 (.int .i64 c)):=Lh (by rw[hvg,numT_valV])
  clear hN h0 hb hq hbb h1 hk hvg h4 hp RU
  by_cases hc:c=0
  ·have hv2:Hid (valV (valG (nums s))= .iface 78 (.agg #[.int .i64 (k:Int), .string ⟨#[]⟩, .int .u64 (n:Int), .int .i64 0, .int .i64 0])):=Lh (by rw[hv.out,if_pos hc];rfl)
   subst hc
   clear hv
   go_enter Tryz.func78,Tryz.ntmps78
   go_wp2_with (first
    |(go_at_call 53;(with_reducible refine(RN.out _).mono ?_);rintro e w1 ⟨q,rfl,hq,g1⟩;obtain rfl:q=false:=(by cases q with|false=>rfl|true=>exact(HN.out (hq.mp rfl)).elim);have G1:=Lh g1;clear hq g1)
    |(go_at_call 107;(with_reducible refine(RD.out _).mono ?_);rintro e w9 ⟨rfl,rfl⟩)
    |(go_at_call 109;(with_reducible refine(RK.out _).mono ?_);rintro e w2 ⟨rfl,g2⟩;have G2:=Lh (below_step G1.out g2);clear g2)
    |(go_at_call 110;(with_reducible refine(RU2.out _).mono ?_);rintro e w3 ⟨rfl,g3⟩;have G3:=Lh (below_step G2.out g3);clear g3))
   go_ret
   exact⟨by rw[hv2.out];rfl,G3.out⟩
  ·have hv2:Hid (valV (valG (nums s))= .iface 37 (.int .i64 c)):=Lh (by rw[hv.out,if_neg hc])
   have hcb:(c !=0)=true:=by simpa using hc
   clear hv hc
   go_enter Tryz.func78,Tryz.ntmps78
   go_wp2_with (first
    |(go_at_call 53;(with_reducible refine(RN.out _).mono ?_);rintro e w1 ⟨q,rfl,hq,g1⟩;obtain rfl:q=false:=(by cases q with|false=>rfl|true=>exact(HN.out (hq.mp rfl)).elim);have G1:=Lh g1;clear hq g1)
    |(go_at_call 107;(with_reducible refine(RD.out _).mono ?_);rintro e w9 ⟨rfl,rfl⟩)
    |(go_at_call 109;(with_reducible refine(RK.out _).mono ?_);rintro e w2 ⟨rfl,g2⟩;have G2:=Lh (below_step G1.out g2);clear g2)
    |(go_at_call 110;(with_reducible refine(RU2.out _).mono ?_);rintro e w3 ⟨rfl,g3⟩;have G3:=Lh (below_step G2.out g3);clear g3))
   go_ret
   exact⟨by rw[hv2.out];rfl,G3.out⟩
theorem tok_results {f:Func} (hr:f.results= #[.cell 2 78, .tmp 3]) {W:World} {g:Nat} {x0 x1 x2 x3 x4 u:Value} {tmps:Array Value} (h:Var5 W g x0 x1 x2 x3 x4) (h2:tmps.getD 2 undef= .pointer (some ⟨g,0,none⟩)) (h3:tmps.getD 3 undef=u):(results f tmps).run Tryz.prog W= .ok (.tuple #[.agg #[x0,x1,x2,x3,x4],u]) W:=by
 have e:(asAddr (Value.pointer (some ⟨g,0,none⟩))).run Tryz.prog W= .ok ⟨g,0,none⟩ W:=rfl
 have q2:tmps[2]?.getD undef= .pointer (some ⟨g,0,none⟩):=by simpa using h2
 have q3:tmps[3]?.getD undef=u:=by simpa using h3
 simp only[results,hr]
 simp[Sem.run_bind,Result.andThen,q2,q3,e,load_tok h]
theorem assert_tok (v:Value) (W:World):(Instr.typeAssert (.iface 78 v) 20 78 true).run Tryz.prog W= .ok (.tuple #[v, .bool true]) W:=by kernel_rfl
theorem assert_tok_no (v:Value) (W:World):(Instr.typeAssert (.iface 37 v) 20 78 true).run Tryz.prog W= .ok (.tuple #[.agg #[.int .i64 0, .string ⟨#[]⟩, .int .u64 0, .int .i64 0, .int .i64 0], .bool false]) W:=by kernel_rfl
theorem assert_code (v:Value) (W:World):(Instr.typeAssert (.iface 37 v) 20 37 false).run Tryz.prog W= .ok v W:=by kernel_rfl
def zTok:Obj:= .cells #[.int .i64 0, .string ⟨#[]⟩, .int .u64 0, .int .i64 0, .int .i64 0] 78
theorem Var5.else5 {W:World} {p r:Nat} {x0 x1 x2 x3 x4:Value} (k:Var5 W p x0 x1 x2 x3 x4) (h:p≠r) (y0 y1 y2 y3 y4:Value):Var5 (put5 W r y0 y1 y2 y3 y4) p x0 x1 x2 x3 x4:=
 k.stay (by unfold put5;rw[sset_else _ _ _ _ _ h,sset_else _ _ _ _ _ h,sset_else _ _ _ _ _ h,sset_else _ _ _ _ _ h,sset_else _ _ _ _ _ h]) (by rw[put5_size];exact Mz _)
theorem stold_yes (t:TkV) (w:World):Calls Tryz.prog 77 #[.iface 78 (tkAt t 0 0)] w (GivesTk t 0 w):=by
 obtain⟨K,T,N⟩:=t
 show Calls Tryz.prog 77 #[.iface 78 (.agg #[.int .i64 (K:Int), .string (strOfNums T), .int .u64 (N:Int), .int .i64 0, .int .i64 0])] w (fun e w'=>e= .returned (.tuple #[.agg #[.int .i64 (K:Int), .string (strOfNums T), .int .u64 (N:Int), .int .i64 0, .int .i64 0], .int .i64 0])∧Below w.heap.size w w')
 obtain⟨k,hk⟩: ∃k,(K:Int)=k:=⟨_,rfl⟩
 obtain⟨n,hn⟩: ∃k,(N:Int)=k:=⟨_,rfl⟩
 obtain⟨s,hs⟩: ∃k,strOfNums T=k:=⟨_,rfl⟩
 rw[hk,hn,hs]
 clear hk hn hs
 obtain⟨B,hB⟩: ∃B,w.heap.size=B:=⟨_,rfl⟩
 obtain⟨W0,hW0⟩: ∃W,w.alloc (.cells #[.int .i64 0, .string ⟨#[]⟩, .int .u64 0, .int .i64 0, .int .i64 0] 78)=W:=⟨_,rfl⟩
 have V0:Var5 W0 B (.int .i64 0) (.string ⟨#[]⟩) (.int .u64 0) (.int .i64 0) (.int .i64 0):=by rw[←hW0];exact Var5.fresh _ _ _ _ _ _ _ _ hB.symm
 have g0:Below B w W0:=by rw[←hW0,←hB];exact(Mj _ _).alloc (Mz _) _
 have hs0:W0.heap.size=B+1:=by rw[←hW0];simp[hB]
 obtain⟨W1,hW1⟩: ∃W,W0.alloc (.cells #[.int .i64 0, .string ⟨#[]⟩, .int .u64 0, .int .i64 0, .int .i64 0] 78)=W:=⟨_,rfl⟩
 have b1:Below W0.heap.size W0 W1:=by rw[←hW1];exact(Mj _ _).alloc (Mz _) _
 have V1:=V0.after b1
 have U1:Var5 W1 (B+1) (.int .i64 0) (.string ⟨#[]⟩) (.int .u64 0) (.int .i64 0) (.int .i64 0):=by rw[←hW1];exact Var5.fresh _ _ _ _ _ _ _ _ hs0.symm
 have g1:Below B w W1:=g0.trans (b1.mono (by omega))
 obtain⟨W2,hW2⟩: ∃W,put5 W1 (B+1) (.int .i64 k) (.string s) (.int .u64 n) (.int .i64 0) (.int .i64 0)=W:=⟨_,rfl⟩
 have U2:Var5 W2 (B+1) (.int .i64 k) (.string s) (.int .u64 n) (.int .i64 0) (.int .i64 0):=by rw[←hW2];exact U1.put _ _ _ _ _
 have V2:Var5 W2 B (.int .i64 0) (.string ⟨#[]⟩) (.int .u64 0) (.int .i64 0) (.int .i64 0):=by rw[←hW2];exact V1.else5 (by omega) _ _ _ _ _
 have g2:Below B w W2:=by rw[←hW2];exact below_put5 g1 (by omega) _ _ _ _ _
 have hW2':((((W1.setCell ⟨B+1,0,none⟩ (.int .i64 k)).setCell ⟨B+1,1,none⟩ (.string s)).setCell ⟨B+1,2,none⟩ (.int .u64 n)).setCell ⟨B+1,3,none⟩ (.int .i64 0)).setCell ⟨B+1,4,none⟩ (.int .i64 0)=W2:=hW2
 have HV:=Lh V2
 have HG:=Lh g2
 have c0:=U1.c0;have c1:=U1.c1;have c2:=U1.c2;have c3:=U1.c3;have c4:=U1.c4;have q1:=U1.q
 have d0:=U2.c0;have d1:=U2.c1;have d2:=U2.c2;have d3:=U2.c3;have d4:=U2.c4
 have e0:=V2.c0;have e1:=V2.c1;have e2:=V2.c2;have e3:=V2.c3;have e4:=V2.c4;have q2:=V2.q
 have A1:=fun W=>assert_tok (.agg #[.int .i64 k, .string s, .int .u64 n, .int .i64 0, .int .i64 0]) W
 rw[hB]
 clear hW2 V0 g0 b1 V1 U1 g1 U2 V2 g2
 go_enter Tryz.func77,Tryz.ntmps77
 go_wp2
 refine bodyPost_ret (tok_results (f:=Tryz.f77) rfl (HV.out.put (.int .i64 k) (.string s) (.int .u64 n) (.int .i64 0) (.int .i64 0)) rfl rfl) rfl ?_
 exact⟨rfl,below_put5 HG.out (Mz _) _ _ _ _ _⟩
theorem stold_no (c:Int) (w:World):Calls Tryz.prog 77 #[.iface 37 (.int .i64 c)] w (GivesTk tk0 c w):=by
 show Calls Tryz.prog 77 #[.iface 37 (.int .i64 c)] w (fun e w'=>e= .returned (.tuple #[.agg #[.int .i64 0, .string ⟨#[]⟩, .int .u64 0, .int .i64 0, .int .i64 0], .int .i64 c])∧Below w.heap.size w w')
 obtain⟨B,hB⟩: ∃B,w.heap.size=B:=⟨_,rfl⟩
 obtain⟨W0,hW0⟩: ∃W,w.alloc (.cells #[.int .i64 0, .string ⟨#[]⟩, .int .u64 0, .int .i64 0, .int .i64 0] 78)=W:=⟨_,rfl⟩
 have V0:Var5 W0 B (.int .i64 0) (.string ⟨#[]⟩) (.int .u64 0) (.int .i64 0) (.int .i64 0):=by rw[←hW0];exact Var5.fresh _ _ _ _ _ _ _ _ hB.symm
 have g0:Below B w W0:=by rw[←hW0,←hB];exact(Mj _ _).alloc (Mz _) _
 have hs0:W0.heap.size=B+1:=by rw[←hW0];simp[hB]
 obtain⟨W1,hW1⟩: ∃W,W0.alloc (.cells #[.int .i64 0, .string ⟨#[]⟩, .int .u64 0, .int .i64 0, .int .i64 0] 78)=W:=⟨_,rfl⟩
 have b1:Below W0.heap.size W0 W1:=by rw[←hW1];exact(Mj _ _).alloc (Mz _) _
 have V1:=V0.after b1
 have U1:Var5 W1 (B+1) (.int .i64 0) (.string ⟨#[]⟩) (.int .u64 0) (.int .i64 0) (.int .i64 0):=by rw[←hW1];exact Var5.fresh _ _ _ _ _ _ _ _ hs0.symm
 have g1:Below B w W1:=g0.trans (b1.mono (by omega))
 obtain⟨W2,hW2⟩: ∃W,put5 W1 (B+1) (.int .i64 0) (.string ⟨#[]⟩) (.int .u64 0) (.int .i64 0) (.int .i64 0)=W:=⟨_,rfl⟩
 have V2:Var5 W2 B (.int .i64 0) (.string ⟨#[]⟩) (.int .u64 0) (.int .i64 0) (.int .i64 0):=by rw[←hW2];exact V1.else5 (by omega) _ _ _ _ _
 have g2:Below B w W2:=by rw[←hW2];exact below_put5 g1 (by omega) _ _ _ _ _
 have hW2':((((W1.setCell ⟨B+1,0,none⟩ (.int .i64 0)).setCell ⟨B+1,1,none⟩ (.string ⟨#[]⟩)).setCell ⟨B+1,2,none⟩ (.int .u64 0)).setCell ⟨B+1,3,none⟩ (.int .i64 0)).setCell ⟨B+1,4,none⟩ (.int .i64 0)=W2:=hW2
 have HV:=Lh V2
 have HG:=Lh g2
 have c0:=U1.c0;have c1:=U1.c1;have c2:=U1.c2;have c3:=U1.c3;have c4:=U1.c4;have q1:=U1.q
 have e0:=V2.c0;have e1:=V2.c1;have e2:=V2.c2;have e3:=V2.c3;have e4:=V2.c4;have q2:=V2.q
 have A1:=fun W=>assert_tok_no (.int .i64 c) W
 have A2:=fun W=>assert_code (.int .i64 c) W
 rw[hB]
 clear hW2 V0 g0 b1 V1 U1 g1 V2 g2
 go_enter Tryz.func77,Tryz.ntmps77
 go_wp2
 go_region
 go_wp2
 refine bodyPost_ret (tok_results (f:=Tryz.f77) rfl ((HV.out.put (.int .i64 0) (.string ⟨#[]⟩) (.int .u64 0) (.int .i64 0) (.int .i64 0)).after ((Mj _ _).drew)) rfl rfl) rfl ?_
 exact⟨rfl,(below_put5 HG.out (Mz _) _ _ _ _ _).drew⟩
theorem valG_err {zs:List Int} (h:(valG zs).2≠0):(valG zs).1=tk0:=by
 have hk: ∀k p,(numT k p).2≠0→(numT k p).1=tk0:=fun k p e=>by
  by_cases h0:p.2=0
  ·rw[numT_fine h0]at e;exact(e rfl).elim
  ·rw[numT_err h0]
 unfold valG at h ⊢
 split
 ·rename_i h1;rw[if_pos h1]at h;exact(h rfl).elim
 rename_i h1
 rw[if_neg h1]at h
 split
 ·rfl
 rename_i h2
 rw[if_neg h2]at h
 split
 ·rename_i h3;rw[if_pos h3]at h;exact hk _ _ h
 rename_i h3
 rw[if_neg h3]at h
 split
 ·rename_i h4;rw[if_pos h4]at h;exact hk _ _ h
 rename_i h4
 rw[if_neg h4]at h
 split
 ·rename_i h5;rw[if_pos h5]at h;exact hk _ _ h
 rename_i h5
 rw[if_neg h5]at h
 exact hk _ _ h
theorem stold_any (zs:List Int) (w:World):Calls Tryz.prog 77 #[valV (valG zs)] w (GivesTk (valG zs).1 (valG zs).2 w):=by
 by_cases h:(valG zs).2=0
 ·have e:valV (valG zs)= .iface 78 (tkAt (valG zs).1 0 0):=if_pos h
  rw[e,h]
  exact stold_yes _ w
 ·have e:valV (valG zs)= .iface 37 (.int .i64 (valG zs).2):=if_neg h
  rw[e,valG_err h]
  exact stold_no _ w
theorem stext_tok (s:ByteArray) (w:World) (env:Env w) (hm:s.size≤4294967296):Calls Tryz.prog 76 #[.string s] w (GivesTk (if(unqF (runesOf (nums s))).2=0 then⟨2,(unqF (runesOf (nums s))).1,0⟩else tk0) (unqF (runesOf (nums s))).2 w):=by
 obtain⟨p,hp⟩: ∃p,unqF (runesOf (nums s))=p:=⟨_,rfl⟩
 obtain⟨T,c⟩:=p
 rw[hp]
 show Calls Tryz.prog 76 #[.string s] w (GivesTk (if c=0 then⟨2,T,0⟩else tk0) c w)
 obtain⟨TK,hTK⟩: ∃t:TkV,(if c=0 then⟨2,T,0⟩else tk0)=t:=⟨_,rfl⟩
 rw[hTK]
 have HTK:=Lh hTK
 clear hTK
 obtain⟨B,hB⟩: ∃B,w.heap.size=B:=⟨_,rfl⟩
 obtain⟨W0,hW0⟩: ∃W,w.alloc (.cells #[.int .i64 0, .string ⟨#[]⟩, .int .u64 0, .int .i64 0, .int .i64 0] 78)=W:=⟨_,rfl⟩
 have V0:Var5 W0 B (.int .i64 0) (.string ⟨#[]⟩) (.int .u64 0) (.int .i64 0) (.int .i64 0):=by rw[←hW0];exact Var5.fresh _ _ _ _ _ _ _ _ hB.symm
 have g0:Below w.heap.size w W0:=by rw[←hW0];exact(Mj _ _).alloc (Mz _) _
 have RU:Hid (Calls Tryz.prog 108 #[.string s] W0 fun e w'=>e= .returned (.tuple #[.string (strOfNums T), .int .i64 c])∧Below W0.heap.size W0 w'):=Lh ((tunq_any s W0 (env.step g0) hm).mono (by
  rintro e w' ⟨t,c',rfl,hU,hb⟩
  obtain⟨rfl,rfl⟩:=unq_out hU
  rw[hp]
  exact⟨rfl,hb⟩))
 have HV:=Lh V0
 have HG:=Lh g0
 have HB:=Lh hB
 obtain⟨S,hS⟩: ∃S,strOfNums T=S:=⟨_,rfl⟩
 rw[hS]at RU
 have HS:=Lh hS
 rw[hB]at HG
 clear hp V0 g0 env hS
 by_cases hc:c=0
 ·have hR:Hid (∀w',GivesTk TK c w (.returned (.tuple #[.agg #[.int .i64 2, .string S, .int .u64 0, .int .i64 0, .int .i64 0], .int .i64 0])) w'↔Below B w w'):=Lh (fun w'=>by
   rw[←HTK.out,if_pos hc,hc]
   unfold GivesTk tkAt
   rw[HS.out,HB.out]
   exact⟨fun h=>h.2,fun h=>⟨rfl,h⟩⟩)
  subst hc
  go_enter Tryz.func76,Tryz.ntmps76
  go_wp2_with (go_at_call 108;(with_reducible refine(RU.out).mono ?_);rintro e w1 ⟨rfl,g1⟩;have G1:Hid (Below B w w1):=Lh (HB.out▸below_step (HB.out.symm▸HG.out) g1);have V1:=Lh (HV.out.after g1);have c0:=V1.out.c0;have c1:=V1.out.c1;have c2:=V1.out.c2;have c3:=V1.out.c3;have c4:=V1.out.c4;have q1:=V1.out.q;clear g1)
  refine bodyPost_ret (tok_results (f:=Tryz.f76) rfl (V1.out.put (.int .i64 2) (.string S) (.int .u64 0) (.int .i64 0) (.int .i64 0)) rfl rfl) rfl ?_
  exact(hR.out _).mpr (below_put5 G1.out (Mz _) _ _ _ _ _)
 ·have hcb:(c !=0)=true:=by simpa using hc
  have hR:Hid (∀w',GivesTk TK c w (.returned (.tuple #[.agg #[.int .i64 0, .string ⟨#[]⟩, .int .u64 0, .int .i64 0, .int .i64 0], .int .i64 c])) w'↔Below B w w'):=Lh (fun w'=>by
   rw[←HTK.out,if_neg hc]
   unfold GivesTk
   rw[HB.out]
   exact⟨fun h=>h.2,fun h=>⟨rfl,h⟩⟩)
  go_enter Tryz.func76,Tryz.ntmps76
  go_wp2_with (go_at_call 108;(with_reducible refine(RU.out).mono ?_);rintro e w1 ⟨rfl,g1⟩;have G1:Hid (Below B w w1):=Lh (HB.out▸below_step (HB.out.symm▸HG.out) g1);have V1:=Lh (HV.out.after g1);have c0:=V1.out.c0;have c1:=V1.out.c1;have c2:=V1.out.c2;have c3:=V1.out.c3;have c4:=V1.out.c4;have q1:=V1.out.q;clear g1)
  refine bodyPost_ret (tok_results (f:=Tryz.f76) rfl (V1.out.put (.int .i64 0) (.string ⟨#[]⟩) (.int .u64 0) (.int .i64 0) (.int .i64 0)) rfl rfl) rfl ?_
  exact(hR.out _).mpr (below_put5 G1.out (Mz _) _ _ _ _ _)
end
section
open Go.RowKit
theorem stoken_any (s:ByteArray) (w:World) (env:Env w) (hm:s.size≤4294967296) (h0:0<s.size) (hv:(runesOf (nums s)).getD 0 0≠34→valG (nums s)=valF (runesOf (nums s))):
  Calls Tryz.prog 43 #[.string s] w (GivesTk (tokP (runesOf (nums s))).1 (tokP (runesOf (nums s))).2 w):=by
 have hf:=(first_is (nums_ne h0) (nums_byte s)).2
 obtain⟨r,hr⟩: ∃r,(runesOf (nums s)).getD 0 0=r:=⟨_,rfl⟩
 obtain⟨b,hb⟩: ∃b,(nums s).getD 0 0=b:=⟨_,rfl⟩
 have hx:((s[0]'h0).toNat:Int)=b:=(byte_at s h0).trans hb
 have hi:(0:Int)<(s.size:Int):=by omega
 rw[hr,hb]at hf
 rw[hr]at hv
 obtain⟨p,hp⟩: ∃p,tokP (runesOf (nums s))=p:=⟨_,rfl⟩
 have hpe:p=if r=123 then(⟨7,[],0⟩,0)else if r=125 then(⟨8,[],0⟩,0)else if r=59 then(⟨9,[],0⟩,0)
   else if r=34 then(if(unqF (runesOf (nums s))).2=0 then(⟨2,(unqF (runesOf (nums s))).1,0⟩,0)else(tk0,(unqF (runesOf (nums s))).2))else valF (runesOf (nums s)):=by rw[←hp,←hr];rfl
 rw[hp]
 obtain⟨B,hB⟩: ∃B,w.heap.size=B:=⟨_,rfl⟩
 obtain⟨W0,hW0⟩: ∃W,w.alloc (.cells #[.int .i64 0, .string ⟨#[]⟩, .int .u64 0, .int .i64 0, .int .i64 0] 78)=W:=⟨_,rfl⟩
 have V0:Var5 W0 B (.int .i64 0) (.string ⟨#[]⟩) (.int .u64 0) (.int .i64 0) (.int .i64 0):=by rw[←hW0];exact Var5.fresh _ _ _ _ _ _ _ _ hB.symm
 have g0:Below w.heap.size w W0:=by rw[←hW0];exact(Mj _ _).alloc (Mz _) _
 have HV:=Lh V0
 have HG:Hid (Below B w W0):=Lh (by rw[←hB];exact g0)
 have HB:=Lh hB
 have HPE:=Lh hpe
 have c0:=V0.c0;have c1:=V0.c1;have c2:=V0.c2;have c3:=V0.c3;have c4:=V0.c4;have q1:=V0.q
 by_cases b1:b=123
 ·have e:r=123:=by omega
  have hpp:Hid (p=(⟨7,[],0⟩,0)):=Lh (by rw[HPE.out,if_pos e])
  subst b1
  clear hr hb hf hv hp hpe V0 g0 env e
  go_enter Tryz.func43,Tryz.ntmps43
  go_wp2
  refine bodyPost_ret (tok_results (f:=Tryz.f43) rfl (HV.out.put (.int .i64 7) (.string ⟨#[]⟩) (.int .u64 0) (.int .i64 0) (.int .i64 0)) rfl rfl) rfl ?_
  rw[hpp.out]
  exact⟨rfl,HB.out▸below_put5 HG.out (Mz _) _ _ _ _ _⟩
 have n1:(b==123)=false:=by simpa using b1
 by_cases b2:b=125
 ·have e:r=125:=by omega
  have hpp:Hid (p=(⟨8,[],0⟩,0)):=Lh (by rw[HPE.out,if_neg (by omega),if_pos e])
  subst b2
  clear hr hb hf hv hp hpe V0 g0 env e b1
  go_enter Tryz.func43,Tryz.ntmps43
  go_wp2
  refine bodyPost_ret (tok_results (f:=Tryz.f43) rfl (HV.out.put (.int .i64 8) (.string ⟨#[]⟩) (.int .u64 0) (.int .i64 0) (.int .i64 0)) rfl rfl) rfl ?_
  rw[hpp.out]
  exact⟨rfl,HB.out▸below_put5 HG.out (Mz _) _ _ _ _ _⟩
 have n2:(b==125)=false:=by simpa using b2
 by_cases b3:b=59
 ·have e:r=59:=by omega
  have hpp:Hid (p=(⟨9,[],0⟩,0)):=Lh (by rw[HPE.out,if_neg (by omega),if_neg (by omega),if_pos e])
  subst b3
  clear hr hb hf hv hp hpe V0 g0 env e b1 b2
  go_enter Tryz.func43,Tryz.ntmps43
  go_wp2
  refine bodyPost_ret (tok_results (f:=Tryz.f43) rfl (HV.out.put (.int .i64 9) (.string ⟨#[]⟩) (.int .u64 0) (.int .i64 0) (.int .i64 0)) rfl rfl) rfl ?_
  rw[hpp.out]
  exact⟨rfl,HB.out▸below_put5 HG.out (Mz _) _ _ _ _ _⟩
 have n3:(b==59)=false:=by simpa using b3
 by_cases b4:b=34
 ·have e:r=34:=by omega
  have hpp:p=((if(unqF (runesOf (nums s))).2=0 then⟨2,(unqF (runesOf (nums s))).1,0⟩else tk0),(unqF (runesOf (nums s))).2):=by
   rw[hpe,if_neg (by omega),if_neg (by omega),if_neg (by omega),if_pos e]
   split
   ·rename_i h;rw[h]
   ·rfl
  have hT:=stext_tok s W0 (env.step g0) hm
  obtain⟨⟨K,T,N⟩,c⟩:=p
  have hp1:(if(unqF (runesOf (nums s))).2=0 then(⟨2,(unqF (runesOf (nums s))).1,0⟩:TkV)else tk0)=⟨K,T,N⟩:=(congrArg Prod.fst hpp).symm
  have hp2:(unqF (runesOf (nums s))).2=c:=(congrArg Prod.snd hpp).symm
  rw[hp1,hp2]at hT
  have RT:Hid (Calls Tryz.prog 76 #[.string s] W0 fun e w'=>e= .returned (.tuple #[.agg #[.int .i64 (K:Int), .string (strOfNums T), .int .u64 (N:Int), .int .i64 0, .int .i64 0], .int .i64 c])∧Below W0.heap.size W0 w'):=Lh hT
  show Calls Tryz.prog 43 #[.string s] w (fun e w'=>e= .returned (.tuple #[.agg #[.int .i64 (K:Int), .string (strOfNums T), .int .u64 (N:Int), .int .i64 0, .int .i64 0], .int .i64 c])∧Below w.heap.size w w')
  subst b4
  clear hr hb hf hv hp hpe V0 g0 env e b1 b2 b3 hpp hp1 hp2 hT HPE c0 c1 c2 c3 c4 q1
  go_enter Tryz.func43,Tryz.ntmps43
  go_wp2_with (go_at_call 76;(with_reducible refine(RT.out).mono ?_);rintro e w1 ⟨rfl,g1⟩;have G1:Hid (Below B w w1):=Lh (HB.out▸below_step (HB.out.symm▸HG.out) g1);have V1:=Lh (HV.out.after g1);have c0:=V1.out.c0;have c1:=V1.out.c1;have c2:=V1.out.c2;have c3:=V1.out.c3;have c4:=V1.out.c4;have q1:=V1.out.q;clear g1)
  refine bodyPost_ret (tok_results (f:=Tryz.f43) rfl (V1.out.put (.int .i64 (K:Int)) (.string (strOfNums T)) (.int .u64 (N:Int)) (.int .i64 0) (.int .i64 0)) rfl rfl) rfl ?_
  exact⟨rfl,HB.out▸below_put5 G1.out (Mz _) _ _ _ _ _⟩
 have n4:(b==34)=false:=by simpa using b4
 have hpp:p=valG (nums s):=by
  rw[hpe,if_neg (by omega),if_neg (by omega),if_neg (by omega),if_neg (by omega),hv (by omega)]
 obtain⟨⟨K,T,N⟩,c⟩:=p
 obtain⟨VV,hVV⟩: ∃v,valV (valG (nums s))=v:=⟨_,rfl⟩
 have RV:=Lh (fun W=>svalue_p s W hm)
 have RT:Hid (∀W,Calls Tryz.prog 77 #[VV] W fun e w'=>e= .returned (.tuple #[.agg #[.int .i64 (K:Int), .string (strOfNums T), .int .u64 (N:Int), .int .i64 0, .int .i64 0], .int .i64 c])∧Below W.heap.size W w'):=Lh (fun W=>by
  have:=stold_any (nums s) W
  rw[hVV,←hpp]at this
  exact this)
 rw[hVV]at RV
 show Calls Tryz.prog 43 #[.string s] w (fun e w'=>e= .returned (.tuple #[.agg #[.int .i64 (K:Int), .string (strOfNums T), .int .u64 (N:Int), .int .i64 0, .int .i64 0], .int .i64 c])∧Below w.heap.size w w')
 clear hr hb hf hv hp hpe V0 g0 env b1 b2 b3 b4 hpp HPE c0 c1 c2 c3 c4 q1 hVV
 go_enter Tryz.func43,Tryz.ntmps43
 go_wp2_with (first
  |(go_at_call 78;(with_reducible refine(RV.out _).mono ?_);rintro e w1 ⟨rfl,g1⟩;have G1:Hid (Below B w w1):=Lh (HB.out▸below_step (HB.out.symm▸HG.out) g1);have V1:=Lh (HV.out.after g1);clear g1)
  |(go_at_call 77;(with_reducible refine(RT.out _).mono ?_);rintro e w2 ⟨rfl,g2⟩;have G2:Hid (Below B w w2):=Lh (HB.out▸below_step (HB.out.symm▸G1.out) g2);have V2:=Lh (V1.out.after g2);have c0:=V2.out.c0;have c1:=V2.out.c1;have c2:=V2.out.c2;have c3:=V2.out.c3;have c4:=V2.out.c4;have q1:=V2.out.q;clear g2))
 refine bodyPost_ret (tok_results (f:=Tryz.f43) rfl (V2.out.put (.int .i64 (K:Int)) (.string (strOfNums T)) (.int .u64 (N:Int)) (.int .i64 0) (.int .i64 0)) rfl rfl) rfl ?_
 exact⟨rfl,HB.out▸below_put5 G2.out (Mz _) _ _ _ _ _⟩
theorem front_is {r:ByteArray} {k:Nat} (h1:1≤k) (h0:0<r.size):runesOf (nums (frontS r k))=(runesOf (nums r)).take k∧0<(frontS r k).size∧(frontS r k).size=posOf (nums r) k∧(frontS r k).size≤r.size:=by
 have hb: ∀z∈(nums r).take (posOf (nums r) k),0≤z∧z≤255:=fun z hz=>nums_byte r z (List.mem_of_mem_take hz)
 have hn:nums (frontS r k)=(nums r).take (posOf (nums r) k):=nums_strOfNums _ hb
 have hp:=pos_le (nums r) k
 have hsz:(frontS r k).size=posOf (nums r) k:=by rw[←nums_length,hn,List.length_take,Nat.min_eq_left hp]
 have h1p:0<posOf (nums r) 1:=by
  have e:posOf (nums r) 1=if 0<(nums r).length then 0+widA (nums r) 0 else 0:=rfl
  have:=widA_pos (nums r) 0
  rw[e,if_pos (by rw[nums_length];exact h0)];omega
 have hmono: ∀j,posOf (nums r) 1≤posOf (nums r) (1+j):=fun j=>by
  induction j with
  |zero=>exact Mz _
  |succ j ih=>exact Nat.le_trans ih (pos_mono (nums r) (1+j))
 have:=hmono (k-1)
 rw[show 1+(k-1)=k by omega]at this
 refine⟨by rw[hn,pos_take],by omega,hsz,by rw[nums_length]at hp;omega⟩
theorem rest_is (r:ByteArray) (k:Nat):runesOf (nums (r.extract (posOf (nums r) k) r.size))=(runesOf (nums r)).drop k∧(r.extract (posOf (nums r) k) r.size).size=r.size-posOf (nums r) k:=by
 have hn:nums (r.extract (posOf (nums r) k) r.size)=(nums r).drop (posOf (nums r) k):=nums_from r _
 refine⟨by rw[hn,←rfrom_drop (pos_le _ _),pos_drop],by rw[ByteArray.size_extract];omega⟩
theorem piece_val {m:List Int} (h0:0<m.length) (h35:m.getD 0 0≠35) (h34:m.getD 0 0≠34) {zs:List Int} (hb: ∀z∈zs,0≤z∧z≤255) (hz:runesOf zs=m.take (pieceN m)):valG zs=valF (runesOf zs):=by
 cases hw:withinB (m.getD 0 0)with
 |true=>
  have hp:pieceN m=wordEnd m 0:=by unfold pieceN;rw[if_neg h35,if_neg h34,if_pos hw]
  refine valG_valF hb (fun r hr=>?_)
  rw[hz,hp]at hr
  obtain⟨i,hi,rfl⟩:=List.mem_iff_getElem.mp hr
  rw[List.length_take]at hi
  have hin:=wordEnd_in (l:=m) (i:=0) i (by omega)
  rw[Nat.zero_add,Mk,Kh (by omega)]at hin
  rw[List.getElem_take]
  exact within_low hin
 |false=>
  have hp:pieceN m=1:=by unfold pieceN;rw[if_neg h35,if_neg h34,if_neg (by rw[hw];decide)]
  have hr:runesOf zs= [m.getD 0 0]:=by
   rw[hz,hp]
   cases m with
   |nil=>cases h0
   |cons z t=>rfl
  have hlw:=letter_within hw
  rw[valG_else hb (r:=m.getD 0 0) (by rw[hr];exact List.mem_singleton.mpr rfl) hw,hr]
  symm
  refine valF_none (Or.inr hlw.2) (fun hN=>?_)
  have:=hN.2.2.1
  have e:([m.getD 0 0]:List Int).getD 0 0=m.getD 0 0:=rfl
  rw[e,hlw.1]at this
  cases this
theorem spot_add (l:List Int) (i k:Nat):((l.drop i).take k).foldl spotStep ((spotAt l i).1,(spotAt l i).2)=spotAt l (i+k):=by
 unfold spotAt
 rw[List.take_add,List.foldl_append]
end
end Go.Proofs.YtalcagmhdppdjaaGreatDoor
