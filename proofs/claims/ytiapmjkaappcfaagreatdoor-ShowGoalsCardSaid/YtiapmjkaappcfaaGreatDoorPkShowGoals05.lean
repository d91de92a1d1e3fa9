/-
  Package scan's Tokens, walked.
-/
import Derived.Test.YtiapmjkaappcfaaGreatDoorPkShowGoals04
import Derived.Lib.QuietBelow
set_option maxRecDepth 100000
set_option maxHeartbeats 8000000
namespace Go.Proofs.YtiapmjkaappcfaaGreatDoor
open Lib renaming hid→Lh
open Go.RowKit.Below renaming refl→Mj
open Or renaming inr→Mx,inl→My
open List renaming length_cons→Jq
section
open Go.RowKit
theorem str_enc {r:Int} (h:RuneOk r):Utf8.encode r=strOfNums (encL r):=by
 obtain⟨h0,h1,h2⟩:=h
 have hv:Utf8.valid r=true:=by unfold Utf8.valid;simp;omega
 obtain⟨n,rfl⟩: ∃n:Nat,r=(n:Int):=⟨r.toNat,by omega⟩
 have e: ∀a:Nat,UInt8.ofNat a=UInt8.ofNat ((a:Int).toNat):=fun a=>by rw[Int.toNat_natCast]
 unfold Utf8.encode encL
 simp only[hv,if_true,Int.toNat_natCast]
 by_cases a:n<128
 ·rw[if_pos a,if_pos (by omega)];unfold strOfNums;simp
 ·by_cases b:n<2048
  ·rw[if_neg a,if_pos b,if_neg (by omega),if_pos (by omega)]
   have e1:((192:Int)+(n:Int)/64)=((192+n/64:Nat):Int):=by omega
   have e2:((128:Int)+(n:Int)%64)=((128+n%64:Nat):Int):=by omega
   rw[e1,e2];unfold strOfNums
   simp only[List.map_cons,List.map_nil,Int.toNat_natCast]
  ·by_cases c:n<65536
   ·rw[if_neg a,if_neg b,if_pos c,if_neg (by omega),if_neg (by omega),if_pos (by omega)]
    have e1:((224:Int)+(n:Int)/4096)=((224+n/4096:Nat):Int):=by omega
    have e2:((128:Int)+(n:Int)/64%64)=((128+n/64%64:Nat):Int):=by omega
    have e3:((128:Int)+(n:Int)%64)=((128+n%64:Nat):Int):=by omega
    rw[e1,e2,e3];unfold strOfNums
    simp only[List.map_cons,List.map_nil,Int.toNat_natCast]
   ·rw[if_neg a,if_neg b,if_neg c,if_neg (by omega),if_neg (by omega),if_neg (by omega)]
    have e1:((240:Int)+(n:Int)/262144)=((240+n/262144:Nat):Int):=by omega
    have e2:((128:Int)+(n:Int)/4096%64)=((128+n/4096%64:Nat):Int):=by omega
    have e3:((128:Int)+(n:Int)/64%64)=((128+n/64%64:Nat):Int):=by omega
    have e4:((128:Int)+(n:Int)%64)=((128+n%64:Nat):Int):=by omega
    rw[e1,e2,e3,e4];unfold strOfNums
    simp only[List.map_cons,List.map_nil,Int.toNat_natCast]
theorem hexL_bytes (n:Nat): ∀z∈hexL n,0≤z∧z≤255:=fun z hz=>by have:=hexL_bd n z hz;omega
theorem quoteR_byte {r:Int} (h:RuneOk r): ∀z∈quoteR r,0≤z∧z≤255:=by
 intro z hz
 unfold quoteR at hz
 repeat' split at hz
 all_goals try (simp at hz;omega)
 ·rename_i hr
  simp only[List.mem_append,List.mem_cons,List.not_mem_nil,or_false]at hz
  rcases hz with(hz|hz)|hz
  ·omega
  ·exact hexL_bytes _ z hz
  ·omega
 ·exact encL_byte h.1 h.2.1 z hz
theorem tprinted_any (r:Int) (hr:RuneOk r) (w:World) (env:EnvQ w):Calls Tryz.prog 233 #[.int .i32 r] w fun e w'=>e= .returned (.string (strOfNums (quoteR r)))∧Below w.heap.size w w':=by
 obtain⟨q,hq⟩: ∃q,plainB r=q:=⟨_,rfl⟩
 have RP:=Lh (fun w=>tplain_is hq w)
 cases q with
 |true=>
  have henc:=str_enc hr
  have hres:Hid (strOfNums (encL r)=strOfNums (quoteR r)):=by
   unfold Hid quoteR
   unfold plainB at hq
   simp only[Bool.and_eq_true,decide_eq_true_eq]at hq
   rw[if_neg (by omega),if_neg (by omega),if_neg (by omega),if_neg (by omega),if_neg (by omega)]
  generalize strOfNums (encL r)=R at henc hres
  clear hq hr env
  go_enter Tryz.func233,Tryz.ntmps233
  go_wp2_with (go_at_call 263;(with_reducible refine(RP.out _).mono ?_);rintro e w1 ⟨rfl,rfl⟩)
  go_ret
  exact⟨by rw[←hres.out];rfl,Mj _ _⟩
 |false=>
  have hnp:r<32∨r=127∨r=34∨r=92:=by
   unfold plainB at hq
   simp at hq;omega
  clear hq
  by_cases h10:r=10
  ·subst h10
   clear hr env hnp
   go_enter Tryz.func233,Tryz.ntmps233
   go_wp2_with (go_at_call 263;(with_reducible refine(RP.out _).mono ?_);rintro e w1 ⟨rfl,rfl⟩)
   go_ret
   exact⟨rfl,Mj _ _⟩
  by_cases h9:r=9
  ·subst h9
   clear hr env hnp
   go_enter Tryz.func233,Tryz.ntmps233
   go_wp2_with (go_at_call 263;(with_reducible refine(RP.out _).mono ?_);rintro e w1 ⟨rfl,rfl⟩)
   go_ret
   exact⟨rfl,Mj _ _⟩
  by_cases h34:r=34
  ·subst h34
   clear hr env hnp
   go_enter Tryz.func233,Tryz.ntmps233
   go_wp2_with (go_at_call 263;(with_reducible refine(RP.out _).mono ?_);rintro e w1 ⟨rfl,rfl⟩)
   go_ret
   exact⟨rfl,Mj _ _⟩
  by_cases h92:r=92
  ·subst h92
   clear hr env hnp
   go_enter Tryz.func233,Tryz.ntmps233
   go_wp2_with (go_at_call 263;(with_reducible refine(RP.out _).mono ?_);rintro e w1 ⟨rfl,rfl⟩)
   go_ret
   exact⟨rfl,Mj _ _⟩
  ·have hsm:r<32∨r=127:=by omega
   obtain⟨n,rfl⟩: ∃n:Nat,r=(n:Int):=⟨r.toNat,by have:=hr.1;omega⟩
   have HF:=Lh (fint16_any n (by omega) w env)
   have hlen:=hexL_len n 1 (by omega)
   have hsz:(strOfNums (hexL n)).size≤2:=by rw[strOfNums_size];exact hlen
   have hres:Hid (⟨#[92,117,123]⟩++strOfNums (hexL n)++⟨#[125]⟩=strOfNums (quoteR (n:Int))):=by
    unfold Hid quoteR
    rw[if_neg h34,if_neg h92,if_neg h10,if_neg h9,if_pos hsm,←strOfNums_append,←strOfNums_append,Int.toNat_natCast]
    rfl
   have e10:((n:Int)==10)=false:=by simpa using h10
   have e9:((n:Int)==9)=false:=by simpa using h9
   have e34:((n:Int)==34)=false:=by simpa using h34
   have e92:((n:Int)==92)=false:=by simpa using h92
   have hw:IntKind.i64.wrap (n:Int)=(n:Int):=by rw[IntKind.wrap_i64];omega
   generalize strOfNums (hexL n)=R at HF hsz hres
   have b1: ¬9223372036854775807<(⟨#[92,117,123]⟩:ByteArray).size+R.size:=by
    have:(⟨#[92,117,123]⟩:ByteArray).size=3:=rfl
    omega
   have b2: ¬9223372036854775807<((⟨#[92,117,123]⟩:ByteArray)++R).size+(⟨#[125]⟩:ByteArray).size:=by
    have:(⟨#[92,117,123]⟩:ByteArray).size=3:=rfl
    have:(⟨#[125]⟩:ByteArray).size=1:=rfl
    rw[ByteArray.size_append];omega
   clear h10 h9 h34 h92 hnp hsm hr env hlen
   go_enter Tryz.func233,Tryz.ntmps233
   go_wp2_with (first
    |(go_at_call 263;(with_reducible refine(RP.out _).mono ?_);rintro e w1 ⟨rfl,rfl⟩)
    |(go_at_call 240;(with_reducible refine HF.out.mono ?_);rintro e w1 ⟨rfl,g⟩;have G:=Lh g;clear g))
   go_ret
   exact⟨by rw[←hres.out];rfl,G.out⟩
theorem BldF.below {B b:Nat} {xs:List Value} {w w':World} (h:BldF B b xs w) (g:Below w.heap.size w w'):BldF B b xs w':=by
 have key: ∀p,Lib.BuilderAtF 142 5 B b p xs w→Lib.BuilderAtF 142 5 B b p xs w':=by
  rintro p ⟨hB,v,hb,ho,hn⟩
  refine⟨hB,v,(g.block _ (Array.getElem?_eq_some_iff.1 hb).1).trans hb,⟨ho.1,?_⟩,hn⟩
  rcases ho.2 with hx|⟨x,cap,cur,fz,hv,hbg,hg,rest⟩
  ·exact My hx
  ·exact Mx ⟨x,cap,cur,fz,hv,hbg,(g.block _ (Array.getElem?_eq_some_iff.1 hg).1).trans hg,rest⟩
 exact h.elim (fun x=>My (key _ x)) (fun x=>Mx (key _ x))
theorem BldF.lt {B b:Nat} {xs:List Value} {w:World} (h:BldF B b xs w):b<w.heap.size:=h.elim (fun x=>x.lt) (fun x=>x.lt)
theorem tquote_long (s:ByteArray) (w:World) (env:EnvQ w) (hm:s.size≤4294967296) (h:GoodL (runesOf (nums s))) (hl:120<(runesOf (nums s)).length):Calls Tryz.prog 205 #[.string s] w fun e w'=>e= .returned (.tuple #[.string ⟨#[]⟩, .int .i64 9])∧Below w.heap.size w w':=by
 have RG:=Lh (tgood_yes env.lo hm h)
 have RC:=Lh (fun w=>tcount_big s w (by omega))
 generalize (runesOf (nums s)).length=n at RC hl
 have hn:(120:Int)<(n:Int):=by omega
 clear h env hl
 go_enter Tryz.func205,Tryz.ntmps205
 go_wp2_with (first
  |(go_at_call 117;(with_reducible refine RG.out.mono ?_);rintro e w1 ⟨rfl,g⟩;have G:=Lh g;clear g)
  |(go_at_call 118;(with_reducible refine(RC.out _).mono ?_);rintro e w2 ⟨rfl,g2⟩;have G2:=Lh (below_step G.out g2);clear g2))
 go_ret2
 exact⟨rfl,G2.out⟩
theorem tquote_fine (s:ByteArray) (w:World) (env:EnvQ w) (hm:s.size≤4294967296) (h:GoodL (runesOf (nums s))) (hl:(runesOf (nums s)).length≤120):Calls Tryz.prog 205 #[.string s] w fun e w'=>e= .returned (.tuple #[.string (strOfNums (quoteL (runesOf (nums s)))), .int .i64 0])∧Below w.heap.size w w':=by
 have hlen:Hid ((nums s).length=s.size):=nums_length s
 have HE:=Lh env
 have RG:=Lh (tgood_yes env.lo hm h)
 have RC:=Lh (fun w=>tcount_big s w (by omega))
 have HOK:=Lh (good_ok h)
 obtain⟨l,hll⟩: ∃l,runesOf (nums s)=l:=⟨_,rfl⟩
 rw[hll]at HOK RC hl ⊢
 have HL:=Lh hll
 have H120:=Lh hl
 have hn: ¬(120:Int)<(l.length:Int):=by omega
 obtain⟨B,hB⟩: ∃B,w.heap.size=B:=⟨_,rfl⟩
 have HB:=Lh hB
 clear h env hl hll hB
 go_enter Tryz.func205,Tryz.ntmps205
 go_wp2_with (first
  |(go_at_call 117;(with_reducible refine RG.out.mono ?_);rintro e w1 ⟨rfl,g⟩;have G:=Lh g;clear g)
  |(go_at_call 118;(with_reducible refine(RC.out _).mono ?_);rintro e w2 ⟨rfl,g2⟩;have G2:=Lh (HB.out▸below_step G.out g2:Below B w w2);have S2:=Lh (show B≤w2.heap.size by have:=G2.out.size;have:=HB.out;omega);have NB:=Lh (bld_new w2 B w2.heap.size rfl S2.out);have NW:=Lh (G2.out.alloc S2.out (.cells #[.pointer none, .slice none 0 0] 142));have NS:=Lh (show B≤(w2.alloc (.cells #[.pointer none, .slice none 0 0] 142)).heap.size by have:=S2.out;simp;omega);clear g2)
  |(go_at_call 204;(with_reducible refine(wbyte_any B w2.heap.size [] 34 _ NB.out (by decide) NS.out).mono ?_);rintro e w3 ⟨rfl,h3,b3,k3⟩;have H3:=Lh h3;have B3:=Lh (NW.out.trans b3);clear h3 b3 k3))
 obtain⟨b,hb⟩: ∃b,w2.heap.size=b:=⟨_,rfl⟩
 rw[hb]at H3 ⊢
 have hlt:=H3.out.lt
 obtain⟨I,hI⟩: ∃I,w3.heap.size=I:=⟨_,rfl⟩
 rw[hI]at hlt ⊢
 have hIb:Hid (I≠b):=(by omega:I≠b)
 have hBI:Hid (B≤I):=by have:=B3.out.size;have:=HB.out;unfold Hid;omega
 have H4:Hid (BldF B b (u8s [34]) (w3.iter s 0)):=H3.out.alloc _
 have B4:Hid (Below B w (w3.iter s 0)):=B3.out.alloc (by rw[hI];exact hBI.out) _
 have I4:Hid ((w3.iter s 0).heap[I]?=some (.stringIter s 0)):=by rw[←hI];exact World.iter_heap w3 s 0
 generalize w3.iter s 0=w4 at H4 B4 I4 ⊢
 clear hlt hI hb H3 B3 NB NW NS
 go_loopw [] (fun wr=> ∃(pos i:Nat),pos≤s.size∧rfrom (nums s) pos=l.drop i∧i≤l.length∧BldF B b (u8s ([34]++quoteB (l.take i))) wr∧wr.heap[I]?=some (.stringIter s pos)∧Below B w wr) (fun wr=>s.size-wr.iterPos I)
 case atStart=>exact⟨0,0,Nat.zero_le _,HL.out,Nat.zero_le _,H4.out,I4.out,B4.out⟩
 case round=>
  obtain⟨pos,i,hp,hr,hil,hS,hk,hb⟩:=hrel
  have HR:=Lh hr
  have HB0:=Lh hb
  have HS0:=Lh hS
  clear hr hb hS
  by_cases h1:pos<s.size
  ·obtain⟨y,hnx,y0,y1,ht⟩:=txt_rune wr I s pos hk h1
   have hR:rfrom (nums s) pos=runeA (nums s) pos::rfrom (nums s) (pos+widA (nums s) pos):=rfrom_in (by rw[hlen.out];exact h1)
   obtain⟨hi0,hz,hr2⟩:=drop_cons (HR.out.symm.trans hR)
   have hmem:l.getD i 0∈l:=by rw[List.getD_eq_getElem?_getD,List.getElem?_eq_getElem hi0];exact List.getElem_mem hi0
   have hzy:l.getD i 0=y:=by
    rcases ht with⟨e1,_⟩|⟨_,e2⟩
    ·have:=(HOK.out _ hmem).1;rw[hz,e1]at this;omega
    ·rw[e2,←hz]
   have hok:RuneOk y:=by rw[←hzy];exact HOK.out _ hmem
   have HRO:=Lh hok
   have HR2:=Lh hr2.symm
   have hwid:=Lh (widA_pos (nums s) pos)
   have hwin:=Lh (widA_in (zs:=nums s) (i:=pos) (by rw[hlen.out];exact h1))
   have HB1:=Lh (Lib.below_iterAt HB0.out hBI.out s (pos+widA (nums s) pos))
   have hk2:=Lh (Lib.iterAt_heap wr I s pos (pos+widA (nums s) pos) hk)
   have hk0:=Lh hk
   have HS:=Lh (Lib.IsBuilderF.iterAt HS0.out hk (pos+widA (nums s) pos))
   have hi:Hid (i<l.length):=hi0
   have hbyte:=Lh (quoteR_byte hok)
   have hnew:Hid (([34]++quoteB (l.take i))++quoteR y= [34]++quoteB (l.take (i+1))):=by unfold Hid;rw[take_snoc hi0,quoteB_snoc,hzy,List.append_assoc]
   have hsz:Hid (([34]++quoteB (l.take i)).length+(quoteR y).length≤140737488355328):=by
    have h5:=quoteB_len (l:=l.take i) (fun z hz=>by have:=HOK.out z (List.mem_of_mem_take hz);have h6:=this.1;have h7:=this.2.1;omega)
    have h6:=quoteR_len hok.2.1
    have h7:=H120.out
    rw[List.length_take]at h5
    unfold Hid
    rw[List.length_append]
    simp only[Jq,List.length_nil]
    omega
   generalize [34]++quoteB (l.take i)=zs at HS hnew hsz
   clear ht hz hr2 hR hi0 hk hzy hok hmem HS0
   obtain⟨p2,hp2⟩: ∃p,pos+widA (nums s) pos=p:=⟨_,rfl⟩
   rw[hp2]at hnx HB1 hk2 HR2 hwin HS
   have hlt:Hid (pos<p2):=by have:=hwid.out;unfold Hid;omega
   have hle:Hid (p2≤s.size):=by have:=hwin.out;rw[hlen.out]at this;exact this
   clear hp2 hwid hwin
   generalize wr.iterAt I s p2=W1 at hnx HB1 hk2 HS
   have HP:=Lh (tprinted_any y HRO.out W1 (HE.out.step (HB.out▸HB1.out)))
   go_wp2_with (first
    |(go_at_call 233;(with_reducible refine HP.out.mono ?_);rintro e w5 ⟨rfl,g5⟩;have H5:=Lh (BldF.below HS.out g5);have I5:=Lh ((g5.block I (Array.getElem?_eq_some_iff.1 hk2.out).1).trans hk2.out);have B5:=Lh (HB1.out.trans (g5.mono (by have:=HB1.out.size;have:=HB.out;omega)));have S5:=Lh (show B≤w5.heap.size by have:=B5.out.size;have:=HB.out;omega);clear g5)
    |(go_at_call 202;(with_reducible refine(wstr_any B b zs (quoteR y) hbyte.out _ H5.out hsz.out S5.out).mono ?_);rintro e w6 ⟨rfl,h6,b6,k6⟩;have H6:=Lh h6;have I6:=Lh (Lib.OthersKept.iter k6 I5.out hIb.out);have B6:=Lh (B5.out.trans b6);clear h6 b6 k6))
   rw[hnew.out]at H6
   go_roundw
   case rel=>exact⟨p2,i+1,hle.out,HR2.out,hi.out,H6.out,I6.out,B6.out⟩
   case measure=>rw[iterPos_of I6.out,iterPos_of hk0.out];have:=hlt.out;have:=hle.out;omega
  ·have hend:i=l.length:=by
    have h5:=HR.out
    rw[rfrom_out (by rw[hlen.out];exact h1)]at h5
    have h6:=congrArg List.length h5
    rw[List.length_drop]at h6
    simp at h6;omega
   have hnx:=fun ty=>Lib.run_next_end_at (P:=Tryz.prog) wr I s pos ty hk h1
   subst hend
   rw[List.take_length]at HS0
   have hsz:Hid (([34]++quoteB l).length+1≤140737488355328):=by
    have h5:=quoteB_len (l:=l) (fun z hz=>by have:=HOK.out z hz;have h6:=this.1;have h7:=this.2.1;omega)
    have h7:=H120.out
    unfold Hid
    rw[List.length_append]
    simp only[Jq,List.length_nil]
    omega
   have hbyte:Hid (∀z∈quoteL l,0≤z∧z≤255):=by
    unfold Hid quoteL
    intro z hz
    rcases List.mem_append.mp hz with hz|hz
    ·rcases List.mem_append.mp hz with hz|hz
     ·obtain rfl:z=34:=by simpa using hz
      omega
     ·obtain⟨r,hr,hz⟩:=List.mem_flatMap.mp hz
      exact quoteR_byte (HOK.out r hr) z hz
    ·obtain rfl:z=34:=by simpa using hz
     omega
   have HW:=Lh (wbyte_any B b ([34]++quoteB l) 34 wr HS0.out hsz.out (by have:=HB0.out.size;have:=HB.out;omega))
   have HT:=Lh (fun w' (h:BldF B b (u8s (quoteL l)) w') (g:Below B w w')=>bstr_any B b (quoteL l) hbyte.out w' h (by have:=g.size;have:=HB.out;omega))
   change Hid (Calls _ _ _ _ (fun e w'=>e= .returned .nilIface∧BldF B b (u8s (quoteL l)) w'∧Below B wr w'∧Lib.OthersKept 5 (some b) wr w'))at HW
   obtain⟨zs,hzs⟩: ∃zs,quoteL l=zs:=⟨_,rfl⟩
   rw[hzs]at HW HT
   have HZS:=Lh hzs
   clear hzs
   clear hk
   go_wp2_with (first
    |(go_at_call 204;(with_reducible refine HW.out.mono ?_);rintro e w5 ⟨rfl,h5,b5,k5⟩;have H5:=Lh h5;have B5:=Lh (HB0.out.trans b5);clear h5 b5 k5)
    |(go_at_call 96;(with_reducible refine(HT.out _ H5.out B5.out).mono ?_);rintro e w6 ⟨rfl,h6,b6,k6⟩;have B6:=Lh (B5.out.trans b6);clear h6 b6 k6))
   go_ret2
   exact⟨by rw[HZS.out];rfl,HB.out▸B6.out⟩
end
section
def lineEnd (l:List Int) (i:Nat):Nat:=i+((l.drop i).takeWhile (fun z=>decide (z≠10))).length
theorem lineEnd_one {l:List Int} {i:Nat} (h:i<l.length) (e:l.getD i 0≠10):i<lineEnd l i:=by
 unfold lineEnd
 rw[sdrop_cons h,List.takeWhile_cons_of_pos (by simpa using e),Jq]
 omega
def gapB (z:Int):Bool:=z==32||z==9||z==10
noncomputable def tokF (l:List Int) (i:Nat):Except (Nat×Int) (List (TkV×Nat)):=
 if h:i<l.length then
  (if gapB (l.getD i 0)then tokF l (i+1)
  else if _h2:l.getD i 0=35 then tokF l (lineEnd l i)
  else if(oneF l i).2.2=0 then(if _hn:i<(oneF l i).2.1 then(tokF l (oneF l i).2.1).map (fun L=>((oneF l i).1,i)::L)else .ok [])
  else .error (i,(oneF l i).2.2))
 else .ok []
termination_by l.length-i
decreasing_by
 ·omega
 ·have:=lineEnd_one h (by omega);omega
 ·omega
end
section
def qEnd:Bool→List Int→Nat
 |_,[]=>0
 |tk,r::t=>if r=10 then 0 else if tk=true then qEnd false t+1 else if r=92 then qEnd true t+1 else if r=34 then 1 else qEnd false t+1
def Calm (u:Qs):Prop:=(∀xs,u≠ .done xs)∧∀xs,u≠ .esc xs
def pieceN (m:List Int):Nat:=
 if m.getD 0 0=35 then lineEnd m 0 else if m.getD 0 0=34 then qEnd true m else if withinB (m.getD 0 0)=true then wordEnd m 0 else 1
noncomputable def tokP (p:List Int):TkV×Int:=
 if p.getD 0 0=123 then(⟨7,[],0⟩,0)else if p.getD 0 0=125 then(⟨8,[],0⟩,0)else if p.getD 0 0=59 then(⟨9,[],0⟩,0)
 else if p.getD 0 0=34 then(if(unqF p).2=0 then(⟨2,(unqF p).1,0⟩,0)else(tk0,(unqF p).2))else valF p
end
section
noncomputable def valG (zs:List Int):TkV×Int:=
 open Classical in
 if NameL (runesOf zs)then(⟨1,zs,0⟩,0)
 else if zs= []∨digitB (zs.getD 0 0)=false then(tk0,5)
 else if AllD zs then numT 3 (numF zs)
 else if zs.getD (zs.length-1) 0=37 then numT 5 (shareF zs)
 else if 46∈zs then numT 4 (facF (headP zs) (tailP zs))
 else numT 6 (spanF zs)
theorem within_low {r:Int} (h:withinB r=true):0≤r:=by
 unfold withinB letterB digitB at h
 simp only[Bool.and_eq_true,Bool.or_eq_true,decide_eq_true_eq]at h
 omega
theorem runes_of_ascii {zs:List Int} (h: ∀z∈zs,0≤z∧z<128):runesOf zs=zs:=by
 have:=runes_ascii zs h []
 rw[runes_nil,List.append_nil]at this
 exact this
theorem digit_within {z:Int} (h:48≤z∧z≤57):withinB z=true:=by unfold withinB digitB;simp[h]
theorem unit_within {z:Int} (h:unitOf z≠0):withinB z=true:=by
 unfold unitOf at h
 have:z=119∨z=100∨z=104∨z=109∨z=115:=by
  refine Classical.byContradiction fun hn=>h ?_
  rw[if_neg (by omega),if_neg (by omega),if_neg (by omega),if_neg (by omega),if_neg (by omega)]
 rcases this with rfl|rfl|rfl|rfl|rfl<;>decide
theorem runs_letters: ∀(zs:List Int) (s t:St),runs s zs=some t→∀z∈zs,(48≤z∧z≤57)∨unitOf z≠0
 | [],_,_,_,z,hz=>by cases hz
 |y::zs,s,t,h,z,hz=>by
  have h2:(stp s y).bind (fun u=>runs u zs)=some t:=by
   have:=runs_append s [y] zs
   rw[List.singleton_append]at this
   rw[this]at h
   simpa [runs] using h
  obtain⟨u,hu,hr⟩:=Option.bind_eq_some_iff.mp h2
  rcases List.mem_cons.mp hz with rfl|hz
  ·by_cases hd:48≤z∧z≤57
   ·exact My hd
   ·refine Mx fun h0=>?_
    obtain⟨a,l,n⟩:=s
    cases n with
    |none=>rw[stp_bare hd]at hu;cases hu
    |some n=>rw[stp_none hd (My h0)]at hu;cases hu
  ·exact runs_letters zs u t hr z hz
theorem within_ascii {z:Int} (h:(48≤z∧z≤57)∨unitOf z≠0∨z=46∨z=37):withinB z=true∧0≤z∧z<128:=by
 rcases h with h|h|h|h
 ·exact⟨digit_within h,by omega,by omega⟩
 ·have h2:=unit_within h
  refine⟨h2,within_low h2,?_⟩
  refine Classical.byContradiction fun hn=>h (unitOf_high (by omega))
 ·subst h;exact⟨by decide,by omega,by omega⟩
 ·subst h;exact⟨by decide,by omega,by omega⟩
end
section
open Go.RowKit
def tailD (r:Nat):List Int:=if r=0 then []else(48+((r/10:Nat):Int))::(if r%10=0 then []else [48+((r%10:Nat):Int)])
def facP (n:Nat):List Int:=dec (n/1000)++ [46]++ [48+((n%1000/100:Nat):Int)]++tailD (n%100)
def prT (k:Int) (s:ByteArray) (n:Nat):List Int:=
 if k=1 then nums s else if k=2 then quoteL (runesOf (nums s))else if k=3 then dec n else if k=4 then facP n else if k=5 then pct n else if k=6 then spn n
 else if k=7 then [123]else if k=8 then [125]else if k=9 then [59]else []
end
section
open Go.RowKit
theorem tname_any (s:ByteArray) (w:World) (_env:Env w) (hm:s.size≤4294967296):Calls Tryz.prog 62 #[.string s] w (GivesQ (NameL (runesOf (nums s))) w):=tname_plain s w hm
end
section
open Go.RowKit
def tkC (l:List Int) (p:TkV×Nat):List Value:= [.int .i64 (p.1.kind:Int), .string (strOfNums p.1.text), .int .u64 (p.1.n:Int), .int .i64 (spotAt l p.2).1, .int .i64 (spotAt l p.2).2]
def toksV (l:List Int) (L:List (TkV×Nat)):List (List Value):=L.map (tkC l)
def GivesToks (l:List Int) (w:World) (e:Ending) (w':World):Prop:=
 Below w.heap.size w w'∧((∃k c,tokF l 0= .error (k,c)∧e= .returned (.tuple #[.slice none 0 0, .agg #[.int .i64 c, .int .i64 (spotAt l k).1, .int .i64 (spotAt l k).2]]))∨
  ∃L v,tokF l 0= .ok L∧e= .returned (.tuple #[v, .agg #[.int .i64 0, .int .i64 0, .int .i64 0]])∧RowK 89 5 w' w.heap.size v (toksV l (L++ [(tk0,l.length)])))
def Ahead (l:List Int) (i:Nat) (acc:List (TkV×Nat)):Prop:=tokF l 0=(tokF l i).map (fun L=>acc++L)
def TF (C:Int) (g n cap2 i:Nat) (X Y:Int):Nat→Value→World→Prop
 |0,v,_=>v= .int .i64 C
 |1,v,_=>v= .slice (some ⟨g,0,none⟩) (n+1) cap2
 |2,v,_=>v= .int .i64 (i:Int)
 |3,v,_=>v= .pointer (some ⟨g,i*2,none⟩)
 |4,v,_=>v= .agg #[.int .i64 X, .int .i64 Y]
 |5,v,_=>v= .agg #[.int .i64 C, .int .i64 X, .int .i64 Y]
 |6,v,_=>v= .slice none 0 0
 |_,_,_=>True
end
section
open Go.RowKit
def frontS (s:ByteArray) (k:Nat):ByteArray:=strOfNums ((nums s).take (posOf (nums s) k))
def GivesFr (s:ByteArray) (E:Nat) (w:World) (e:Ending) (w':World):Prop:=e= .returned (.string (frontS s E))∧Below w.heap.size w w'
end
section
open Go.RowKit
def spotTo (p:Int×Int) (l:List Int) (k:Nat):Int×Int:=(l.take k).foldl spotStep p
end
section
def txT (k:Int) (s:ByteArray):List Int:=if k=1∨k=2 then nums s else []
def EndG (R:List Int):Prop:= ∀r t,R=r::t→withinB r=false
structure ReadsAs (pr:List Int) (t:TkV):Prop where
 some:0<pr.length
 gap:gapB (pr.getD 0 0)=false
 note:pr.getD 0 0≠35
 tok:tokP pr=(t,0)
 piece: ∀R,EndG R→pieceN (pr++R)=pr.length
theorem tailD_bd {r:Nat} (h:r<100):(∀z∈tailD r,48≤z∧z≤57)∧(tailD r).length≤2:=by
 unfold tailD
 split
 ·exact⟨fun z hz=>(by cases hz),by simp⟩
 ·split
  ·refine⟨fun z hz=>?_,by simp⟩
   have:=List.mem_singleton.mp hz;omega
  ·refine⟨fun z hz=>?_,by simp⟩
   simp only[List.mem_cons,List.not_mem_nil,or_false]at hz
   omega
theorem facP_form (n:Nat):facP n=dec (n/1000)++46::([48+((n%1000/100:Nat):Int)]++tailD (n%100)):=by
 unfold facP;simp
theorem pct_letters (n:Nat): ∀z∈pct n,(48≤z∧z≤57)∨unitOf z≠0∨z=46∨z=37:=fun z hz=>by
 unfold pct tailOf at hz
 rcases List.mem_append.mp hz with hz|hz
 ·exact My (dec_byte _ z hz)
 ·rcases List.mem_append.mp hz with hz|hz
  ·split at hz
   ·cases hz
   ·rcases List.mem_cons.mp hz with rfl|hz
    ·exact Mx (Mx (My rfl))
    ·exact My (fr_byte 4 _ (by omega) z hz)
  ·exact Mx (Mx (Mx (List.mem_singleton.mp hz)))
theorem name_within {l:List Int} (h:NameL l): ∀z∈l,withinB z=true:=fun z hz=>by
 obtain⟨i,hi,rfl⟩:=List.mem_iff_getElem.mp hz
 have:=h.2.2.2 i hi
 unfold nameOk at this
 rw[List.getD_eq_getElem?_getD,List.getElem?_eq_getElem hi]at this
 simp only[Option.getD_some]at this
 unfold withinB
 revert this
 cases letterB l[i]<;>cases digitB l[i]<;>simp
 intro _ h2
 rcases h2 with h2|h2<;>simp[h2]
theorem hexL_in (n:Nat): ∀z∈hexL n,(48≤z∧z≤57)∨(97≤z∧z≤102):=by
 have one: ∀m,m<16→(48≤hexD m∧hexD m≤57)∨(97≤hexD m∧hexD m≤102):=fun m hm=>by unfold hexD;split<;>omega
 induction n using Nat.strongRecOn with
 |_ n ih=>
  intro z hz
  by_cases h:n<16
  ·rw[hexL_small h]at hz
   obtain rfl:z=hexD n:=by simpa using hz
   exact one _ h
  ·rw[hexL_big h]at hz
   rcases List.mem_append.mp hz with hz|hz
   ·exact ih (n/16) (by omega) z hz
   ·obtain rfl:z=hexD (n%16):=by simpa using hz
    exact one _ (by omega)
end
section
open Go.RowKit
def TP (p n q L r:Nat):Nat→Value→World→Prop
 |0,v,_=>v= .pointer (some ⟨p,2,none⟩)
 |1,v,_=>v= .int .u64 (n:Int)
 |2,v,_=>v= .int .u64 (q:Int)
 |3,v,_=>v= .string (strOfNums (dec q))
 |4,v,_=>v= .string (strOfNums (dec q++ [46]))
 |5,v,_=>v= .int .u64 (L:Int)
 |6,v,_=>v= .int .u64 (r:Int)
 |7,v,_=>v= .int .u8 (r:Int)
 |8,v,_=>v= .int .u8 (48+(r:Int))
 |9,v,W=> ∃g,v= .slice (some ⟨g,0,none⟩) 1 1∧g<W.heap.size∧W.cell? ⟨g,0,none⟩=some (.int .u8 (48+(r:Int)))
 |10,v,_=>v= .string (strOfNums [48+(r:Int)])
 |11,v,_=>v= .string (strOfNums (dec q++ [46,48+(r:Int)]))
 |_,_,_=>True
end
section
open Go.RowKit
end
section
open Go.RowKit
def GivesNu (p:Nat×Int) (w:World) (e:Ending) (w':World):Prop:=e= .returned (.tuple #[.int .u64 (p.1:Int), .int .i64 p.2])∧Below w.heap.size w w'
def narF (N:Nat) (c:Int):Nat×Int:=if c=3∨18446744073709551615<N then(0,8)else(N,c)
structure TAt (B:List Int) (pos:Nat) (P u:Int):Prop where
 few:pos≤3
 len:pos≤B.length
 u:u=((10^(3-pos):Nat):Int)
 p:P=((numOf (B.take pos)*10^(3-pos):Nat):Int)
 all: ∀i,i<pos→48≤B.getD i 0∧B.getD i 0≤57
def GivesT3 (B:List Int) (w:World) (e:Ending) (w':World):Prop:= ∃(x:Int) (b:Bool),e= .returned (.tuple #[.int .u64 x, .bool b])∧(b=true↔AllD B∧B.length≤3)∧(b=true→x=(t3 B:Int))∧Below w.heap.size w w'
noncomputable def kindF (zs:List Int):Int:=open Classical in if AllD zs then 3 else if zs.getD (zs.length-1) 0=37 then 5 else if 46∈zs then 4 else 6
end
section
open Go.RowKit
noncomputable def numK (k:Int) (zs:List Int):Nat×Int:=if k=3 then numF zs else if k=5 then shareF zs else if k=4 then facF (headP zs) (tailP zs)else spanF zs
end
section
open Go.RowKit
def valV (p:TkV×Int):Value:=if p.2=0 then .iface 89 (tkAt p.1 0 0)else .iface 37 (.int .i64 p.2)
def zTok:Obj:= .cells #[.int .i64 0, .string ⟨#[]⟩, .int .u64 0, .int .i64 0, .int .i64 0] 89
end
section
open Go.RowKit
end
section
structure Tk3 where
 k:Int:=0
 s:ByteArray:=⟨#[]⟩
 n:Int:=0
 a:Int:=0
 b:Int:=0
inductive It where
 |mk (name:ByteArray) (words:List Tk3) (block:Bool) (kids:List It) (a b:Int):It
instance:Inhabited It:=⟨.mk ⟨#[]⟩ [] false [] 0 0⟩
def It.name:It→ByteArray| .mk n _ _ _ _ _=>n
def It.words:It→List Tk3| .mk _ w _ _ _ _=>w
def It.block:It→Bool| .mk _ _ k _ _ _=>k
def It.kids:It→List It| .mk _ _ _ l _ _=>l
def It.a:It→Int| .mk _ _ _ _ a _=>a
def It.b:It→Int| .mk _ _ _ _ _ b=>b
def cntL:List It→Nat
 | []=>0
 | .mk _ _ _ kids _ _::l=>1+cntL kids+cntL l
def depL:List It→Nat
 | []=>0
 | .mk _ _ _ kids _ _::l=>max (1+depL kids) (depL l)
def Tk3.bare (t:Tk3):Tk3:= { t with a:=0,b:=0 }
def bareL:List It→List It
 | []=> []
 | .mk n w k kids _ _::l=> .mk n (w.map Tk3.bare) k (bareL kids) 0 0::bareL l
def toksL:List It→List Tk3
 | []=> []
 | .mk n w k kids a b::l=> { k:=1,s:=n,a:=a,b:=b } ::(w++(if k then { k:=7 } ::(toksL kids++ [{ k:=8 }])else [{ k:=9 }]))++toksL l
structure Hd where
 name:ByteArray:=⟨#[]⟩
 words:List Tk3:= []
 a:Int:=0
 b:Int:=0
def Hd.it (h:Hd) (block:Bool) (kids:List It):It:= .mk h.name h.words block kids h.a h.b
def pushS (x:It):List (Hd×List It)→List (Hd×List It)
 | []=> []
 |(h,l)::st=>(h,l++ [x])::st
def popS:List (Hd×List It)→List (Hd×List It)
 | []=> []
 |(h,l)::st=>pushS (h.it true l) st
def trF:List Tk3→List (Hd×List It)→Nat→Option Hd→Except (Int×Int×Int) (List It)
 | [],_,_,_=> .ok []
 |t::T,st,n,some h=>
  if t.k=9 then trF T (pushS (h.it false []) st) n none
  else if t.k=7 then trF T ((h,[])::st) n none
  else if t.k<1∨6<t.k then .error (6,t.a,t.b)
  else if 6≤h.words.length then .error (9,t.a,t.b)
  else trF T st n (some { h with words:=h.words++ [t] })
 |t::T,st,n,none=>
  if t.k=8∧2≤st.length then trF T (popS st) n none
  else if t.k=0∧st.length=1 then .ok (st.headD ({},[])).2
  else if t.k≠1 then .error (6,t.a,t.b)
  else if 5≤st.length then .error (19,t.a,t.b)
  else if 300≤n then .error (9,t.a,t.b)
  else trF T st (n+1) (some { name:=t.s,a:=t.a,b:=t.b })
theorem cntL_app (l m:List It):cntL (l++m)=cntL l+cntL m:=by
 induction l with
 |nil=>simp[cntL]
 |cons x l ih=>obtain⟨n,w,k,kids,a,b⟩:=x;simp only[List.cons_append,cntL,ih];omega
theorem depL_app (l m:List It):depL (l++m)=max (depL l) (depL m):=by
 induction l with
 |nil=>simp[depL]
 |cons x l ih=>obtain⟨n,w,k,kids,a,b⟩:=x;simp only[List.cons_append,depL,ih];omega
def cntS:List (Hd×List It)→Nat
 | []=>0
 |(_,l)::st=>cntL l+(if st= []then 0 else 1)+cntS st
def depS:List (Hd×List It)→Nat
 | []=>0
 |(_,l)::st=>max (st.length+depL l) (depS st)
def oneO (o:Option Hd):Nat:=if o.isSome then 1 else 0
def depO (st:List (Hd×List It)) (o:Option Hd):Nat:=if o.isSome then max st.length (depS st)else depS st
def underS:List (Hd×List It)→List (Hd×List It)→List (Hd×List It)
 | [],K=>K
 | [(_,M)],K=>match K with
  | []=> []
  |(h,l)::R=>(h,l++M)::R
 |x::y::st,K=>x::underS (y::st) K
end
section
def Hd.bare (h:Hd):Hd:= { h with words:=h.words.map Tk3.bare,a:=0,b:=0 }
def bareS (st:List (Hd×List It)):List (Hd×List It):=st.map fun x=>(x.1.bare,bareL x.2)
def bareE:Except (Int×Int×Int) (List It)→Except (Int×Int×Int) (List It)
 | .ok L=> .ok (bareL L)
 | .error (c,_,_)=> .error (c,0,0)
def Hd.toks (h:Hd):List Tk3:= { k:=1,s:=h.name,a:=h.a,b:=h.b } ::h.words
def toksO:Option Hd→List Tk3
 |none=> []
 |some h=>h.toks
def toksS:List (Hd×List It)→List Tk3
 | []=> []
 |(h,l)::st=>toksS st++(if st= []then []else h.toks++ [{ k:=7 }])++toksL l
def Tk3.norm (t:Tk3):Tk3:=if t.k≤6 then t else { t with a:=0,b:=0 }
structure Tk3.Ok (t:Tk3):Prop where
 name:t.k=1→t.n=0
 mark:6<t.k→t.s=⟨#[]⟩∧t.n=0
end
section
def laterE (k:Nat):Except (Nat×Int) (List (TkV×Nat))→Except (Nat×Int) (List (TkV×Nat))
 | .ok L=> .ok (L.map fun x=>(x.1,x.2+k))
 | .error (i,c)=> .error (i+k,c)
end
section
structure TkGood (t:TkV):Prop where
 some:t.kind≠0
 name:t.kind=1→t.n=0
 mark:6<t.kind→t.text= []∧t.n=0
def tk3 (l:List Int) (p:TkV×Nat):Tk3:= { k:=(p.1.kind:Int),s:=strOfNums p.1.text,n:=(p.1.n:Int),a:=(spotAt l p.2).1,b:=(spotAt l p.2).2 }
noncomputable def treF (l:List Int):Except (Int×Int×Int) (List It):=match tokF l 0 with
 | .error (k,c)=> .error (c,(spotAt l k).1,(spotAt l k).2)
 | .ok L=>trF (L.map (tk3 l)++ [tk3 l (tk0,l.length)]) [({},[])] 0 none
def tkB (t:TkV):Tk3:= { k:=(t.kind:Int),s:=strOfNums t.text,n:=(t.n:Int) }
end
section
def TEnd (T:List Tk3):Prop:= ∃T1 e,T=T1++ [e]∧e.k=0∧∀t∈T1,t.k≠0
def LRun (d:Nat) (T0:List Tk3) (n0:Nat) (acc:List It) (T:List Tk3) (n:Nat):Prop:= ∀h l R,R.length+1=d→trF T0 ((h,l)::R) n0 none=trF T ((h,l++acc)::R) n none
def LBad (d:Nat) (T0:List Tk3) (n0:Nat) (c a b:Int):Prop:= ∀h l R,R.length+1=d→trF T0 ((h,l)::R) n0 none= .error (c,a,b)
def LDone (d:Nat) (T0:List Tk3) (n0:Nat) (L:List It) (T:List Tk3) (n:Nat):Prop:=
 (d=1→∀h l,trF T0 [(h,l)] n0 none= .ok (l++L))∧(∀h l y R,R.length+2=d→trF T0 ((h,l)::y::R) n0 none=trF T (pushS (h.it true (l++L)) (y::R)) n none)
def IRun (d:Nat) (hd:Hd) (T0:List Tk3) (n0:Nat) (x:It) (T:List Tk3) (n:Nat):Prop:= ∀h l R,R.length+1=d→trF T0 ((h,l)::R) n0 (some hd)=trF T ((h,l++ [x])::R) n none
def IPart (d:Nat) (hd:Hd) (T0:List Tk3) (hd':Hd) (T:List Tk3):Prop:= ∀n h l R,R.length+1=d→trF T0 ((h,l)::R) n (some hd)=trF T ((h,l)::R) n (some hd')
def IBad (d:Nat) (hd:Hd) (T0:List Tk3) (n0:Nat) (c a b:Int):Prop:= ∀h l R,R.length+1=d→trF T0 ((h,l)::R) n0 (some hd)= .error (c,a,b)
def endK (d:Nat):Int:=if d=1 then 0 else 8
end
section
open Go.RowKit
def lenV:Value→Nat
 | .string s=>s.size
 |_=>0
structure TkM (w:World) (B:Nat) (l:List Int) (i:Nat) (acc:List (TkV×Nat)) (v:Value) (wr:World):Prop where
 row:RowK 89 5 wr (B+2) v (toksV l acc)
 at_:Var2 wr (B+1) (.int .i64 (spotAt l i).1) (.int .i64 (spotAt l i).2)
 res:Var3 wr B (.int .i64 0) (.int .i64 0) (.int .i64 0)
 bel:Below B w wr
 size:B+2≤wr.heap.size
 few:acc.length≤i
 ahead:Ahead l i acc
structure TokMade (w4:World) (g:Nat) (k:Int) (S:ByteArray) (n X Y:Int) (W5 W6 W7 W8:World):Prop where
 g0:w4.heap.size=g
 a5:w4.alloc (.cells #[.int .i64 0, .string ⟨#[]⟩, .int .u64 0, .int .i64 0, .int .i64 0] 89)=W5
 s6:(((((W5.setCell ⟨g,0,none⟩ (.int .i64 k)).setCell ⟨g,1,none⟩ (.string S)).setCell ⟨g,2,none⟩ (.int .u64 n)).setCell ⟨g,3,none⟩ (.int .i64 0)).setCell ⟨g,4,none⟩ (.int .i64 0))=W6
 s7:((W6.setCell ⟨g,3,none⟩ (.int .i64 X)).setCell ⟨g,4,none⟩ (.int .i64 Y))=W7
 a8:W7.alloc (.cells #[.int .i64 k, .string S, .int .u64 n, .int .i64 X, .int .i64 Y] 89)=W8
 f5:Var5 W5 g (.int .i64 0) (.string ⟨#[]⟩) (.int .u64 0) (.int .i64 0) (.int .i64 0)
 f6:Var5 W6 g (.int .i64 k) (.string S) (.int .u64 n) (.int .i64 0) (.int .i64 0)
 f7:Var5 W7 g (.int .i64 k) (.string S) (.int .u64 n) (.int .i64 X) (.int .i64 Y)
 b6:Below w4.heap.size w4 W6
 b8:Below w4.heap.size w4 W8
 z7:W7.heap.size=g+1
 c8: ∀j,j<5→W8.cell? ⟨g+1,j,none⟩=some (([.int .i64 k, .string S, .int .u64 n, .int .i64 X, .int .i64 Y]:List Value).getD j undef)
end
end Go.Proofs.YtiapmjkaappcfaaGreatDoor
