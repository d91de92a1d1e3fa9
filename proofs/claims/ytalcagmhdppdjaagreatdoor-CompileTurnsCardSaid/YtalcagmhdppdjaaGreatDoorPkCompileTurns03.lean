/-
  Package span's calls, walked: each by what a text tells, and what a number's print is.
-/
import Derived.Test.YtalcagmhdppdjaaGreatDoorPkCompileTurns02
import Derived.Lib.IndexLaws
import Derived.Lib.MinMax
set_option maxRecDepth 100000
set_option maxHeartbeats 4000000
namespace Go.Proofs.YtalcagmhdppdjaaGreatDoor
open Lib renaming hid→Lh
open Go.RowKit.Below renaming refl→Mj
open List renaming getD_eq_getElem?_getD→Mk,getElem?_eq_getElem→Kh,length_append→Kq
open Or renaming inr→Mx,inl→My
section
open Go.RowKit
theorem nums_mk (l:List UInt8):nums ⟨l.toArray⟩=l.map fun b=>(b.toNat:Int):=by simp[nums]
theorem nums_upto (s:ByteArray) (k:Nat):nums (s.extract 0 k)=(nums s).take k:=by
 rw[Lib.extract_upto,nums_mk,nums,List.map_take]
theorem nums_from (s:ByteArray) (k:Nat):nums (s.extract k s.size)=(nums s).drop k:=by
 rw[Lib.extract_from,nums_mk,nums,List.map_drop]
theorem csuf_any (s:ByteArray) (hm:s.size≤9223372036854775807): ∃(t:ByteArray) (e:Bool),(e=true→nums s=nums t++ [37])∧(e=false→¬∃ys,nums s=ys++ [37])∧t.size≤s.size∧
  ∀w,Calls Tryz.prog 148 #[.string s, .string ⟨#[37]⟩] w fun x w'=>x= .returned (.tuple #[.string t, .bool e])∧w=w':=by
 refine⟨⟨(Lib.trimSuffix s.data.toList [37]).toArray⟩,Lib.hasSuffix s.data.toList [37],fun h=>?_,fun h hc=>?_,?_,fun w=>?_⟩
 ·rw[nums_mk]
  unfold Lib.trimSuffix
  rw[if_pos h]
  unfold Lib.hasSuffix at h
  obtain⟨t,ht⟩:=List.isSuffixOf_iff_suffix.mp h
  rw[nums,←ht]
  simp
 ·obtain⟨ys,hy⟩:=hc
  have hl:s.data.toList≠ []:=fun e=>by rw[nums,e]at hy;simp at hy
  have hx:=List.dropLast_concat_getLast hl
  rw[nums,←hx,List.map_append]at hy
  have hlast:((s.data.toList.getLast hl).toNat:Int)=37:=by
   have:=congrArg List.getLast? hy
   simpa using this
  have h37:s.data.toList.getLast hl=37:=UInt8.toNat_inj.mp (by have e:(37:UInt8).toNat=37:=rfl;omega)
  have:Lib.hasSuffix s.data.toList [37]=true:=by
   unfold Lib.hasSuffix
   exact List.isSuffixOf_iff_suffix.mpr ⟨s.data.toList.dropLast,by rw[←h37];exact hx⟩
  rw[this]at h;cases h
 ·rw[Lib.size_mk]
  unfold Lib.trimSuffix
  have:s.data.toList.length=s.size:=by simp
  split
  ·rw[List.length_take];omega
  ·omega
 ·refine(Tryz.strings_CutSuffix s ⟨#[37]⟩ w hm).mono ?_
  rintro e w' ⟨rfl,hw⟩
  exact⟨rfl,hw.symm⟩
theorem point_in (s:ByteArray):46∈nums s↔(46:UInt8)∈s.data.toList:=by
 unfold nums
 rw[List.mem_map]
 constructor
 ·rintro⟨b,hb,e⟩
  have:b=46:=UInt8.toNat_inj.mp (by have e2:(46:UInt8).toNat=46:=rfl;omega)
  rw[←this];exact hb
 ·intro h;exact⟨46,h,rfl⟩
theorem cut_any (s:ByteArray) (hm:s.size≤9223372036854775807): ∃(a b:ByteArray) (d:Bool),Halves (nums s) (nums a) (nums b) d∧a.size≤s.size∧b.size≤s.size∧
  ∀w,Calls Tryz.prog 149 #[.string s, .string ⟨#[46]⟩] w fun x w'=>x= .returned (.tuple #[.string a, .string b, .bool d])∧Below w.heap.size w w':=by
 have hge:=Lib.indexByte_ge s.data.toList 46
 by_cases h:Lib.indexByte s.data.toList 46= -1
 ·refine⟨s,⟨#[]⟩,false,⟨by simp,?_,fun _=>rfl⟩,Nat.le_refl _,Nat.zero_le _,fun w=>?_⟩
  ·rw[point_in]
   intro hc
   obtain⟨k,hk,e⟩:=List.mem_iff_getElem.mp hc
   exact Lib.indexByte_none h k (by rw[Kh hk,e])
  ·have hi: ∀w,Calls Tryz.prog 168 #[.string s, .string ⟨#[46]⟩] w fun e w'=>e= .returned (.int .i64 (-1))∧w=w':=fun w=>by
    refine(Tryz.stringslite_Index_one s 46 w).mono ?_
    rintro e w' ⟨rfl,hw⟩
    exact⟨by rw[h],hw.symm⟩
   have hc: ∀w,Calls Tryz.prog 171 #[.string s, .string ⟨#[46]⟩] w fun x w'=>x= .returned (.tuple #[.string s, .string ⟨#[]⟩, .bool false])∧w=w':=fun w=>by
    clear hge h
    go_enter Tryz.func171,Tryz.ntmps171
    go_wp2_with (go_at_call 168;(with_reducible refine(hi _).mono ?_);rintro e w1 ⟨rfl,rfl⟩)
    go_ret3
    exact⟨rfl,rfl⟩
   clear hge h
   go_enter Tryz.func149,Tryz.ntmps149
   go_wp2_with (go_at_call 171;(with_reducible refine(hc _).mono ?_);rintro e w1 ⟨rfl,rfl⟩)
   go_ret3
   exact⟨rfl,Mj _ _⟩
 ·obtain⟨i,hi⟩: ∃i:Nat,Lib.indexByte s.data.toList 46=i:=⟨(Lib.indexByte s.data.toList 46).toNat,by omega⟩
  obtain⟨h1,h2⟩:=Lib.indexByte_some hi
  have hlt:i<s.size:=by
   have:i<s.data.toList.length:=by
    by_cases hc:i<s.data.toList.length
    ·exact hc
    ·rw[List.getElem?_eq_none (by omega)]at h1;cases h1
   simpa using this
  have hl:i<(nums s).length:=by rw[nums_length];exact hlt
  have h46:(nums s)[i]=46:=by
   have:(nums s)[i]?=some 46:=by rw[nums,List.getElem?_map,h1];rfl
   rw[Kh hl]at this
   exact Option.some.inj this
  refine⟨s.extract 0 i,s.extract (i+1) s.size,true,⟨?_,?_,fun e=>by cases e⟩,by rw[ByteArray.size_extract];omega,by rw[ByteArray.size_extract];omega,fun w=>?_⟩
  ·rw[nums_upto,nums_from,if_pos rfl,←h46,List.getElem_cons_drop,List.take_append_drop]
  ·rw[point_in,Lib.extract_upto]
   intro hc
   obtain⟨k,hk,e⟩:=List.mem_iff_getElem.mp hc
   simp at hk e
   exact h2 k (by omega) (by rw[Kh (by simp;omega)];simp;exact e)
  ·have hi': ∀w,Calls Tryz.prog 168 #[.string s, .string ⟨#[46]⟩] w fun e w'=>e= .returned (.int .i64 i)∧w=w':=fun w=>by
    refine(Tryz.stringslite_Index_one s 46 w).mono ?_
    rintro e w' ⟨rfl,hw⟩
    exact⟨by rw[hi],hw.symm⟩
   have hc: ∀w,Calls Tryz.prog 171 #[.string s, .string ⟨#[46]⟩] w fun x w'=>x= .returned (.tuple #[.string (s.extract 0 i), .string (s.extract (i+1) s.size), .bool true])∧Below w.heap.size w w':=fun w=>by
    have c1:(0:Int)≤i:=by omega
    have c2:(i:Int)≤s.size:=by omega
    have c3:(0:Int)≤(i:Int)+1:=by omega
    have c4:((i:Int)+1)≤s.size:=by omega
    clear hge h hi h1 h2 hl h46
    go_enter Tryz.func171,Tryz.ntmps171
    go_wp2_with (go_at_call 168;(with_reducible refine(hi' _).mono ?_);rintro e w1 ⟨rfl,rfl⟩)
    go_region
    go_wp2
    go_ret3
    exact⟨rfl,(Mj _ _).drew⟩
   clear hge h hi h1 h2 hl h46
   go_enter Tryz.func149,Tryz.ntmps149
   go_wp2_with (go_at_call 171;(with_reducible refine(hc _).mono ?_);rintro e w1 ⟨rfl,g1⟩)
   go_ret3
   exact⟨rfl,g1⟩
structure BAt (B:List Int) (pos:Nat) (P u z:Int):Prop where
 few:pos≤4
 len:pos≤B.length
 p:P=(pv B pos:Int)
 u:u=((10^(4-pos):Nat):Int)
 z:(pos=0∧z=48)∨(1≤pos∧B.getD (pos-1) 0=z)
 all: ∀i,i<pos→48≤B.getD i 0∧B.getD i 0≤57
theorem BAt.start (B:List Int):BAt B 0 0 10000 48:=⟨by decide,Nat.zero_le _,rfl,rfl,My ⟨rfl,rfl⟩,fun i h=>by omega⟩
theorem dB_at {B:List Int} {i:Nat} (hi:i<B.length):dB B i=(B.getD i 0-48).toNat:=by unfold dB;rw[getD_default hi 48 0]
theorem BAt.bounds {B:List Int} {pos:Nat} {P u z:Int} (h:BAt B pos P u z):0≤P∧P≤9999∧1≤u∧u≤10000:=by
 obtain⟨h1,h2,h3,h4,h5,h6⟩:=h
 have hd: ∀i,i<pos→dB B i≤9:=fun i hi=>by rw[dB_at (by omega)];have:=h6 i hi;omega
 subst h3;subst h4
 match pos,h1,hd with
 |0,_,hd=>simp[pv]
 |1,_,hd=>have d0:=hd 0 (by omega);simp[pv];omega
 |2,_,hd=>have d0:=hd 0 (by omega);have d1:=hd 1 (by omega);simp[pv];omega
 |3,_,hd=>have d0:=hd 0 (by omega);have d1:=hd 1 (by omega);have d2:=hd 2 (by omega);simp[pv];omega
 |4,_,hd=>have d0:=hd 0 (by omega);have d1:=hd 1 (by omega);have d2:=hd 2 (by omega);have d3:=hd 3 (by omega);simp[pv];omega
theorem BAt.unit {B:List Int} {pos:Nat} {P u z:Int} (h:BAt B pos P u z) (hp: ¬pos=4): ∃v,u/10=v∧1≤v∧v≤1000∧v=((10^(3-pos):Nat):Int):=by
 obtain⟨h1,h2,h3,h4,h5,h6⟩:=h
 subst h4
 match pos,h1,hp with
 |0,_,_=>exact⟨_,rfl,by decide,by decide,by decide⟩
 |1,_,_=>exact⟨_,rfl,by decide,by decide,by decide⟩
 |2,_,_=>exact⟨_,rfl,by decide,by decide,by decide⟩
 |3,_,_=>exact⟨_,rfl,by decide,by decide,by decide⟩
 |4,_,hp=>exact(hp rfl).elim
theorem BAt.stop {B:List Int} {P u z:Int} (h:BAt B 4 P u z):u/10=0:=by
 rw[h.u];rfl
theorem BAt.next {B:List Int} {pos:Nat} {P u z v z' m:Int} (h:BAt B pos P u z) (hp: ¬pos=4) (hl:pos<B.length) (hv:v=((10^(3-pos):Nat):Int)) (hz:B.getD pos 0=z') (h1:48≤z') (h2:z'≤57) (hm:v*(z'-48)=m):
  BAt B (pos+1) (P+m) v z':=by
 have hf:=h.few
 refine⟨by omega,hl,?_,by rw[hv,show 4-(pos+1)=3-pos by omega],Mx ⟨by omega,hz⟩,fun i hi=>?_⟩
 ·rw[pv,h.p,←hm,hv,dB_at hl,hz]
  have e:z'-48=(((z'-48).toNat:Nat):Int):=by omega
  rw[e,Int.toNat_natCast,←Int.natCast_mul,Nat.mul_comm]
  omega
 ·by_cases e:i=pos
  ·subst e;rw[hz];exact⟨h1,h2⟩
  ·exact h.all i (by omega)
theorem BAt.yes {B:List Int} {pos:Nat} {P u z:Int} (h:BAt B pos P u z) (hl:pos=B.length) (hz: ¬z=48):Fr B∧P=(pv B 4:Int):=by
 obtain⟨h1,h2,h3,h4,h5,h6⟩:=h
 subst hl
 rcases h5 with⟨_,e⟩|⟨h5,e⟩
 ·exact(hz e).elim
 ·exact⟨⟨h5,h1,h6,by rw[e];exact hz⟩,by rw[h3,pv_end _ (Nat.le_refl _) h1]⟩
theorem BAt.no {B:List Int} {pos:Nat} {P u z:Int} (h:BAt B pos P u z) (hl:pos=B.length) (hz:z=48): ¬Fr B:=by
 obtain⟨h1,h2,h3,h4,h5,h6⟩:=h
 subst hl
 intro f
 rcases h5 with⟨e,_⟩|⟨_,e⟩
 ·have:=f.some;omega
 ·exact f.last (e.trans hz)
def GivesB2 (B:List Int) (w:World) (e:Ending) (w':World):Prop:= ∃(x:Int) (b:Bool),e= .returned (.tuple #[.int .u64 x, .bool b])∧(b=true↔Fr B)∧(b=true→x=(pv B 4:Int))∧Below w.heap.size w w'
theorem behind_any (s:ByteArray) (w:World) (hm:s.size≤9223372036854775807):
  Calls Tryz.prog 150 #[.string s] w (GivesB2 (nums s) w):=by
 go_enter Tryz.func150,Tryz.ntmps150
 go_wp2
 go_loopw [4,5,6] (fun v4 v5 v6 w'=> ∃(pos:Nat) (P u z:Int),v4= .int .u64 P∧v5= .int .u64 u∧v6= .int .i32 z∧BAt (nums s) pos P u z∧w'=w.iter s pos) (fun _ _ _ w'=>s.size-w'.iterPos w.heap.size)
 case atStart=>exact⟨0,0,10000,48,rfl,rfl,rfl,BAt.start _,rfl⟩
 case round=>
  obtain⟨pos,P,u,z0,rfl,rfl,rfl,hB,rfl⟩:=hrel
  obtain⟨b0,b1,b2,b3⟩:=hB.bounds
  have HB:=Lh hB
  have hlen:Hid ((nums s).length=s.size):=nums_length s
  clear hB
  by_cases h1:pos<s.size
  ·obtain⟨z,p,hnx,zl,zh,hyes,hno⟩:=next_rune (w.iter s pos) w.heap.size s pos (World.iter_heap w s pos) h1
   simp only[iter_at]at hnx
   replace hyes:=Lh hyes
   replace hno:=Lh hno
   by_cases h4:pos=4
   ·subst h4
    have hu:=HB.out.stop
    have hfin:Hid (¬Fr (nums s)):=by intro f;have h2:=f.few;have h3:=hlen.out;omega
    go_wp2
    go_ret2
    exact⟨0,false,rfl,⟨fun e=>Bool.noConfusion e,fun f=>(hfin.out f).elim⟩,fun e=>Bool.noConfusion e,iter_below _ _ _⟩
   ·obtain⟨v,hv,v1,v2,hvp⟩:=HB.out.unit h4
    replace hvp:=Lh hvp
    have hv0:(v==0)=false:=by simp;omega
    by_cases h2:z<48
    ·have hbad:=Lh (fun f:Fr (nums s)=>hno.out (by omega) (f.all pos (by have:=hlen.out;omega)))
     go_wp2
     go_ret2
     exact⟨0,false,rfl,⟨fun e=>Bool.noConfusion e,fun f=>(hbad.out f).elim⟩,fun e=>Bool.noConfusion e,iter_below _ _ _⟩
    ·by_cases h3:57<z
     ·have hbad:=Lh (fun f:Fr (nums s)=>hno.out (by omega) (f.all pos (by have:=hlen.out;omega)))
      go_wp2
      go_ret2
      exact⟨0,false,rfl,⟨fun e=>Bool.noConfusion e,fun f=>(hbad.out f).elim⟩,fun e=>Bool.noConfusion e,iter_below _ _ _⟩
     ·obtain⟨rfl,hz2⟩:=hyes.out ⟨by omega,by omega⟩
      obtain⟨m,hmm⟩: ∃m,v*(z-48)=m:=⟨_,rfl⟩
      have hnext:=Lh (HB.out.next h4 (by have:=hlen.out;omega) hvp.out hz2 (by omega) (by omega) hmm)
      have hnb:=hnext.out.bounds
      have m0:0≤m:=by rw[←hmm];exact Int.mul_nonneg (by omega) (by omega)
      have m1:P+m≤9999:=hnb.2.1
      clear hnb
      have hzk:0≤z-48:=by omega
      replace hz2:=Lh hz2
      go_wp2
      go_roundw
      case rel=>exact⟨pos+1,P+m,v,z,by rw[←hmm,←hv],by rw[hv],rfl,hnext.out,rfl⟩
      case measure=>simp;omega
  ·have hnx: ∀ty,(Instr.next (.pointer (some ⟨w.heap.size,0,none⟩)) true ty).run Tryz.prog (w.iter s pos)=_:=fun ty=>run_next_end w s pos ty h1
   have hpe:Hid (pos=(nums s).length):=by have h2:=HB.out.len;have h3:=hlen.out;unfold Hid;omega
   by_cases hz:z0=48
   ·have hfin:=Lh (HB.out.no hpe.out hz)
    subst hz
    go_wp2
    go_ret2
    exact⟨P,false,rfl,⟨fun e=>Bool.noConfusion e,fun f=>(hfin.out f).elim⟩,fun e=>Bool.noConfusion e,iter_below _ _ _⟩
   ·have hfin:=Lh (HB.out.yes hpe.out hz)
    have hzb:(z0 !=48)=true:=by simpa using hz
    clear hz
    go_wp2
    go_ret2
    exact⟨P,true,rfl,⟨fun _=>hfin.out.1,fun _=>rfl⟩,fun _=>hfin.out.2,iter_below _ _ _⟩
end
section
open Go.RowKit
def Shape (s:ByteArray) (p:Nat):Prop:= ∃ys A B d,nums s=ys++ [37]∧Halves ys A B d∧Written A B d∧parts A B=p
def WhenFr (d:Bool) (B:List Int):Prop:=d=true→Fr B
theorem pread_noend (s t a b:ByteArray) (d:Bool) (w:World) (hbs:b.size≤9223372036854775807)
  (hsuf: ∀w,Calls Tryz.prog 148 #[.string s, .string ⟨#[37]⟩] w fun x w'=>x= .returned (.tuple #[.string t, .bool false])∧w=w')
  (hcut: ∀w,Calls Tryz.prog 149 #[.string t, .string ⟨#[46]⟩] w fun x w'=>x= .returned (.tuple #[.string a, .string b, .bool d])∧Below w.heap.size w w')
  (N:Nat) (c:Int) (hread: ∀w,Calls Tryz.prog 132 #[.string a] w (GivesWC N c w)):
  Calls Tryz.prog 133 #[.string s] w (GivesPC 0 5 w):=by
 have HS:=Lh hsuf
 have HC:=Lh hcut
 have HR:=Lh hread
 have HB:=Lh (fun w=>behind_any b w hbs)
 clear hsuf hcut hread
 cases d
 all_goals
  go_enter Tryz.func133,Tryz.ntmps133
  go_wp2_with (first|(go_at_call 148;(with_reducible refine(HS.out _).mono ?_);rintro e w0 ⟨rfl,rfl⟩)|(go_at_call 149;(with_reducible refine(HC.out _).mono ?_);rintro e w1 ⟨rfl,g1⟩)|(go_at_call 132;(with_reducible refine(HR.out _).mono ?_);rintro e w2 ⟨wh,wl,rfl,hW,g2⟩;clear hW;have DD:=below_more (below_step g1 g2) (.cells #[.int .u64 wh, .int .u64 wl] 194);have KK:=Lh (Box.fresh w2 wh wl _ rfl);obtain⟨_,_,_⟩:=KK.out)|(go_at_call 150;(with_reducible refine(HB.out _).mono ?_);rintro e w3 ⟨x,y,rfl,hy,hx,g3⟩;clear hy hx;have DD:=below_step DD g3;have KK:=Lh (KK.out.after g3);obtain⟨_,_,_⟩:=KK.out))
  go_ret2
  exact⟨0,rfl,by decide,by decide,rfl,DD⟩
theorem pread_unwritten (s t a b:ByteArray) (d:Bool) (w:World) (hbs:b.size≤9223372036854775807)
  (hsuf: ∀w,Calls Tryz.prog 148 #[.string s, .string ⟨#[37]⟩] w fun x w'=>x= .returned (.tuple #[.string t, .bool true])∧w=w')
  (hcut: ∀w,Calls Tryz.prog 149 #[.string t, .string ⟨#[46]⟩] w fun x w'=>x= .returned (.tuple #[.string a, .string b, .bool d])∧Below w.heap.size w w')
  (N:Nat) (c:Int) (hread: ∀w,Calls Tryz.prog 132 #[.string a] w (GivesWC N c w)) (hd:d=true) (hf: ¬Fr (nums b)):
  Calls Tryz.prog 133 #[.string s] w (GivesPC 0 5 w):=by
 have HS:=Lh hsuf
 have HC:=Lh hcut
 have HR:=Lh hread
 have HB:=Lh (fun w=>behind_any b w hbs)
 clear hsuf hcut hread
 have hfr:=Lh hf
 clear hf
 subst hd
 go_enter Tryz.func133,Tryz.ntmps133
 go_wp2_with (first|(go_at_call 148;(with_reducible refine(HS.out _).mono ?_);rintro e w0 ⟨rfl,rfl⟩)|(go_at_call 149;(with_reducible refine(HC.out _).mono ?_);rintro e w1 ⟨rfl,g1⟩)|(go_at_call 132;(with_reducible refine(HR.out _).mono ?_);rintro e w2 ⟨wh,wl,rfl,hW,g2⟩;clear hW;have DD:=below_more (below_step g1 g2) (.cells #[.int .u64 wh, .int .u64 wl] 194);have KK:=Lh (Box.fresh w2 wh wl _ rfl);obtain⟨_,_,_⟩:=KK.out)|(go_at_call 150;(with_reducible refine(HB.out _).mono ?_);rintro e w3 ⟨x,y,rfl,hy,hx,g3⟩;obtain rfl:y=false:=(by cases y;rfl;exact(hfr.out (hy.mp rfl)).elim);clear hy hx;have DD:=below_step DD g3;have KK:=Lh (KK.out.after g3);obtain⟨_,_,_⟩:=KK.out))
 go_ret2
 exact⟨0,rfl,by decide,by decide,rfl,DD⟩
theorem pread_ahead (s t a b:ByteArray) (d:Bool) (w:World) (hbs:b.size≤9223372036854775807)
  (hsuf: ∀w,Calls Tryz.prog 148 #[.string s, .string ⟨#[37]⟩] w fun x w'=>x= .returned (.tuple #[.string t, .bool true])∧w=w')
  (hcut: ∀w,Calls Tryz.prog 149 #[.string t, .string ⟨#[46]⟩] w fun x w'=>x= .returned (.tuple #[.string a, .string b, .bool d])∧Below w.heap.size w w')
  (N:Nat) (hread: ∀w,Calls Tryz.prog 132 #[.string a] w (GivesWC N 5 w)) (hf:WhenFr d (nums b)):
  Calls Tryz.prog 133 #[.string s] w (GivesPC 0 5 w):=by
 have HS:=Lh hsuf
 have HC:=Lh hcut
 have HR:=Lh hread
 have HB:=Lh (fun w=>behind_any b w hbs)
 clear hsuf hcut hread
 have hfr:=Lh hf
 clear hf
 cases d
 all_goals
  go_enter Tryz.func133,Tryz.ntmps133
  go_wp2_with (first|(go_at_call 148;(with_reducible refine(HS.out _).mono ?_);rintro e w0 ⟨rfl,rfl⟩)|(go_at_call 149;(with_reducible refine(HC.out _).mono ?_);rintro e w1 ⟨rfl,g1⟩)|(go_at_call 132;(with_reducible refine(HR.out _).mono ?_);rintro e w2 ⟨wh,wl,rfl,hW,g2⟩;clear hW;have DD:=below_more (below_step g1 g2) (.cells #[.int .u64 wh, .int .u64 wl] 194);have KK:=Lh (Box.fresh w2 wh wl _ rfl);obtain⟨_,_,_⟩:=KK.out)|(go_at_call 150;(with_reducible refine(HB.out _).mono ?_);rintro e w3 ⟨x,y,rfl,hy,hx,g3⟩;obtain rfl:=hy.mpr (hfr.out rfl);clear hy;replace hx:=Lh (hx rfl);have DD:=below_step DD g3;have KK:=Lh (KK.out.after g3);obtain⟨_,_,_⟩:=KK.out))
  go_ret2
  exact⟨0,rfl,by decide,by decide,rfl,DD⟩
theorem pread_over (s t a b:ByteArray) (d:Bool) (w:World) (hbs:b.size≤9223372036854775807)
  (hsuf: ∀w,Calls Tryz.prog 148 #[.string s, .string ⟨#[37]⟩] w fun x w'=>x= .returned (.tuple #[.string t, .bool true])∧w=w')
  (hcut: ∀w,Calls Tryz.prog 149 #[.string t, .string ⟨#[46]⟩] w fun x w'=>x= .returned (.tuple #[.string a, .string b, .bool d])∧Below w.heap.size w w')
  (N:Nat) (hread: ∀w,Calls Tryz.prog 132 #[.string a] w (GivesWC N 3 w)) (hf:WhenFr d (nums b)):
  Calls Tryz.prog 133 #[.string s] w (GivesPC 0 8 w):=by
 have HS:=Lh hsuf
 have HC:=Lh hcut
 have HR:=Lh hread
 have HB:=Lh (fun w=>behind_any b w hbs)
 clear hsuf hcut hread
 have hfr:=Lh hf
 clear hf
 cases d
 all_goals
  go_enter Tryz.func133,Tryz.ntmps133
  go_wp2_with (first|(go_at_call 148;(with_reducible refine(HS.out _).mono ?_);rintro e w0 ⟨rfl,rfl⟩)|(go_at_call 149;(with_reducible refine(HC.out _).mono ?_);rintro e w1 ⟨rfl,g1⟩)|(go_at_call 132;(with_reducible refine(HR.out _).mono ?_);rintro e w2 ⟨wh,wl,rfl,hW,g2⟩;clear hW;have DD:=below_more (below_step g1 g2) (.cells #[.int .u64 wh, .int .u64 wl] 194);have KK:=Lh (Box.fresh w2 wh wl _ rfl);obtain⟨_,_,_⟩:=KK.out)|(go_at_call 150;(with_reducible refine(HB.out _).mono ?_);rintro e w3 ⟨x,y,rfl,hy,hx,g3⟩;obtain rfl:=hy.mpr (hfr.out rfl);clear hy;replace hx:=Lh (hx rfl);have DD:=below_step DD g3;have KK:=Lh (KK.out.after g3);obtain⟨_,_,_⟩:=KK.out))
  go_ret2
  exact⟨0,rfl,by decide,by decide,rfl,DD⟩
theorem cmp100 (k wh wl:Int) (N:Nat) (w:World) (hW:IsW wh wl N) (hk:cmpI N 100=k):
  Calls Tryz.prog 151 #[.agg #[.int .u64 wh, .int .u64 wl], .agg #[.int .u64 0, .int .u64 100]] w fun e w'=>e= .returned (.int .i64 k)∧Below w.heap.size w w':=by
 rw[←hk];exact ecompare_any wh wl 0 100 N 100 w hW ⟨by decide,by decide,by decide,by decide,by decide⟩
theorem pread_hundred (s t a b:ByteArray) (d:Bool) (w:World) (hbs:b.size≤9223372036854775807)
  (hsuf: ∀w,Calls Tryz.prog 148 #[.string s, .string ⟨#[37]⟩] w fun x w'=>x= .returned (.tuple #[.string t, .bool true])∧w=w')
  (hcut: ∀w,Calls Tryz.prog 149 #[.string t, .string ⟨#[46]⟩] w fun x w'=>x= .returned (.tuple #[.string a, .string b, .bool d])∧Below w.heap.size w w')
  (N:Nat) (hread: ∀w,Calls Tryz.prog 132 #[.string a] w (GivesWC N 0 w)) (hf:WhenFr d (nums b)) (hN:100<N):
  Calls Tryz.prog 133 #[.string s] w (GivesPC 0 8 w):=by
 have HS:=Lh hsuf
 have HC:=Lh hcut
 have HR:=Lh hread
 have HB:=Lh (fun w=>behind_any b w hbs)
 clear hsuf hcut hread
 have hfr:=Lh hf
 clear hf
 obtain⟨k,hk⟩: ∃k,cmpI N 100=k:=⟨_,rfl⟩
 have hkb:decide (k>0)=true:=by rw[←hk];rw[cmpI_gt hN];rfl
 replace hk:=Lh hk
 cases d
 all_goals
  go_enter Tryz.func133,Tryz.ntmps133
  go_wp2_with (first|(go_at_call 148;(with_reducible refine(HS.out _).mono ?_);rintro e w0 ⟨rfl,rfl⟩)|(go_at_call 149;(with_reducible refine(HC.out _).mono ?_);rintro e w1 ⟨rfl,g1⟩)|(go_at_call 132;(with_reducible refine(HR.out _).mono ?_);rintro e w2 ⟨wh,wl,rfl,hW,g2⟩;have DD:=below_more (below_step g1 g2) (.cells #[.int .u64 wh, .int .u64 wl] 194);have KK:=Lh (Box.fresh w2 wh wl _ rfl);obtain⟨_,_,_⟩:=KK.out)|(go_at_call 150;(with_reducible refine(HB.out _).mono ?_);rintro e w3 ⟨x,y,rfl,hy,hx,g3⟩;obtain rfl:=hy.mpr (hfr.out rfl);clear hy;replace hx:=Lh (hx rfl);have DD:=below_step DD g3;have KK:=Lh (KK.out.after g3);obtain⟨_,_,_⟩:=KK.out)|(go_at_call 151;(with_reducible refine(cmp100 k wh wl N _ hW hk.out).mono ?_);rintro e w4 ⟨rfl,g4⟩;have DD:=below_step DD g4;have KK:=Lh (KK.out.after g4);obtain⟨_,_,_⟩:=KK.out))
  go_ret2
  exact⟨0,rfl,by decide,by decide,rfl,DD⟩
theorem low100 {h l:Int} {N:Nat} (k:IsW h l N) (hN:N≤100):h=0∧0≤l∧l≤100∧Hid (l=(N:Int)):=by
 obtain⟨a,b,c,d,e⟩:=k
 unfold Hid;omega
theorem pv_word {B:List Int} {x:Int} (f:Fr B) (h:x=(pv B 4:Int)):0≤x∧x≤9999∧Hid (x=(pv B 4:Int)):=by
 have:=pv_lt f.all
 exact⟨by omega,by omega,h⟩
theorem pread_above (s t a b:ByteArray) (d:Bool) (w:World) (hbs:b.size≤9223372036854775807)
  (hsuf: ∀w,Calls Tryz.prog 148 #[.string s, .string ⟨#[37]⟩] w fun x w'=>x= .returned (.tuple #[.string t, .bool true])∧w=w')
  (hcut: ∀w,Calls Tryz.prog 149 #[.string t, .string ⟨#[46]⟩] w fun x w'=>x= .returned (.tuple #[.string a, .string b, .bool d])∧Below w.heap.size w w')
  (N:Nat) (hread: ∀w,Calls Tryz.prog 132 #[.string a] w (GivesWC N 0 w)) (hf:WhenFr d (nums b)) (hb0:d=false→nums b= []) (hN:N≤100) (hp:1000000<N*10000+pv (nums b) 4):
  Calls Tryz.prog 133 #[.string s] w (GivesPC 0 8 w):=by
 have HS:=Lh hsuf
 have HC:=Lh hcut
 have HR:=Lh hread
 have HB:=Lh (fun w=>behind_any b w hbs)
 clear hsuf hcut hread
 have hfr:=Lh hf
 have HN:=Lh hN
 have HP:=Lh hp
 clear hf hp hN
 obtain⟨k,hk⟩: ∃k,cmpI N 100=k:=⟨_,rfl⟩
 have hkb:decide (k>0)=false:=by rw[←hk];have hN:=HN.out;rcases Nat.lt_or_ge N 100 with h|h;(rw[cmpI_lt h];rfl);(rw[cmpI_eq (by omega)];rfl)
 replace hk:=Lh hk
 cases d
 ·have hz:=Lh (hb0 rfl)
  clear hb0
  go_enter Tryz.func133,Tryz.ntmps133
  go_wp2_with (first|(go_at_call 148;(with_reducible refine(HS.out _).mono ?_);rintro e w0 ⟨rfl,rfl⟩)|(go_at_call 149;(with_reducible refine(HC.out _).mono ?_);rintro e w1 ⟨rfl,g1⟩)|(go_at_call 132;(with_reducible refine(HR.out _).mono ?_);rintro e w2 ⟨wh,wl,rfl,hW,g2⟩;obtain⟨rfl,wl0,wl1,wln⟩:=low100 hW HN.out;have DD:=below_more (below_step g1 g2) (.cells #[.int .u64 0, .int .u64 wl] 194);have KK:=Lh (Box.fresh w2 0 wl _ rfl);obtain⟨_,_,_⟩:=KK.out)|(go_at_call 150;(with_reducible refine(HB.out _).mono ?_);rintro e w3 ⟨x,y,rfl,hy,hx,g3⟩;obtain rfl:=hy.mpr (hfr.out rfl);clear hy;obtain⟨x0,x1,hxx⟩:=pv_word (hfr.out rfl) (hx rfl);clear hx;have DD:=below_step DD g3;have KK:=Lh (KK.out.after g3);obtain⟨_,_,_⟩:=KK.out)|(go_at_call 151;(with_reducible refine(cmp100 k 0 wl N _ hW hk.out).mono ?_);rintro e w4 ⟨rfl,g4⟩;have DD:=below_step DD g4;have KK:=Lh (KK.out.after g4);obtain⟨_,_,_⟩:=KK.out)|(go_at_call 152;(with_reducible refine(right_no (wl*10000) _ (by have h1:=HP.out;have h2:=wln.out;rw[hz.out,pv_nil]at h1;omega)).mono ?_);rintro e w5 ⟨rfl,rfl⟩))
  go_ret2
  exact⟨0,rfl,by decide,by decide,rfl,DD⟩
 ·clear hb0
  go_enter Tryz.func133,Tryz.ntmps133
  go_wp2_with (first|(go_at_call 148;(with_reducible refine(HS.out _).mono ?_);rintro e w0 ⟨rfl,rfl⟩)|(go_at_call 149;(with_reducible refine(HC.out _).mono ?_);rintro e w1 ⟨rfl,g1⟩)|(go_at_call 132;(with_reducible refine(HR.out _).mono ?_);rintro e w2 ⟨wh,wl,rfl,hW,g2⟩;obtain⟨rfl,wl0,wl1,wln⟩:=low100 hW HN.out;have DD:=below_more (below_step g1 g2) (.cells #[.int .u64 0, .int .u64 wl] 194);have KK:=Lh (Box.fresh w2 0 wl _ rfl);obtain⟨_,_,_⟩:=KK.out)|(go_at_call 150;(with_reducible refine(HB.out _).mono ?_);rintro e w3 ⟨x,y,rfl,hy,hx,g3⟩;obtain rfl:=hy.mpr (hfr.out rfl);clear hy;obtain⟨x0,x1,hxx⟩:=pv_word (hfr.out rfl) (hx rfl);clear hx;have DD:=below_step DD g3;have KK:=Lh (KK.out.after g3);obtain⟨_,_,_⟩:=KK.out)|(go_at_call 151;(with_reducible refine(cmp100 k 0 wl N _ hW hk.out).mono ?_);rintro e w4 ⟨rfl,g4⟩;have DD:=below_step DD g4;have KK:=Lh (KK.out.after g4);obtain⟨_,_,_⟩:=KK.out)|(go_at_call 152;(with_reducible refine(right_no (wl*10000+x) _ (by have h1:=HP.out;have h2:=wln.out;have h3:=hxx.out;omega)).mono ?_);rintro e w5 ⟨rfl,rfl⟩))
  go_ret2
  exact⟨0,rfl,by decide,by decide,rfl,DD⟩
theorem pread_fine (s t a b:ByteArray) (d:Bool) (w:World) (hbs:b.size≤9223372036854775807)
  (hsuf: ∀w,Calls Tryz.prog 148 #[.string s, .string ⟨#[37]⟩] w fun x w'=>x= .returned (.tuple #[.string t, .bool true])∧w=w')
  (hcut: ∀w,Calls Tryz.prog 149 #[.string t, .string ⟨#[46]⟩] w fun x w'=>x= .returned (.tuple #[.string a, .string b, .bool d])∧Below w.heap.size w w')
  (N:Nat) (hread: ∀w,Calls Tryz.prog 132 #[.string a] w (GivesWC N 0 w)) (hf:WhenFr d (nums b)) (hb0:d=false→nums b= []) (hN:N≤100) (hp:N*10000+pv (nums b) 4≤1000000):
  Calls Tryz.prog 133 #[.string s] w (GivesPC (N*10000+pv (nums b) 4) 0 w):=by
 have HS:=Lh hsuf
 have HC:=Lh hcut
 have HR:=Lh hread
 have HB:=Lh (fun w=>behind_any b w hbs)
 clear hsuf hcut hread
 have hfr:=Lh hf
 have HN:=Lh hN
 have HP:=Lh hp
 clear hf hp hN
 obtain⟨k,hk⟩: ∃k,cmpI N 100=k:=⟨_,rfl⟩
 have hkb:decide (k>0)=false:=by rw[←hk];have hN:=HN.out;rcases Nat.lt_or_ge N 100 with h|h;(rw[cmpI_lt h];rfl);(rw[cmpI_eq (by omega)];rfl)
 replace hk:=Lh hk
 cases d
 ·have hz:=Lh (hb0 rfl)
  clear hb0
  go_enter Tryz.func133,Tryz.ntmps133
  go_wp2_with (first|(go_at_call 148;(with_reducible refine(HS.out _).mono ?_);rintro e w0 ⟨rfl,rfl⟩)|(go_at_call 149;(with_reducible refine(HC.out _).mono ?_);rintro e w1 ⟨rfl,g1⟩)|(go_at_call 132;(with_reducible refine(HR.out _).mono ?_);rintro e w2 ⟨wh,wl,rfl,hW,g2⟩;obtain⟨rfl,wl0,wl1,wln⟩:=low100 hW HN.out;have DD:=below_more (below_step g1 g2) (.cells #[.int .u64 0, .int .u64 wl] 194);have KK:=Lh (Box.fresh w2 0 wl _ rfl);obtain⟨_,_,_⟩:=KK.out)|(go_at_call 150;(with_reducible refine(HB.out _).mono ?_);rintro e w3 ⟨x,y,rfl,hy,hx,g3⟩;obtain rfl:=hy.mpr (hfr.out rfl);clear hy;obtain⟨x0,x1,hxx⟩:=pv_word (hfr.out rfl) (hx rfl);clear hx;have DD:=below_step DD g3;have KK:=Lh (KK.out.after g3);obtain⟨_,_,_⟩:=KK.out)|(go_at_call 151;(with_reducible refine(cmp100 k 0 wl N _ hW hk.out).mono ?_);rintro e w4 ⟨rfl,g4⟩;have DD:=below_step DD g4;have KK:=Lh (KK.out.after g4);obtain⟨_,_,_⟩:=KK.out)|(go_at_call 152;(with_reducible refine(right_yes (wl*10000) _ (by have h1:=HP.out;have h2:=wln.out;rw[hz.out,pv_nil]at h1;omega)).mono ?_);rintro e w5 ⟨rfl,rfl⟩))
  go_ret2
  exact⟨wl*10000,rfl,by omega,by omega,by have h2:=wln.out;rw[hz.out,pv_nil];omega,DD⟩
 ·clear hb0
  go_enter Tryz.func133,Tryz.ntmps133
  go_wp2_with (first|(go_at_call 148;(with_reducible refine(HS.out _).mono ?_);rintro e w0 ⟨rfl,rfl⟩)|(go_at_call 149;(with_reducible refine(HC.out _).mono ?_);rintro e w1 ⟨rfl,g1⟩)|(go_at_call 132;(with_reducible refine(HR.out _).mono ?_);rintro e w2 ⟨wh,wl,rfl,hW,g2⟩;obtain⟨rfl,wl0,wl1,wln⟩:=low100 hW HN.out;have DD:=below_more (below_step g1 g2) (.cells #[.int .u64 0, .int .u64 wl] 194);have KK:=Lh (Box.fresh w2 0 wl _ rfl);obtain⟨_,_,_⟩:=KK.out)|(go_at_call 150;(with_reducible refine(HB.out _).mono ?_);rintro e w3 ⟨x,y,rfl,hy,hx,g3⟩;obtain rfl:=hy.mpr (hfr.out rfl);clear hy;obtain⟨x0,x1,hxx⟩:=pv_word (hfr.out rfl) (hx rfl);clear hx;have DD:=below_step DD g3;have KK:=Lh (KK.out.after g3);obtain⟨_,_,_⟩:=KK.out)|(go_at_call 151;(with_reducible refine(cmp100 k 0 wl N _ hW hk.out).mono ?_);rintro e w4 ⟨rfl,g4⟩;have DD:=below_step DD g4;have KK:=Lh (KK.out.after g4);obtain⟨_,_,_⟩:=KK.out)|(go_at_call 152;(with_reducible refine(right_yes (wl*10000+x) _ (by have h1:=HP.out;have h2:=wln.out;have h3:=hxx.out;omega)).mono ?_);rintro e w5 ⟨rfl,rfl⟩))
  go_ret2
  exact⟨wl*10000+x,rfl,by omega,by omega,by have h2:=wln.out;have h3:=hxx.out;omega,DD⟩
end
section
open Go.RowKit
structure Ends (s:ByteArray) (ys A B:List Int) (d:Bool):Prop where
 all:nums s=ys++ [37]
 halves:Halves ys A B d
theorem Ends.unique {s:ByteArray} {ys A B ys' A' B':List Int} {d d':Bool} (h:Ends s ys A B d) (h':Ends s ys' A' B' d'):ys=ys'∧A=A'∧B=B'∧d=d':=by
 have e:ys=ys':=List.append_cancel_right (h.all.symm.trans h'.all)
 subst e
 exact⟨rfl,h.halves.unique h'.halves⟩
theorem eread_some (a:ByteArray) (hm:a.size≤9223372036854775807): ∃(N:Nat) (c:Int),∀w,Calls Tryz.prog 132 #[.string a] w (GivesWC N c w):=by
 by_cases h:Dg (nums a)
 ·exact⟨_,_,fun w=>eread_yes a w hm h⟩
 ·exact⟨_,_,fun w=>eread_no a w hm h⟩
def Outcome (R:Nat→Int→Prop) (s:ByteArray):Prop:=
 ((¬∃ys,nums s=ys++ [37])∧R 0 5)∨∃ys A B d,Ends s ys A B d∧((¬Written A B d∧R 0 5)∨(Written A B d∧1000000<parts A B∧R 0 8)∨(Written A B d∧parts A B≤1000000∧R (parts A B) 0))
theorem pread_cases (s:ByteArray) (hm:s.size≤9223372036854775807):Outcome (fun N c=> ∀w,Calls Tryz.prog 133 #[.string s] w (GivesPC N c w)) s:=by
 obtain⟨t,en,h1,h2,h3,hsuf⟩:=csuf_any s hm
 obtain⟨a,b,d,hH,ha,hb,hcut⟩:=cut_any t (by omega)
 obtain⟨N,c,hread⟩:=eread_some a (by omega)
 have hbs:b.size≤9223372036854775807:=by omega
 cases en with
 |false=>exact My ⟨h2 rfl,fun w=>pread_noend s t a b d w hbs hsuf hcut N c hread⟩
 |true=>
  refine Mx ⟨nums t,nums a,nums b,d,⟨h1 rfl,hH⟩,?_⟩
  by_cases hf:WhenFr d (nums b)
  ·by_cases hd:Dg (nums a)
   ·have hW:Written (nums a) (nums b) d:=⟨hd,hf⟩
    refine Mx ?_
    have hr:=fun w=>eread_yes a w (by omega) hd
    have hpv:pv (nums b) 4≤9999:=by
     cases d with
     |false=>rw[hH.nil rfl,pv_nil];omega
     |true=>exact pv_lt (hf rfl).all
    have hp:parts (nums a) (nums b)=numOf (nums a)*10000+pv (nums b) 4:=rfl
    by_cases h128:W128 (numOf (nums a))
    ·rw[capN_in h128,capC_in h128]at hr
     by_cases h100:100<numOf (nums a)
     ·exact My ⟨hW,by omega,fun w=>pread_hundred s t a b d w hbs hsuf hcut _ hr hf h100⟩
     ·by_cases hbig:1000000<numOf (nums a)*10000+pv (nums b) 4
      ·exact My ⟨hW,by omega,fun w=>pread_above s t a b d w hbs hsuf hcut _ hr hf hH.nil (by omega) hbig⟩
      ·exact Mx ⟨hW,by omega,fun w=>pread_fine s t a b d w hbs hsuf hcut _ hr hf hH.nil (by omega) (by omega)⟩
    ·rw[capN_out h128,capC_out h128]at hr
     unfold W128 at h128
     exact My ⟨hW,by omega,fun w=>pread_over s t a b d w hbs hsuf hcut _ hr hf⟩
   ·exact My ⟨fun hW=>hd hW.dg,fun w=>pread_ahead s t a b d w hbs hsuf hcut _ (fun w=>eread_no a w (by omega) hd) hf⟩
  ·have hdt:d=true:=by
    cases d with
    |false=>exact(hf (fun e=>by cases e)).elim
    |true=>rfl
   exact My ⟨fun hW=>hf hW.fr,fun w=>pread_unwritten s t a b d w hbs hsuf hcut N c hread hdt (fun f=>hf (fun _=>f))⟩
end
section
open Go.RowKit
def ExactOut (s:ByteArray) (x c:Int):Prop:= ∃y d,SpanOut (nums s) y d∧((d=0∧strOfNums (spn y.toNat)=s∧x=y∧c=0)∨(d=0∧strOfNums (spn y.toNat)≠s∧x=0∧c=5)∨(d≠0∧x=0∧c=d))
def GivesExact (s:ByteArray) (w:World) (e:Ending) (w':World):Prop:= ∃x c:Int,e= .returned (.tuple #[.int .i64 x, .int .i64 c])∧ExactOut s x c∧Below w.heap.size w w'
def roundI (n u:Int):Int:=if n<0∨253402300799<n∨u<1 then 0 else if n%u=0∨253402300799<u∨253402300799/u≤n/u then n else(n/u+1)*u
end
section
open Go.RowKit
structure ReadAt (zs:List Int) (l:List Bool) (k:Nat):Prop where
 len:l.length≤129+5*k
 num:val l=numOf (zs.take k)
structure RdMem (w wr:World):Prop where
 r0:wr.cell? ⟨w.heap.size,0,none⟩=some (.int .u64 0)
 r1:wr.cell? ⟨w.heap.size,1,none⟩=some (.int .u64 0)
 q0:wr.frozen? ⟨w.heap.size,0,none⟩=false
 q1:wr.frozen? ⟨w.heap.size,1,none⟩=false
 ten:Bools wr (.slice (some ⟨w.heap.size+1+1,0,none⟩) 4 4) [false,true,false,true]
 s0:w.heap.size<wr.heap.size
 bel:Below w.heap.size w wr
end
section
open Go.RowKit
end
section
open Go.RowKit
end
section
open Go.RowKit
theorem sgetD_left {A B:List Int} {i:Nat} (h:i<A.length):(A++B).getD i 0=A.getD i 0:=by
 rw[Mk,Mk,List.getElem?_append_left h]
theorem sgetD_right {A B:List Int} {i:Nat} (h:A.length≤i):(A++B).getD i 0=B.getD (i-A.length) 0:=by
 rw[Mk,Mk,List.getElem?_append_right h]
def spadL (B:List Int):List Int:=B++List.replicate (3-B.length) 48
theorem spad_len {B:List Int} (h:B.length≤3):(spadL B).length=3:=by unfold spadL;rw[Kq,List.length_replicate];omega
theorem spad_dig {B:List Int} (h:AllD B) (i:Nat) (hi:i<(spadL B).length):48≤(spadL B).getD i 0∧(spadL B).getD i 0≤57:=by
 unfold spadL at hi ⊢
 by_cases hb:i<B.length
 ·rw[sgetD_left hb]
  exact h.2 i hb
 ·rw[sgetD_right (by omega)]
  rw[Kq,List.length_replicate]at hi
  rw[Mk,List.getElem?_replicate,if_pos (by omega)]
  decide
theorem snum_snoc (P:List Int) (i:Nat) (hi:i<P.length):numOf (P.take (i+1))=10*numOf (P.take i)+(P.getD i 0-48).toNat:=by
 rw[take_snoc hi]
 unfold numOf
 rw[List.foldl_append]
 rfl
theorem snum_room {P:List Int} (h: ∀i,i<P.length→48≤P.getD i 0∧P.getD i 0≤57): ∀k,k≤P.length→numOf (P.take k)<10^k
 |0,_=>by simp[numOf]
 |k+1,hk=>by
  have ih:=snum_room h k (by omega)
  have hz:=h k (by omega)
  rw[snum_snoc P k (by omega),Nat.pow_succ]
  omega
theorem t3_is (B:List Int):t3 B=numOf ((spadL B).take 3):=rfl
theorem facF_word {A B:List Int} (h: ¬(AllD B∧B.length≤3)):facF A B=(0,5):=if_neg h
theorem facF_err {A B:List Int} (h:AllD B∧B.length≤3) (he: ¬(numF A).2=0):facF A B=(0,(numF A).2):=by unfold facF;rw[if_pos h,if_neg he]
theorem facF_big {A B:List Int} (h:AllD B∧B.length≤3) (he:(numF A).2=0) (hb:(18446744073709551615-t3 B)/1000<(numF A).1):facF A B=(0,8):=by unfold facF;rw[if_pos h,if_pos he,if_pos hb]
theorem facF_fine {A B:List Int} (h:AllD B∧B.length≤3) (he:(numF A).2=0) (hb: ¬(18446744073709551615-t3 B)/1000<(numF A).1):facF A B=(1000*(numF A).1+t3 B,0):=by unfold facF;rw[if_pos h,if_pos he,if_neg hb]
end
section
structure TkV where
 kind:Nat
 text:List Int
 n:Nat
def tk0:TkV:=⟨0,[],0⟩
noncomputable def shareF (zs:List Int):Nat×Int:=
 open Classical in
 if h: ∃p:List Int×List Int,∃ys d,zs=ys++ [37]∧Halves ys p.1 p.2 d∧Written p.1 p.2 d then(if 1000000<parts h.choose.1 h.choose.2 then(0,8)else(parts h.choose.1 h.choose.2,0))else(0,5)
theorem share_out {R:Nat→Int→Prop} {s:ByteArray} (h:Outcome R s):R (shareF (nums s)).1 (shareF (nums s)).2:=by
 unfold shareF
 split
 ·rename_i hx
  obtain⟨ys,d,e1,e2,e3⟩:=hx.choose_spec
  rcases h with⟨hn,_⟩|⟨zs,A,B,d',hE,hc⟩
  ·exact(hn ⟨ys,e1⟩).elim
  ·obtain⟨_,q2,q3,q4⟩:=Ends.unique hE ⟨e1,e2⟩
   rw[←q2,←q3,←q4]at e3
   rw[←q2,←q3]
   rcases hc with⟨hw,_⟩|⟨_,hb,hr⟩|⟨_,hb,hr⟩
   ·exact(hw e3).elim
   ·rw[if_pos hb];exact hr
   ·rw[if_neg (by omega)];exact hr
 ·rename_i hx
  rcases h with⟨_,hr⟩|⟨zs,A,B,d',hE,hc⟩
  ·exact hr
  ·rcases hc with⟨_,hr⟩|⟨hw,_⟩|⟨hw,_⟩
   ·exact hr
   ·exact(hx ⟨(A,B),zs,d',hE.all,hE.halves,hw⟩).elim
   ·exact(hx ⟨(A,B),zs,d',hE.all,hE.halves,hw⟩).elim
theorem share_bd (zs:List Int):(shareF zs).1≤1000000:=by
 unfold shareF
 split
 ·split
  ·exact Nat.zero_le _
  ·show parts _ _≤_
   omega
 ·exact Nat.zero_le _
noncomputable def spanF (zs:List Int):Nat×Int:=
 open Classical in
 if h: ∃N,Tells zs N then(if h.choose≤253402300799 then(h.choose,0)else(0,8))else(0,5)
theorem span_out {zs:List Int} {x c:Int} (h:SpanOut zs x c):x=((spanF zs).1:Int)∧c=(spanF zs).2:=by
 unfold spanF
 split
 ·rename_i hx
  rcases h with⟨hn,_,_⟩|⟨N,hN,h⟩
  ·exact(hn _ hx.choose_spec).elim
  ·have e:hx.choose=N:=Tells.unique hx.choose_spec hN
   rw[e]
   rcases h with⟨hb,rfl,rfl⟩|⟨hb,rfl,rfl⟩
   ·rw[if_neg (by omega)];exact⟨rfl,rfl⟩
   ·rw[if_pos hb];exact⟨rfl,rfl⟩
 ·rename_i hx
  rcases h with⟨_,rfl,rfl⟩|⟨N,hN,_⟩
  ·exact⟨rfl,rfl⟩
  ·exact(hx ⟨N,hN⟩).elim
theorem span_bd (zs:List Int):(spanF zs).1≤253402300799:=by
 unfold spanF
 split
 ·split
  ·assumption
  ·exact Nat.zero_le _
 ·exact Nat.zero_le _
def numT (k:Nat) (p:Nat×Int):TkV×Int:=if p.2=0 then(⟨k,[],p.1⟩,0)else(tk0,p.2)
theorem numT_fine {k:Nat} {p:Nat×Int} (h:p.2=0):numT k p=(⟨k,[],p.1⟩,0):=if_pos h
theorem numT_err {k:Nat} {p:Nat×Int} (h: ¬p.2=0):numT k p=(tk0,p.2):=if_neg h
def headP (zs:List Int):List Int:=zs.takeWhile (fun z=>decide (z≠46))
def tailP (zs:List Int):List Int:=(zs.dropWhile (fun z=>decide (z≠46))).tail
theorem point_parts {zs:List Int} (h:46∈zs):zs=headP zs++46::tailP zs∧∀i,i<(headP zs).length→(headP zs).getD i 0≠46:=by
 unfold headP tailP
 induction zs with
 |nil=>cases h
 |cons z zs ih=>
  by_cases hz:z=46
  ·subst hz
   exact⟨by simp,fun i hi=>by simp at hi⟩
  ·have h2:46∈zs:=by
    rcases List.mem_cons.mp h with e|e
    ·exact(hz e.symm).elim
    ·exact e
   obtain⟨e1,e2⟩:=ih h2
   have hd:decide (z≠46)=true:=decide_eq_true hz
   rw[List.takeWhile_cons_of_pos (by simpa using hz),List.dropWhile_cons_of_pos (by simpa using hz)]
   refine⟨by rw[List.cons_append,←e1],fun i hi=>?_⟩
   cases i with
   |zero=>simpa using hz
   |succ i=>simpa using e2 i (by simpa using hi)
noncomputable def valF (l:List Int):TkV×Int:=
 open Classical in
 if l= []∨digitB (l.getD 0 0)=false then(if NameL l then(⟨1,textR l,0⟩,0)else(tk0,5))
 else if AllD (textR l)then numT 3 (numF (textR l))
 else if(textR l).getD ((textR l).length-1) 0=37 then numT 5 (shareF (textR l))
 else if 46∈textR l then numT 4 (facF (headP (textR l)) (tailP (textR l)))
 else numT 6 (spanF (textR l))
theorem valF_name {l:List Int} (h:l= []∨digitB (l.getD 0 0)=false) (hn:NameL l):valF l=(⟨1,textR l,0⟩,0):=by unfold valF;rw[if_pos h,if_pos hn]
theorem valF_none {l:List Int} (h:l= []∨digitB (l.getD 0 0)=false) (hn: ¬NameL l):valF l=(tk0,5):=by unfold valF;rw[if_pos h,if_neg hn]
theorem valF_count {l:List Int} (h: ¬(l= []∨digitB (l.getD 0 0)=false)) (h1:AllD (textR l)):valF l=numT 3 (numF (textR l)):=by unfold valF;rw[if_neg h,if_pos h1]
theorem valF_share {l:List Int} (h: ¬(l= []∨digitB (l.getD 0 0)=false)) (h1: ¬AllD (textR l)) (h2:(textR l).getD ((textR l).length-1) 0=37):valF l=numT 5 (shareF (textR l)):=by unfold valF;rw[if_neg h,if_neg h1,if_pos h2]
theorem valF_factor {l:List Int} (h: ¬(l= []∨digitB (l.getD 0 0)=false)) (h1: ¬AllD (textR l)) (h2: ¬(textR l).getD ((textR l).length-1) 0=37) (h3:46∈textR l):valF l=numT 4 (facF (headP (textR l)) (tailP (textR l))):=by unfold valF;rw[if_neg h,if_neg h1,if_neg h2,if_pos h3]
theorem valF_span {l:List Int} (h: ¬(l= []∨digitB (l.getD 0 0)=false)) (h1: ¬AllD (textR l)) (h2: ¬(textR l).getD ((textR l).length-1) 0=37) (h3: ¬46∈textR l):valF l=numT 6 (spanF (textR l)):=by unfold valF;rw[if_neg h,if_neg h1,if_neg h2,if_neg h3]
def RunesOk (l:List Int):Prop:= ∀r∈l,r= -1∨RuneOk r
theorem RunesOk.bd {l:List Int} (h:RunesOk l): ∀z∈l,-1≤z∧z≤1114111:=fun z hz=>by
 rcases h z hz with rfl|⟨h0,h1,_⟩<;>omega
theorem runes_bad (ys:List Int):runesOf (255::ys)= -1::runesOf ys:=by
 have e:=rfrom_in (zs:=255::ys) (i:=0) (by simp)
 have hw:wholeB (255::ys) 0=false:=by unfold wholeB;rfl
 have h1:runeA (255::ys) 0= -1:=by unfold runeA;rw[if_neg (by simp),hw];rfl
 have h2:widA (255::ys) 0=1:=by unfold widA;rw[hw];rfl
 rw[h1,h2,Nat.zero_add]at e
 have r:=runes_right [255] ys
 show rfrom (255::ys) 0=_
 rw[e]
 exact congrArg _ r
theorem runes_text {l:List Int} (h:RunesOk l):runesOf (textR l)=l:=by
 induction l with
 |nil=>exact runes_nil
 |cons r l ih=>
  have hl:RunesOk l:=fun x hx=>h x (List.mem_cons_of_mem _ hx)
  show runesOf (byteR r++textR l)=_
  rcases h r (List.mem_cons_self ..)with rfl|hr
  ·show runesOf (255::textR l)=_
   rw[runes_bad,ih hl]
  ·have e:byteR r=encL r:=if_neg (by have:=hr.1;omega)
   rw[e,runes_enc hr,ih hl]
end
section
open Go.RowKit
theorem ends_len {s:ByteArray} {ys:List Int} (h:nums s=ys++ [37]):s.size=ys.length+1:=by rw[←nums_length,h];simp
theorem ends_last {s:ByteArray} {ys:List Int} (h:nums s=ys++ [37]):(nums s).getD (s.size-1) 0=37:=by
 rw[ends_len h,h,Mk,List.getElem?_append_right (by omega)];simp
theorem ends_of {s:ByteArray} (h0:0<s.size) (h:(nums s).getD (s.size-1) 0=37): ∃ys,nums s=ys++ [37]:=by
 have hl:nums s≠ []:=fun e=>by have:=nums_length s;rw[e]at this;simp at this;omega
 refine⟨(nums s).dropLast,?_⟩
 have hx:=List.dropLast_concat_getLast hl
 rw[List.getLast_eq_getElem]at hx
 have e:(nums s)[(nums s).length-1]'(by have:=nums_length s;omega)=37:=by
  rw[←nums_length,Mk,Kh (by have:=nums_length s;omega)]at h
  exact h
 rw[e]at hx
 exact hx.symm
def isD (z:Int):Prop:=48≤z∧z≤57
structure Lets (s:ByteArray) (A B:List Int) (d:Bool):Prop where
 size:s.size=if d then A.length+B.length+2 else A.length+1
 ahead: ∀i,i<A.length→(nums s).getD i 0=A.getD i 0∧A.getD i 0≠46
 point:d=true→(nums s).getD A.length 0=46
 behind: ∀i,i<B.length→(nums s).getD (A.length+1+i) 0=B.getD i 0
 last:(nums s).getD (s.size-1) 0=37
 nil:d=false→B= []
def dotI (a n k:Nat):Int:=if k≤a then(n:Int)-1 else a
def DigTo (s:ByteArray) (a k:Nat):Prop:= ∀i,i<k→i≠a→isD ((nums s).getD i 0)
def vv (A B:List Int):Nat→Nat
 |0=>numOf A
 |k+1=>10*vv A B k+dB B k
theorem numOf_lt {A:List Int} (h: ∀i,i<A.length→48≤A.getD i 0∧A.getD i 0≤57) (k:Nat) (hk:k≤A.length):numOf (A.take k)<10^k:=by
 induction k with
 |zero=>simp[numOf_nil]
 |succ k ih=>
  have:=ih (by omega)
  have h1:=h k (by omega)
  rw[numOf_step A k (by omega),Nat.pow_succ];omega
def GivesRd (A B:List Int) (d:Bool) (w:World) (e:Ending) (w':World):Prop:= ∃(N:Nat) (c x:Int),e= .returned (.tuple #[.int .u32 x, .int .i64 c])∧x=(N:Int)∧
 ((¬Written A B d∧N=0∧c=5)∨(Written A B d∧1000000<parts A B∧N=0∧c=8)∨(Written A B d∧parts A B≤1000000∧N=parts A B∧c=0))∧w=w'
end
section
open Go.RowKit
end
section
open Go.RowKit
structure FrAt (L k m:Nat) (xs:List Int):Prop where
 le:k≤4
 lt:m<10000
 all:fr 4 L=xs++fr k m
 div:m%10^(4-k)=0
 len:xs.length≤4-k
def preOf (p:Nat):List Int:=dec (p/10000)++(if p%10000=0 then []else [46])
end
section
open Go.RowKit
end
section
open Go.RowKit
def GivesUnq (l:List Int) (w:World) (e:Ending) (w':World):Prop:= ∃t c,e= .returned (.tuple #[.string (strOfNums t), .int .i64 c])∧UnqL l t c∧Below w.heap.size w w'
theorem GivesUnq.word {l:List Int} {w w':World} (h:NoQ l) (hb:Below w.heap.size w w'):GivesUnq l w (.returned (.tuple #[.string ⟨#[]⟩, .int .i64 5])) w':=⟨[],5,rfl,My ⟨h,rfl,rfl⟩,hb⟩
theorem GivesUnq.long {l xs:List Int} {w w':World} (h:uf l= .done xs) (hx:120<xs.length) (hb:Below w.heap.size w w'):GivesUnq l w (.returned (.tuple #[.string ⟨#[]⟩, .int .i64 9])) w':=⟨[],9,rfl,Mx ⟨xs,h,My ⟨hx,rfl,rfl⟩⟩,hb⟩
theorem GivesUnq.fine {l xs:List Int} {w w':World} (h:uf l= .done xs) (hx:xs.length≤120) (hb:Below w.heap.size w w'):GivesUnq l w (.returned (.tuple #[.string (strOfNums (xs.flatMap encL)), .int .i64 0])) w':=⟨_,0,rfl,Mx ⟨xs,h,Mx ⟨hx,rfl,rfl⟩⟩,hb⟩
def bdH:Nat→Int
 |0=>0
 |k+1=>16*bdH k+15
end
section
open Go.RowKit
theorem spright_yes (n:Int) (w:World) (h0:0≤n) (h1:n≤253402300799):Calls Tryz.prog 157 #[.int .i64 n] w fun e w'=>e= .returned (.bool true)∧w=w':=by
 go_enter Tryz.func157,Tryz.ntmps157
 go_wp2
 go_ret
 exact⟨rfl,rfl⟩
theorem spright_no (n:Int) (w:World) (h:n<0∨253402300799<n):Calls Tryz.prog 157 #[.int .i64 n] w fun e w'=>e= .returned (.bool false)∧w=w':=by
 by_cases h0:n<0
 ·clear h
  go_enter Tryz.func157,Tryz.ntmps157
  go_wp2
  go_ret
  exact⟨rfl,rfl⟩
 ·have h1:decide (n≤253402300799)=false:=by simp;omega
  clear h
  go_enter Tryz.func157,Tryz.ntmps157
  go_wp2
  go_ret
  exact⟨rfl,rfl⟩
theorem spunit_any (r:Int) (w:World):Calls Tryz.prog 156 #[.int .i32 r] w fun e w'=>e= .returned (.int .i64 (unitOf r))∧Below w.heap.size w w':=by
 by_cases c119:r=119
 ·subst c119
  go_enter Tryz.func156,Tryz.ntmps156
  go_wp2
  go_ret
  exact⟨rfl,Mj _ _⟩
 by_cases c100:r=100
 ·subst c100
  clear c119
  go_enter Tryz.func156,Tryz.ntmps156
  go_wp2
  go_ret
  exact⟨rfl,Mj _ _⟩
 by_cases c104:r=104
 ·subst c104
  clear c119
  clear c100
  go_enter Tryz.func156,Tryz.ntmps156
  go_wp2
  go_ret
  exact⟨rfl,Mj _ _⟩
 by_cases c109:r=109
 ·subst c109
  clear c119
  clear c100
  clear c104
  go_enter Tryz.func156,Tryz.ntmps156
  go_wp2
  go_ret
  exact⟨rfl,Mj _ _⟩
 by_cases c115:r=115
 ·subst c115
  clear c119
  clear c100
  clear c104
  clear c109
  go_enter Tryz.func156,Tryz.ntmps156
  go_wp2
  go_ret
  exact⟨rfl,Mj _ _⟩
 have hz:Hid (unitOf r=0):=by
  unfold Hid unitOf
  rw[if_neg c119,if_neg c100,if_neg c104,if_neg c109,if_neg c115]
 have d119:(r==119)=false:=by simpa using c119
 have d100:(r==100)=false:=by simpa using c100
 have d104:(r==104)=false:=by simpa using c104
 have d109:(r==109)=false:=by simpa using c109
 have d115:(r==115)=false:=by simpa using c115
 go_enter Tryz.func156,Tryz.ntmps156
 go_wp2
 go_ret
 exact⟨by rw[hz.out];rfl,Mj _ _⟩
theorem spbounded_any (a n b p:Int) (w:World) (hp:a*n=p) (p0:0≤p) (p1:p≤153257711523840000) (b0:0≤b) (b1:b≤253402300800):
  Calls Tryz.prog 155 #[.int .i64 a, .int .i64 n, .int .i64 b] w fun e w'=>e= .returned (.int .i64 (min (p+b) 253402300800))∧w=w':=by
 go_enter Tryz.func155,Tryz.ntmps155
 go_wp2
 go_ret
 exact⟨rfl,rfl⟩
structure SPMem (w wr:World) (s:ByteArray) (pos:Nat):Prop where
 it:wr.heap[w.heap.size]?=some (.stringIter s pos)
 bel:Below w.heap.size w wr
 s1:w.heap.size<wr.heap.size
theorem SPMem.start (w:World) (s:ByteArray):SPMem w (w.iter s 0) s 0:=⟨World.iter_heap w s 0,(Mj _ _).alloc (Nat.le_refl _) _,by simp[World.iter]⟩
theorem SPMem.after {w wr w2:World} {s:ByteArray} {pos:Nat} (h:SPMem w wr s pos) (hb:Below wr.heap.size wr w2):SPMem w w2 s pos:=by
 obtain⟨it,bel,s1⟩:=h
 have:=hb.size
 exact⟨(hb.block _ s1).trans it,bel.trans (hb.mono bel.size),by omega⟩
theorem SPMem.next {w wr:World} {s:ByteArray} {pos:Nat} (h:SPMem w wr s pos) (p:Nat):SPMem w (wr.iterAt w.heap.size s p) s p:=by
 obtain⟨it,bel,s1⟩:=h
 exact⟨Lib.iterAt_heap wr _ s pos p it,Lib.below_iterAt bel (Nat.le_refl _) s p,by rw[Lib.iterAt_size];exact s1⟩
theorem span_rune (w:World) (k:Nat) (s:ByteArray) (pos:Nat) (hk:w.heap[k]?=some (.stringIter s pos)) (h:pos<s.size):
  ∃(z:Int) (p:Nat),(∀ty,(Instr.next (.pointer (some ⟨k,0,none⟩)) true ty).run Tryz.prog w= .ok (.tuple #[.bool true, .int .i64 pos, .int .i32 z]) (w.iterAt k s p))∧0≤z∧z≤2147483647∧
   ((48≤z∧z≤57)∨unitOf z≠0→p=pos+1∧(nums s).getD pos 0=z)∧(¬(48≤z∧z≤57)→¬(48≤(nums s).getD pos 0∧(nums s).getD pos 0≤57))∧unitOf ((nums s).getD pos 0)=unitOf z:=by
 rw[nums_at s pos h]
 by_cases ha:s[pos].toNat<128
 ·exact⟨(s[pos].toNat:Int),pos+1,fun ty=>Lib.run_next_ascii_at w k s pos ty hk h ha,by omega,by omega,fun _=>⟨rfl,rfl⟩,fun hn=>hn,rfl⟩
 ·have hd:=decode_high s pos h (by omega)
  have hl:=decode_le s pos
  have hu:unitOf (((Utf8.decode s pos).1:Nat):Int)=0:=unitOf_high (by omega)
  refine⟨_,_,fun ty=>Lib.run_next_any_at w k s pos ty hk h,by omega,by omega,fun hc=>?_,fun _ hc=>by omega,?_⟩
  ·rcases hc with hc|hc
   ·omega
   ·exact(hc hu).elim
  ·rw[hu];exact unitOf_high (by omega)
structure LS (zs:List Int) (pos acc lastN N:Nat) (digits:Bool) (sum number last:Int):Prop where
 run:runs St0 (zs.take pos)=some ⟨acc,lastN,if digits=true then some N else none⟩
 zero:digits=false→N=0
 esum:sum=min (acc:Int) 253402300800
 enum:number=min (N:Int) 253402300800
 elast:(last=(lastN:Int)∧lastN≤604800)∨(last=253402300800∧lastN=1000000)
theorem LS.start (zs:List Int):LS zs 0 0 1000000 0 false 0 0 253402300800:=⟨rfl,fun _=>rfl,rfl,rfl,Mx ⟨rfl,rfl⟩⟩
theorem LS.bounds {zs:List Int} {pos acc lastN N:Nat} {digits:Bool} {sum number last:Int} (h:LS zs pos acc lastN N digits sum number last):
  0≤sum∧sum≤253402300800∧0≤number∧number≤253402300800∧0≤last∧last≤253402300800:=by
 have h1:=h.esum
 have h2:=h.enum
 have h3:=h.elast
 omega
theorem LS.digit {zs:List Int} {pos acc lastN N:Nat} {digits:Bool} {sum number last z:Int} (h:LS zs pos acc lastN N digits sum number last) (hp:pos<zs.length) (hz:zs.getD pos 0=z) (z0:48≤z) (z1:z≤57):
  LS zs (pos+1) acc lastN (10*N+(z-48).toNat) true sum (min (number*10+(z-48)) 253402300800) last:=by
 obtain⟨h1,h2,h3,h4,h5⟩:=h
 refine⟨?_,(fun e=>by cases e),h3,by omega,h5⟩
 rw[runs_next hp h1,hz,stp_digit ⟨z0,z1⟩,if_pos rfl]
 cases digits with
 |true=>rfl
 |false=>rw[h2 rfl];rfl
theorem span_prod {N U:Nat} {number p:Int} (hU:1≤U) (hU9:U≤604800) (h4:number=min (N:Int) 253402300800) (hp:number*(U:Int)=p):
  0≤p∧p≤153257711523840000∧((p=((N*U:Nat):Int))∨(253402300800≤p∧253402300800≤((N*U:Nat):Int))):=by
 have hn0:0≤number:=by omega
 have hn1:number≤253402300800:=by omega
 have a1:number*1≤number*(U:Int):=Int.mul_le_mul_of_nonneg_left (by omega) hn0
 have a2:number*(U:Int)≤253402300800*(U:Int):=Int.mul_le_mul_of_nonneg_right hn1 (by omega)
 have a3:(N:Int)*1≤(N:Int)*(U:Int):=Int.mul_le_mul_of_nonneg_left (by omega) (by omega)
 have e:((N*U:Nat):Int)=(N:Int)*(U:Int):=Int.natCast_mul _ _
 refine⟨by omega,by omega,?_⟩
 by_cases hb:(N:Int)≤253402300800
 ·left
  have:number=(N:Int):=by omega
  rw[e,←hp,this]
 ·right
  omega
theorem LS.unit {zs:List Int} {pos acc lastN N:Nat} {sum number last z p:Int} (h:LS zs pos acc lastN N true sum number last) (hl:pos<zs.length) (hz:zs.getD pos 0=z) {U:Nat} (hu:unitOf z=U) (hU:U≠0) (hlt: ¬last≤(U:Int)) (hp:number*(U:Int)=p):
  LS zs (pos+1) (acc+N*U) U 0 false (min (p+sum) 253402300800) 0 (U:Int):=by
 obtain⟨h1,h2,h3,h4,h5⟩:=h
 have hU9:U≤604800:=by rw[←hu];exact unitOf_le z
 have hpp:=span_prod (N:=N) (by omega) hU9 h4 hp
 have e:((acc+N*U:Nat):Int)=(acc:Int)+((N*U:Nat):Int):=Int.natCast_add _ _
 have hlN:U<lastN:=by omega
 refine⟨?_,fun _=>rfl,by omega,rfl,My ⟨rfl,hU9⟩⟩
 rw[runs_next hl h1,hz,if_pos rfl,stp_unit (by omega) (by rw[hu];exact hlN),hu]
 rfl
theorem LS.dead {zs:List Int} {pos acc lastN N:Nat} {digits:Bool} {sum number last b:Int} (h:LS zs pos acc lastN N digits sum number last) (hl:pos<zs.length) (hb:zs.getD pos 0=b) (hd: ¬(48≤b∧b≤57)) (hc:unitOf b=0∨last≤(unitOf b:Int)∨digits=false): ∀M,¬Tells zs M:=by
 obtain⟨h1,h2,h3,h4,h5⟩:=h
 refine Tells.of_none (runs_dead hl h1 ?_)
 rw[hb]
 cases digits with
 |false=>exact stp_bare hd
 |true=>
  rw[if_pos rfl]
  refine stp_none hd ?_
  have:=unitOf_le b
  rcases hc with hc|hc|hc
  ·exact My hc
  ·right;omega
  ·cases hc
theorem LS.open {zs:List Int} {acc lastN N:Nat} {sum number last:Int} (h:LS zs zs.length acc lastN N true sum number last): ∀M,¬Tells zs M:=by
 intro M g
 have hr:=h.run
 rw[List.take_length]at hr
 obtain⟨_,l,g⟩:=g
 rw[hr]at g
 simp at g
theorem LS.tells {zs:List Int} {acc lastN N:Nat} {sum number last:Int} (h:LS zs zs.length acc lastN N false sum number last) (hne:zs≠ []):Tells zs acc:=by
 have hr:=h.run
 rw[List.take_length]at hr
 exact⟨hne,_,hr⟩
theorem spread_any (s:ByteArray) (w:World) (_hm:s.size≤9223372036854775807):Calls Tryz.prog 135 #[.string s] w (GivesSpan (nums s) w):=by
 have hlen:Hid ((nums s).length=s.size):=nums_length s
 go_enter Tryz.func135,Tryz.ntmps135
 go_wp2
 go_loopw [4,5,6,7] (fun v4 v5 v6 v7 wr=> ∃(pos acc lastN N:Nat) (digits:Bool) (sum number last:Int),pos≤s.size∧v4= .int .i64 sum∧v5= .int .i64 number∧v6= .bool digits∧v7= .int .i64 last∧LS (nums s) pos acc lastN N digits sum number last∧SPMem w wr s pos) (fun _ _ _ _ wr=>s.size-wr.iterPos w.heap.size)
 case atStart=>exact⟨0,0,1000000,0,false,0,0,253402300800,Nat.zero_le _,rfl,rfl,rfl,rfl,LS.start _,SPMem.start _ _⟩
 case round=>
  obtain⟨pos,acc,lastN,N,digits,sum,number,last,hp,rfl,rfl,rfl,rfl,hL,hM⟩:=hrel
  have HL:=Lh hL
  obtain⟨s0,s1,n0,n1,l0,l1⟩:=hL.bounds
  have hM0:=Lh hM.it
  clear hL
  by_cases h1:pos<s.size
  ·obtain⟨z,p,hnx,z0,z1,hyes,hno,hub⟩:=span_rune wr w.heap.size s pos hM.it h1
   have hl:Hid (pos<(nums s).length):=by unfold Hid;rw[hlen.out];exact h1
   have M1:=Lh (hM.next p)
   have hbel:=Lh hM.bel
   clear hM
   obtain⟨b,hb0⟩: ∃b,(nums s).getD pos 0=b:=⟨_,rfl⟩
   rw[hb0]at hyes hno hub
   have hb:=Lh hb0
   clear hb0
   replace hyes:=Lh hyes
   replace hno:=Lh hno
   replace hub:=Lh hub
   by_cases z48:z<48
   ·have hnd:=Lh (hno.out (by omega))
    obtain⟨U,hU0⟩: ∃U,unitOf z=U:=⟨_,rfl⟩
    have hU:=Lh hU0
    have hU9:(U:Int)≤604800:=by have:=unitOf_le z;omega
    clear hU0
    have hg:decide (z≥48)=false:=by simp;omega
    by_cases u0:U=0
    ·have hbad:=Lh (HL.out.dead hl.out hb.out hnd.out (My (by rw[hub.out,hU.out];exact u0)))
     subst u0
     go_wp2_with (go_at_call 156;(with_reducible refine(spunit_any z _).mono ?_);rintro e w1 ⟨rfl,g1⟩;rw[hU.out];have M2:=Lh (M1.out.after g1))
     go_ret2
     exact GivesSpan.word hbad.out M2.out.bel
    ·have hub0:((U:Int)==0)=false:=by simp;omega
     have hub1: ¬(U:Int)=0:=by omega
     by_cases hlu:last≤(U:Int)
     ·have hbad:=Lh (HL.out.dead hl.out hb.out hnd.out (Mx (My (by rw[hub.out,hU.out];exact hlu))))
      clear u0
      go_wp2_with (go_at_call 156;(with_reducible refine(spunit_any z _).mono ?_);rintro e w1 ⟨rfl,g1⟩;rw[hU.out];have M2:=Lh (M1.out.after g1))
      go_ret2
      exact GivesSpan.word hbad.out M2.out.bel
     ·have hlb:decide ((U:Int)≥last)=false:=by simp;omega
      have hlt:=Lh hlu
      clear hlu
      cases digits with
      |false=>
       have hbad:=Lh (HL.out.dead hl.out hb.out hnd.out (Mx (Mx rfl)))
       clear u0
       go_wp2_with (go_at_call 156;(with_reducible refine(spunit_any z _).mono ?_);rintro e w1 ⟨rfl,g1⟩;rw[hU.out];have M2:=Lh (M1.out.after g1))
       go_ret2
       exact GivesSpan.word hbad.out M2.out.bel
      |true=>
       obtain⟨rfl,rfl⟩:=hyes.out (Mx (by rw[hU.out];exact u0))
       obtain⟨q,hq⟩: ∃q,number*(U:Int)=q:=⟨_,rfl⟩
       have hnext:=Lh (HL.out.unit hl.out hb.out hU.out u0 hlt.out hq)
       obtain⟨q0,q1,_⟩:=span_prod (by omega) (by omega) HL.out.enum hq
       clear u0
       go_wp2_with (first
        |(go_at_call 156;(with_reducible refine(spunit_any b _).mono ?_);rintro e w1 ⟨rfl,g1⟩;rw[hU.out];have M2:=Lh (M1.out.after g1))
        |(go_at_call 155;(with_reducible refine(spbounded_any number (U:Int) sum q _ hq q0 q1 s0 s1).mono ?_);rintro e w2 ⟨rfl,rfl⟩))
       go_roundw
       case rel=>exact⟨pos+1,_,U,0,false,_,0,(U:Int),by omega,rfl,rfl,rfl,rfl,hnext.out,M2.out⟩
       case measure=>rw[iterPos_of M2.out.it,iterPos_of hM0.out];omega
   ·by_cases z57:57<z
    ·have hnd:=Lh (hno.out (by omega))
     obtain⟨U,hU0⟩: ∃U,unitOf z=U:=⟨_,rfl⟩
     have hU:=Lh hU0
     have hU9:(U:Int)≤604800:=by have:=unitOf_le z;omega
     clear hU0
     have hg:decide (z≤57)=false:=by simp;omega
     by_cases u0:U=0
     ·have hbad:=Lh (HL.out.dead hl.out hb.out hnd.out (My (by rw[hub.out,hU.out];exact u0)))
      subst u0
      go_wp2_with (go_at_call 156;(with_reducible refine(spunit_any z _).mono ?_);rintro e w1 ⟨rfl,g1⟩;rw[hU.out];have M2:=Lh (M1.out.after g1))
      go_ret2
      exact GivesSpan.word hbad.out M2.out.bel
     ·have hub0:((U:Int)==0)=false:=by simp;omega
      have hub1: ¬(U:Int)=0:=by omega
      by_cases hlu:last≤(U:Int)
      ·have hbad:=Lh (HL.out.dead hl.out hb.out hnd.out (Mx (My (by rw[hub.out,hU.out];exact hlu))))
       clear u0
       go_wp2_with (go_at_call 156;(with_reducible refine(spunit_any z _).mono ?_);rintro e w1 ⟨rfl,g1⟩;rw[hU.out];have M2:=Lh (M1.out.after g1))
       go_ret2
       exact GivesSpan.word hbad.out M2.out.bel
      ·have hlb:decide ((U:Int)≥last)=false:=by simp;omega
       have hlt:=Lh hlu
       clear hlu
       cases digits with
       |false=>
        have hbad:=Lh (HL.out.dead hl.out hb.out hnd.out (Mx (Mx rfl)))
        clear u0
        go_wp2_with (go_at_call 156;(with_reducible refine(spunit_any z _).mono ?_);rintro e w1 ⟨rfl,g1⟩;rw[hU.out];have M2:=Lh (M1.out.after g1))
        go_ret2
        exact GivesSpan.word hbad.out M2.out.bel
       |true=>
        obtain⟨rfl,rfl⟩:=hyes.out (Mx (by rw[hU.out];exact u0))
        obtain⟨q,hq⟩: ∃q,number*(U:Int)=q:=⟨_,rfl⟩
        have hnext:=Lh (HL.out.unit hl.out hb.out hU.out u0 hlt.out hq)
        obtain⟨q0,q1,_⟩:=span_prod (by omega) (by omega) HL.out.enum hq
        clear u0
        go_wp2_with (first
         |(go_at_call 156;(with_reducible refine(spunit_any b _).mono ?_);rintro e w1 ⟨rfl,g1⟩;rw[hU.out];have M2:=Lh (M1.out.after g1))
         |(go_at_call 155;(with_reducible refine(spbounded_any number (U:Int) sum q _ hq q0 q1 s0 s1).mono ?_);rintro e w2 ⟨rfl,rfl⟩))
        go_roundw
        case rel=>exact⟨pos+1,_,U,0,false,_,0,(U:Int),by omega,rfl,rfl,rfl,rfl,hnext.out,M2.out⟩
        case measure=>rw[iterPos_of M2.out.it,iterPos_of hM0.out];omega
    ·obtain⟨rfl,rfl⟩:=hyes.out (My ⟨by omega,by omega⟩)
     have hnext:=Lh (HL.out.digit hl.out hb.out (by omega) (by omega))
     have zw:IntKind.i32.wrap (b-48)=b-48:=by rw[IntKind.wrap_i32];omega
     have zw2:IntKind.i64.wrap (b-48)=b-48:=by rw[IntKind.wrap_i64];omega
     go_wp2_with (go_at_call 155;(with_reducible refine(spbounded_any number 10 (b-48) _ _ rfl (by omega) (by omega) (by omega) (by omega)).mono ?_);rintro e w2 ⟨rfl,rfl⟩)
     go_roundw
     case rel=>exact⟨pos+1,acc,lastN,_,true,sum,_,last,by omega,rfl,rfl,rfl,rfl,hnext.out,M1.out⟩
     case measure=>rw[iterPos_of M1.out.it,iterPos_of hM0.out];omega
  ·obtain rfl:pos=s.size:=by omega
   have hnx: ∀ty,(Instr.next (.pointer (some ⟨w.heap.size,0,none⟩)) true ty).run Tryz.prog wr=_:=fun ty=>Lib.run_next_end_at wr w.heap.size s s.size ty hM.it (Nat.lt_irrefl _)
   have hbel:=Lh hM.bel
   clear hM
   have HL2:Hid (LS (nums s) (nums s).length acc lastN N digits sum number last):=by unfold Hid;rw[hlen.out];exact HL.out
   by_cases hs0:s.size=0
   ·have he:s.toList= []∧s.toList.isEmpty=true:=by
     have e:s.toList= []:=by
      rw[ByteArray.toList_eq]
      apply List.eq_nil_of_length_eq_zero
      simpa using hs0
     exact⟨e,by rw[e];rfl⟩
    obtain⟨e1,e2⟩:=he
    have hbad:Hid (∀N,¬Tells (nums s) N):=fun N g=>g.1 (List.eq_nil_of_length_eq_zero (by rw[hlen.out];exact hs0))
    clear hs0
    go_wp2
    go_ret2
    exact GivesSpan.word hbad.out hbel.out
   ·have he: ¬s.toList= []∧s.toList.isEmpty=false:=by
     rw[ByteArray.toList_eq]
     have hl:s.data.toList.length=s.size:=by simp
     cases hd:s.data.toList with
     |nil=>rw[hd]at hl;simp at hl;omega
     |cons a l=>simp
    obtain⟨e1,e2⟩:=he
    cases digits with
    |true=>
     have hbad:=Lh HL2.out.open
     clear hs0
     go_wp2
     go_ret2
     exact GivesSpan.word hbad.out hbel.out
    |false=>
     have hT:Hid (Tells (nums s) acc):=HL2.out.tells (fun e=>by have h6:=hlen.out;rw[e]at h6;simp at h6;omega)
     have hes:=Lh HL.out.esum
     clear hs0
     by_cases hr:253402300799<sum
     ·have hN:Hid (253402300799<acc):=by have:=hes.out;unfold Hid;omega
      go_wp2_with (go_at_call 157;(with_reducible refine(spright_no sum _ (Mx hr)).mono ?_);rintro e w1 ⟨rfl,rfl⟩)
      go_ret2
      exact GivesSpan.far hT.out hN.out hbel.out
     ·have hN:Hid (acc≤253402300799∧sum=(acc:Int)):=by have:=hes.out;unfold Hid;omega
      have hr2:sum≤253402300799:=by omega
      clear hr
      go_wp2_with (go_at_call 157;(with_reducible refine(spright_yes sum _ s0 hr2).mono ?_);rintro e w1 ⟨rfl,rfl⟩)
      go_ret2
      exact GivesSpan.fine hT.out hN.out.1 hN.out.2 hbel.out
end
end Go.Proofs.YtalcagmhdppdjaaGreatDoor
