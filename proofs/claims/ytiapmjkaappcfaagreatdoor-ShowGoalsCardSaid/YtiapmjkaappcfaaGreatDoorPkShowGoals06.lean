/-
  Package tree's reader: what a list and an item give; the state of a list's loop.
-/
import Derived.Test.YtiapmjkaappcfaaGreatDoorPkShowGoals05
set_option maxRecDepth 100000
set_option maxHeartbeats 8000000
namespace Go.Proofs.YtiapmjkaappcfaaGreatDoor
open Lib renaming hid→Lh
open List renaming setIfInBounds_toArray→Lq,set_cons_zero→Lj,set_cons_succ→Lk,getElem?_eq_getElem→Kh,length_append→Kq,take_succ_cons→Kj,take_zero→Jh,length_cons→Jq
open Nat renaming reduceAdd→Lx,zero_add→Ly,le_refl→Mz
open Act renaming put→Mq
open Go.RowKit.Below renaming refl→Mj
open World renaming cell?_of_block→Kk
section
open Go.RowKit
theorem pdec_any (n:Int) (w:World) (h0:0≤n) (h1:n≤18446744073709551615):Calls Tryz.prog 206 #[.int .u64 n] w fun e w'=>e= .returned (.string (strOfNums (dec n.toNat)))∧Below w.heap.size w w':=by
 have RP:=Lh (fun W=>print_any 0 n n.toNat W ⟨by decide,by decide,h0,h1,by omega⟩)
 go_enter Tryz.func206,Tryz.ntmps206
 go_wp2_with (go_at_call 234;(with_reducible refine(RP.out _).mono ?_);rintro e w1 ⟨rfl,g1⟩;have G1:=Lh g1;clear g1)
 go_ret
 exact⟨rfl,G1.out⟩
theorem dec_four (l:Nat) (h:l<1000):dec (1000+l)= [49,48+((l/100:Nat):Int),48+((l/10%10:Nat):Int),48+((l%10:Nat):Int)]:=by
 rw[dec_big (by omega),dec_big (by omega),dec_big (by omega),dec_small (by omega)]
 simp only[List.cons_append,List.nil_append]
 congr 1
 ·omega
 ·congr 1
  ·omega
  ·congr 1
   ·omega
   ·congr 1;omega
theorem four_tail (l:Nat) (h:l<1000):(strOfNums (dec (1000+l))).extract 1 (strOfNums (dec (1000+l))).size=strOfNums [48+((l/100:Nat):Int),48+((l/10%10:Nat):Int),48+((l%10:Nat):Int)]:=by
 rw[dec_four l h,Lib.extract_from]
 rfl
theorem trim_two (l:Nat):Lib.trimRightB (strOfNums [48+((l/10%10:Nat):Int),48+((l%10:Nat):Int)]).data.toList 48=(strOfNums (tailD (l%100))).data.toList:=by
 have b3:=byte_digit (l/10%10) (by omega)
 have b4:=byte_digit (l%10) (by omega)
 unfold Lib.trimRightB strOfNums tailD
 simp only[List.map_cons,List.map_nil,List.reverse_cons,List.reverse_nil,List.nil_append,List.cons_append,List.dropWhile_cons,beq_iff_eq,b3,b4]
 by_cases h1:l%10=0
 ·by_cases h2:l%100=0
  ·rw[if_pos h1,if_pos (show l/10%10=0 by omega),if_pos h2];rfl
  ·rw[if_pos h1,if_neg (show¬l/10%10=0 by omega),if_neg h2,if_pos (show l%100%10=0 by omega),show l%100/10=l/10%10 by omega];rfl
 ·rw[if_neg h1,if_neg (show¬l%100=0 by omega),if_neg (show¬l%100%10=0 by omega),show l%100/10=l/10%10 by omega,show l%100%10=l%10 by omega];rfl
def FPs (n q:Nat) (x y z:Int) (tl pa pb pc:List Int):Nat→Value→World→Prop
 |0,v,_=>v= .int .u64 (n:Int)
 |1,v,_=>v= .int .u64 (q:Int)
 |2,v,_=>v= .string (strOfNums (dec q))
 |3,v,_=>v= .string (strOfNums pa)
 |4,v,_=>v= .string (strOfNums [x,y,z])
 |5,v,_=>v= .string (strOfNums [x])
 |6,v,_=>v= .string (strOfNums pb)
 |7,v,_=>v= .string (strOfNums [x,y,z])
 |8,v,_=>v= .string (strOfNums [y,z])
 |9,v,_=>v= .string (strOfNums tl)
 |10,v,_=>v= .string (strOfNums pc)
 |_,_,_=>True
theorem FPs.keep {n q:Nat} {x y z:Int} {tl pa pb pc:List Int} (k:Nat) (v:Value) (w w':World) (h:FPs n q x y z tl pa pb pc k v w) (_hb:Below w.heap.size w w'):FPs n q x y z tl pa pb pc k v w':=by
 match k,h with
 |0,h=>exact h
 |1,h=>exact h
 |2,h=>exact h
 |3,h=>exact h
 |4,h=>exact h
 |5,h=>exact h
 |6,h=>exact h
 |7,h=>exact h
 |8,h=>exact h
 |9,h=>exact h
 |10,h=>exact h
 |k+11,_=>exact trivial
theorem pfac_any (n:Nat) (w:World) (hn:n≤18446744073709551615):Calls Tryz.prog 207 #[.int .u64 (n:Int)] w fun e w'=>e= .returned (.string (strOfNums (facP n)))∧Below w.heap.size w w':=by
 obtain⟨q,hq⟩: ∃q:Nat,n/1000=q:=⟨_,rfl⟩
 obtain⟨L,hL⟩: ∃L:Nat,n%1000=L:=⟨_,rfl⟩
 have hqi:(n:Int)/1000=(q:Int):=by omega
 have hqt:(n:Int).tdiv 1000=(q:Int):=by rw[Int.tdiv_eq_ediv_of_nonneg (by omega)];omega
 have hli:(n:Int)%1000=(L:Int):=by omega
 have hlt:(n:Int).tmod 1000=(L:Int):=by rw[Int.tmod_eq_emod_of_nonneg (by omega)];omega
 have hL9:L<1000:=by omega
 have hw1:IntKind.u64.wrap (1000+(L:Int))=1000+(L:Int):=by rw[IntKind.wrap_u64];omega
 have RA:=Lh (fun W=>pdec_any (1000+(L:Int)) W (by omega) (by omega))
 have RQ:=Lh (fun W=>pdec_any (q:Int) W (by omega) (by omega))
 rw[show(1000+(L:Int)).toNat=1000+L by omega]at RA
 rw[Int.toNat_natCast]at RQ
 have hx:=four_tail L hL9
 have hs4:(strOfNums (dec (1000+L))).size=4:=by rw[dec_four L hL9];rfl
 have HFP:facP n=dec q++ [46]++ [48+((L/100:Nat):Int)]++tailD (L%100):=by unfold facP;rw[hq,hL,show n%100=L%100 by omega]
 have ht:=trim_two L
 obtain⟨x,hxx⟩: ∃x:Int,48+((L/100:Nat):Int)=x:=⟨_,rfl⟩
 obtain⟨y,hyy⟩: ∃x:Int,48+((L/10%10:Nat):Int)=x:=⟨_,rfl⟩
 obtain⟨z,hzz⟩: ∃x:Int,48+((L%10:Nat):Int)=x:=⟨_,rfl⟩
 obtain⟨tl,htl⟩: ∃t,tailD (L%100)=t:=⟨_,rfl⟩
 have htll:tl.length≤2:=by rw[←htl];exact(tailD_bd (by omega)).2
 rw[hxx,hyy,hzz]at hx
 rw[hyy,hzz,htl]at ht
 rw[hxx,htl]at HFP
 have HT:Hid (∀w,Calls Tryz.prog 235 #[.string (strOfNums [y,z]), .string ⟨#[48]⟩] w fun e w'=>e= .returned (.string (strOfNums tl))∧w=w'):=Lh (fun w=>by
  refine(Tryz.strings_TrimRight_one (strOfNums [y,z]) 48 (by decide) w (by rw[strOfNums_size];simp)).mono ?_
  rintro e w' ⟨rfl,hw⟩
  exact⟨by rw[ht],hw.symm⟩)
 obtain⟨F,hF⟩: ∃F,strOfNums (dec (1000+L))=F:=⟨_,rfl⟩
 rw[hF]at RA hx hs4
 rw[hs4]at hx
 have hsq:(strOfNums (dec q)).size≤39:=by rw[strOfNums_size];exact dec_len (by unfold W128;omega)
 have HSQ:=Lh hsq
 have e14:(1:Int)≤(F.size:Int):=by omega
 have h3x:(strOfNums [x,y,z]).extract 0 1=strOfNums [x]:=by rw[Lib.extract_upto];rfl
 have h3y:(strOfNums [x,y,z]).extract 1 3=strOfNums [y,z]:=by
  have:=Lib.extract_from (strOfNums [x,y,z]) 1
  exact this
 have h3s:(strOfNums [x,y,z]).size=3:=rfl
 obtain⟨pa,hpa⟩: ∃p,dec q++ [46]=p:=⟨_,rfl⟩
 obtain⟨pb,hpb⟩: ∃p,pa++ [x]=p:=⟨_,rfl⟩
 obtain⟨pc,hpc⟩: ∃p,pb++tl=p:=⟨_,rfl⟩
 rw[hpa,hpb,hpc]at HFP
 have HA3:=Lh (str_point (dec q))
 have HA6:=Lh (strOfNums_append pa [x])
 have HA10:=Lh (strOfNums_append pb tl)
 rw[hpa]at HA3
 rw[hpb]at HA6
 rw[hpc]at HA10
 have HSA:Hid ((strOfNums pa).size≤40):=Lh (by rw[strOfNums_size,←hpa,Kq];rw[strOfNums_size]at hsq;simp;omega)
 have HSB:Hid ((strOfNums pb).size≤41):=Lh (by rw[strOfNums_size,←hpb,Kq];have:=HSA.out;rw[strOfNums_size]at this;simp;omega)
 have HST:Hid ((strOfNums tl).size≤2):=Lh (by rw[strOfNums_size];exact htll)
 clear hpa hpb hpc
 have HFQ:=Lh HFP
 clear ht HFP hq hL hL9 hxx hyy hzz htl hF
 go_enter Tryz.func207,Tryz.ntmps207
 go_wp2_with (go_at_call 206;(with_reducible refine(RA.out _).mono ?_);rintro e w1 ⟨rfl,g1⟩;have G1:=Lh g1;clear g1)
 clear hli hlt hw1 hx e14 hs4
 refine wp_region_mix 11 (FPs n q x y z tl pa pb pc) (fun _=>false) (by kernel_rfl) (by kernel_rfl) FPs.keep (fun _ _ _ h=>by cases h) ?_ ?_
 ·simp only[Kj,Jh]
  refine(StepsAll.cons ?_ (StepsAll.cons ?_ (StepsAll.cons ?_ (StepsAll.cons ?_ (StepsAll.cons ?_ (StepsAll.cons ?_ (StepsAll.cons ?_ (StepsAll.cons ?_ (StepsAll.cons ?_ (StepsAll.cons ?_ (StepsAll.cons ?_ StepsAll.nil)))))))))))
  ·intro u W hb hd
   simp only[putAll,Mq,Lq,Lk,Lj,Ly,Lx]
   go_wp2
   first|exact⟨rfl,Mj _ _⟩|exact⟨_,rfl,rfl,Mj _ _,fun h=>by simp at h⟩|exact⟨_,rfl,rfl,Mj _ _⟩|exact⟨rfl,Mj _ _,fun h=>by simp at h⟩
  ·intro u W hb hd
   have e0:u 0= .int .u64 (n:Int):=hd.1 rfl (by decide)
   simp only[putAll,Mq,Lq,Lk,Lj,Ly,Lx]
   rw[e0]
   go_wp2
   first|exact⟨rfl,Mj _ _⟩|exact⟨_,rfl,rfl,Mj _ _,fun h=>by simp at h⟩|exact⟨_,rfl,rfl,Mj _ _⟩|exact⟨rfl,Mj _ _,fun h=>by simp at h⟩
  ·intro u W hb hd
   have e0:u 1= .int .u64 (q:Int):=hd.1 rfl (by decide)
   simp only[putAll,Mq,Lq,Lk,Lj,Ly,Lx]
   rw[e0]
   go_wp2_with (go_at_call 206;(with_reducible refine(RQ.out _).mono ?_);rintro e W1 ⟨rfl,g⟩)
   first|exact⟨rfl,g⟩|exact⟨_,rfl,rfl,g,fun h=>by simp at h⟩|exact⟨_,rfl,rfl,g⟩
  ·intro u W hb hd
   have e0:u 2= .string (strOfNums (dec q)):=hd.1 rfl (by decide)
   have hap:=HA3.out
   have hs2:(strOfNums (dec q)).size+(⟨#[46]⟩:ByteArray).size≤9223372036854775807:=by have:=HSQ.out;have e:(⟨#[46]⟩:ByteArray).size=1:=rfl;omega
   simp only[putAll,Mq,Lq,Lk,Lj,Ly,Lx]
   rw[e0]
   go_wp2
   first|exact⟨by rw[hap],Mj _ _⟩|exact⟨rfl,Mj _ _⟩|exact⟨_,rfl,by rw[←hap];rfl,Mj _ _⟩|exact⟨_,rfl,by rw[←hap];rfl,Mj _ _,fun h=>by simp at h⟩|exact⟨congrArg Value.string hap,Mj _ _⟩|exact⟨congrArg Value.string hap.symm,Mj _ _⟩
  ·intro u W hb hd
   simp only[putAll,Mq,Lq,Lk,Lj,Ly,Lx]
   go_wp2
   first|exact⟨rfl,Mj _ _⟩|exact⟨_,rfl,rfl,Mj _ _,fun h=>by simp at h⟩|exact⟨_,rfl,rfl,Mj _ _⟩|exact⟨rfl,Mj _ _,fun h=>by simp at h⟩
  ·intro u W hb hd
   have e0:u 4= .string (strOfNums [x,y,z]):=hd.1 rfl (by decide)
   simp only[putAll,Mq,Lq,Lk,Lj,Ly,Lx]
   rw[e0]
   go_wp2
   first|exact⟨by rw[h3x],Mj _ _⟩|exact⟨rfl,Mj _ _⟩|exact⟨congrArg Value.string h3x,Mj _ _⟩|exact⟨congrArg Value.string h3x.symm,Mj _ _⟩|exact⟨_,rfl,by rw[←h3x];rfl,Mj _ _⟩
  ·intro u W hb hd
   have e0:u 3= .string (strOfNums pa):=hd.1 rfl (by decide)
   have e1:u 5= .string (strOfNums [x]):=hd.2.1 rfl (by decide)
   have hap:=HA6.out
   have hs2:(strOfNums pa).size+(strOfNums [x]).size≤9223372036854775807:=by have:=HSA.out;have e:(strOfNums [x]).size=1:=rfl;omega
   simp only[putAll,Mq,Lq,Lk,Lj,Ly,Lx]
   rw[e0,e1]
   go_wp2
   first|exact⟨by rw[hap],Mj _ _⟩|exact⟨rfl,Mj _ _⟩|exact⟨_,rfl,by rw[←hap];rfl,Mj _ _⟩|exact⟨_,rfl,by rw[←hap];rfl,Mj _ _,fun h=>by simp at h⟩|exact⟨congrArg Value.string hap,Mj _ _⟩|exact⟨congrArg Value.string hap.symm,Mj _ _⟩
  ·intro u W hb hd
   simp only[putAll,Mq,Lq,Lk,Lj,Ly,Lx]
   go_wp2
   first|exact⟨rfl,Mj _ _⟩|exact⟨_,rfl,rfl,Mj _ _,fun h=>by simp at h⟩|exact⟨_,rfl,rfl,Mj _ _⟩|exact⟨rfl,Mj _ _,fun h=>by simp at h⟩
  ·intro u W hb hd
   have e0:u 7= .string (strOfNums [x,y,z]):=hd.1 rfl (by decide)
   simp only[putAll,Mq,Lq,Lk,Lj,Ly,Lx]
   rw[e0]
   go_wp2
   first|exact⟨by rw[h3y],Mj _ _⟩|exact⟨rfl,Mj _ _⟩|exact⟨congrArg Value.string h3y,Mj _ _⟩|exact⟨congrArg Value.string h3y.symm,Mj _ _⟩|exact⟨_,rfl,by rw[←h3y];rfl,Mj _ _⟩
  ·intro u W hb hd
   have e0:u 8= .string (strOfNums [y,z]):=hd.1 rfl (by decide)
   simp only[putAll,Mq,Lq,Lk,Lj,Ly,Lx]
   rw[e0]
   go_wp2_with (go_at_call 235;(with_reducible refine(HT.out _).mono ?_);rintro e W1 ⟨rfl,rfl⟩)
   first|exact⟨rfl,Mj _ _⟩|exact⟨_,rfl,rfl,Mj _ _,fun h=>by simp at h⟩|exact⟨_,rfl,rfl,Mj _ _⟩|exact⟨rfl,Mj _ _,fun h=>by simp at h⟩
  ·intro u W hb hd
   have e0:u 6= .string (strOfNums pb):=hd.1 rfl (by decide)
   have e1:u 9= .string (strOfNums tl):=hd.2.1 rfl (by decide)
   have hap:=HA10.out
   have hs2:(strOfNums pb).size+(strOfNums tl).size≤9223372036854775807:=by have:=HSB.out;have:=HST.out;omega
   simp only[putAll,Mq,Lq,Lk,Lj,Ly,Lx]
   rw[e0,e1]
   go_wp2
   first|exact⟨by rw[hap],Mj _ _⟩|exact⟨rfl,Mj _ _⟩|exact⟨_,rfl,by rw[←hap];rfl,Mj _ _⟩|exact⟨_,rfl,by rw[←hap];rfl,Mj _ _,fun h=>by simp at h⟩|exact⟨congrArg Value.string hap,Mj _ _⟩|exact⟨congrArg Value.string hap.symm,Mj _ _⟩
 ·intro u W hb hT _
  have e10:u 10= .string (strOfNums pc):=hT 10 (by decide)
  have G3:=Lh (below_step G1.out hb)
  simp only[Kj,Jh,List.drop_succ_cons,List.drop_zero,putAll,Mq,Lq,Lk,Lj,Ly,Lx]
  rw[e10]
  clear hb hT e10
  rw[←HFQ.out]
  go_wp2
  go_ret
  exact⟨rfl,G3.out⟩
theorem pright_any (k:Int) (s:ByteArray) (n a b:Int) (w:World) (env:Env w) (hm:s.size≤4294967296):
  Calls Tryz.prog 175 #[.agg #[.int .i64 k, .string s, .int .u64 n, .int .i64 a, .int .i64 b]] w (GivesQ (RightT k s n) w):=by
 obtain⟨W0,hW0⟩: ∃W,w.alloc (.cells #[.int .i64 k, .string s, .int .u64 n, .int .i64 a, .int .i64 b] 89)=W:=⟨_,rfl⟩
 have V0:Var5 W0 w.heap.size (.int .i64 k) (.string s) (.int .u64 n) (.int .i64 a) (.int .i64 b):=by rw[←hW0];exact Var5.fresh _ _ _ _ _ _ _ _ rfl
 have g0:Below w.heap.size w W0:=by rw[←hW0];exact(Mj _ _).alloc (Mz _) _
 have HG:=Lh g0
 have HV:=Lh V0
 have HNA:=Lh (tname_plain s W0 hm)
 have HGO:=Lh (tgood_any s W0 (env.step g0) hm)
 have HCO:=Lh (fun W=>tcount_big s W (by omega))
 obtain⟨c0,c1,c2,_,_,_,_⟩:=V0
 clear g0 env
 by_cases h1:k=1
 ·subst h1
  have hp:RightT 1 s n↔NameL (runesOf (nums s))∧n=0:=by unfold RightT;simp
  by_cases hn:n=0
  ·by_cases hN:NameL (runesOf (nums s))
   ·have HN:=Lh hN
    have HP:=Lh (hp.mpr ⟨hN,hn⟩)
    subst hn
    clear hN
    clear hp
    go_enter Tryz.func175,Tryz.ntmps175
    go_wp2_with (go_at_call 62;(with_reducible refine(HNA.out).mono ?_);rintro e w2 ⟨q,rfl,hq,h2⟩;obtain rfl:q=true:=hq.mpr HN.out;have G2:=Lh (below_step HG.out h2);clear hq h2)
    go_ret
    exact GivesQ.yes HP.out G2.out
   ·have HN:=Lh hN
    have HP:=Lh (fun h=>hN (hp.mp h).1)
    subst hn
    clear hN
    clear hp
    go_enter Tryz.func175,Tryz.ntmps175
    go_wp2_with (go_at_call 62;(with_reducible refine(HNA.out).mono ?_);rintro e w2 ⟨q,rfl,hq,h2⟩;obtain rfl:q=false:=(by cases q with|false=>rfl|true=>exact(HN.out (hq.mp rfl)).elim);have G2:=Lh (below_step HG.out h2);clear hq h2)
    go_ret
    exact GivesQ.no HP.out G2.out
  ·have HP:=Lh (fun h=>hn (hp.mp h).2)
   have hb:(n==0)=false:=by simpa using hn
   clear hp
   go_enter Tryz.func175,Tryz.ntmps175
   go_wp2
   go_ret
   exact GivesQ.no HP.out HG.out
 by_cases h2:k=2
 ·subst h2
  have hp:RightT 2 s n↔GoodL (runesOf (nums s))∧(runesOf (nums s)).length≤120∧n=0:=by unfold RightT;simp
  by_cases hn:n=0
  ·by_cases hN:GoodL (runesOf (nums s))
   ·have HN:=Lh hN
    by_cases hl:(runesOf (nums s)).length≤120
    ·have hl':((runesOf (nums s)).length:Int)≤120:=by omega
     have HP:=Lh (hp.mpr ⟨hN,hl,hn⟩)
     subst hn
     clear hN
     clear hp
     go_enter Tryz.func175,Tryz.ntmps175
     go_wp2_with (first|(go_at_call 117;(with_reducible refine(HGO.out).mono ?_);rintro e w2 ⟨q,rfl,hq,h2⟩;obtain rfl:q=true:=hq.mpr HN.out;have V2:=Lh (HV.out.after h2);have G2:=Lh (below_step HG.out h2);have e1:=V2.out.c1;clear hq h2)|(go_at_call 118;(with_reducible refine(HCO.out _).mono ?_);rintro e w3 ⟨rfl,h3⟩;have G3:=Lh (below_step G2.out h3);clear h3))
     go_ret
     exact GivesQ.yes HP.out G3.out
    ·have hl':decide (((runesOf (nums s)).length:Int)≤120)=false:=by simp;omega
     have HP:=Lh (fun h=>hl (hp.mp h).2.1)
     subst hn
     clear hN
     clear hp
     go_enter Tryz.func175,Tryz.ntmps175
     go_wp2_with (first|(go_at_call 117;(with_reducible refine(HGO.out).mono ?_);rintro e w2 ⟨q,rfl,hq,h2⟩;obtain rfl:q=true:=hq.mpr HN.out;have V2:=Lh (HV.out.after h2);have G2:=Lh (below_step HG.out h2);have e1:=V2.out.c1;clear hq h2)|(go_at_call 118;(with_reducible refine(HCO.out _).mono ?_);rintro e w3 ⟨rfl,h3⟩;have G3:=Lh (below_step G2.out h3);clear h3))
     go_ret
     exact GivesQ.no HP.out G3.out
   ·have HN:=Lh hN
    have HP:=Lh (fun h=>hN (hp.mp h).1)
    subst hn
    clear hN
    clear hp
    go_enter Tryz.func175,Tryz.ntmps175
    go_wp2_with (go_at_call 117;(with_reducible refine(HGO.out).mono ?_);rintro e w2 ⟨q,rfl,hq,h2⟩;obtain rfl:q=false:=(by cases q with|false=>rfl|true=>exact(HN.out (hq.mp rfl)).elim);have V2:=Lh (HV.out.after h2);have G2:=Lh (below_step HG.out h2);have e1:=V2.out.c1;clear hq h2)
    go_ret
    exact GivesQ.no HP.out G2.out
  ·have HP:=Lh (fun h=>hn (hp.mp h).2.2)
   have hb:(n==0)=false:=by simpa using hn
   clear hp
   go_enter Tryz.func175,Tryz.ntmps175
   go_wp2
   go_ret
   exact GivesQ.no HP.out HG.out
 by_cases h3:k=3
 ·subst h3
  have hp:RightT 3 s n↔s=⟨#[]⟩:=by unfold RightT;simp
  by_cases hs:s=⟨#[]⟩
  ·subst hs
   have HP:=Lh (hp.mpr rfl)
   clear hp
   go_enter Tryz.func175,Tryz.ntmps175
   go_wp2
   go_ret
   exact GivesQ.yes HP.out HG.out
  ·have HP:=Lh (fun h=>hs (hp.mp h))
   obtain⟨hsb,hsc⟩:=toList_empty (s:=s) (Nat.pos_of_ne_zero fun e=>hs (ByteArray.ext (Array.eq_empty_of_size_eq_zero e)))
   clear hp
   go_enter Tryz.func175,Tryz.ntmps175
   go_wp2
   go_ret
   exact GivesQ.no HP.out HG.out
 by_cases h4:k=4
 ·subst h4
  have hp:RightT 4 s n↔s=⟨#[]⟩:=by unfold RightT;simp
  by_cases hs:s=⟨#[]⟩
  ·subst hs
   have HP:=Lh (hp.mpr rfl)
   clear hp
   go_enter Tryz.func175,Tryz.ntmps175
   go_wp2
   go_ret
   exact GivesQ.yes HP.out HG.out
  ·have HP:=Lh (fun h=>hs (hp.mp h))
   obtain⟨hsb,hsc⟩:=toList_empty (s:=s) (Nat.pos_of_ne_zero fun e=>hs (ByteArray.ext (Array.eq_empty_of_size_eq_zero e)))
   clear hp
   go_enter Tryz.func175,Tryz.ntmps175
   go_wp2
   go_ret
   exact GivesQ.no HP.out HG.out
 by_cases h5:k=5
 ·subst h5
  have hp:RightT 5 s n↔s=⟨#[]⟩∧n≤1000000:=by unfold RightT;simp
  by_cases hs:s=⟨#[]⟩
  ·subst hs
   by_cases hn:n≤1000000
   ·have HP:=Lh (hp.mpr ⟨rfl,hn⟩)
    clear hp
    go_enter Tryz.func175,Tryz.ntmps175
    go_wp2
    go_ret
    exact GivesQ.yes HP.out HG.out
   ·have HP:=Lh (fun h=>hn (hp.mp h).2)
    clear hp
    go_enter Tryz.func175,Tryz.ntmps175
    go_wp2
    go_ret
    exact GivesQ.no HP.out HG.out
  ·have HP:=Lh (fun h=>hs (hp.mp h).1)
   obtain⟨hsb,hsc⟩:=toList_empty (s:=s) (Nat.pos_of_ne_zero fun e=>hs (ByteArray.ext (Array.eq_empty_of_size_eq_zero e)))
   clear hp
   go_enter Tryz.func175,Tryz.ntmps175
   go_wp2
   go_ret
   exact GivesQ.no HP.out HG.out
 by_cases h6:k=6
 ·subst h6
  have hp:RightT 6 s n↔s=⟨#[]⟩∧n≤253402300799:=by unfold RightT;simp
  by_cases hs:s=⟨#[]⟩
  ·subst hs
   by_cases hn:n≤253402300799
   ·have HP:=Lh (hp.mpr ⟨rfl,hn⟩)
    clear hp
    go_enter Tryz.func175,Tryz.ntmps175
    go_wp2
    go_ret
    exact GivesQ.yes HP.out HG.out
   ·have HP:=Lh (fun h=>hn (hp.mp h).2)
    clear hp
    go_enter Tryz.func175,Tryz.ntmps175
    go_wp2
    go_ret
    exact GivesQ.no HP.out HG.out
  ·have HP:=Lh (fun h=>hs (hp.mp h).1)
   obtain⟨hsb,hsc⟩:=toList_empty (s:=s) (Nat.pos_of_ne_zero fun e=>hs (ByteArray.ext (Array.eq_empty_of_size_eq_zero e)))
   clear hp
   go_enter Tryz.func175,Tryz.ntmps175
   go_wp2
   go_ret
   exact GivesQ.no HP.out HG.out
 by_cases h0:k=0
 ·subst h0
  have hp:RightT 0 s n↔s=⟨#[]⟩∧n=0:=by unfold RightT;simp
  by_cases hs:s=⟨#[]⟩
  ·subst hs
   by_cases hn:n=0
   ·have HP:=Lh (hp.mpr ⟨rfl,hn⟩)
    subst hn
    clear hp
    go_enter Tryz.func175,Tryz.ntmps175
    go_wp2
    go_ret
    exact GivesQ.yes HP.out HG.out
   ·have HP:=Lh (fun h=>hn (hp.mp h).2)
    have hb:(n==0)=false:=by simpa using hn
    clear hp
    go_enter Tryz.func175,Tryz.ntmps175
    go_wp2
    go_ret
    exact GivesQ.no HP.out HG.out
  ·have HP:=Lh (fun h=>hs (hp.mp h).1)
   obtain⟨hsb,hsc⟩:=toList_empty (s:=s) (Nat.pos_of_ne_zero fun e=>hs (ByteArray.ext (Array.eq_empty_of_size_eq_zero e)))
   clear hp
   go_enter Tryz.func175,Tryz.ntmps175
   go_wp2
   go_ret
   exact GivesQ.no HP.out HG.out
 by_cases h7:k=7
 ·subst h7
  have hp:RightT 7 s n↔s=⟨#[]⟩∧n=0:=by unfold RightT;simp
  by_cases hs:s=⟨#[]⟩
  ·subst hs
   by_cases hn:n=0
   ·have HP:=Lh (hp.mpr ⟨rfl,hn⟩)
    subst hn
    clear hp
    go_enter Tryz.func175,Tryz.ntmps175
    go_wp2
    go_ret
    exact GivesQ.yes HP.out HG.out
   ·have HP:=Lh (fun h=>hn (hp.mp h).2)
    have hb:(n==0)=false:=by simpa using hn
    clear hp
    go_enter Tryz.func175,Tryz.ntmps175
    go_wp2
    go_ret
    exact GivesQ.no HP.out HG.out
  ·have HP:=Lh (fun h=>hs (hp.mp h).1)
   obtain⟨hsb,hsc⟩:=toList_empty (s:=s) (Nat.pos_of_ne_zero fun e=>hs (ByteArray.ext (Array.eq_empty_of_size_eq_zero e)))
   clear hp
   go_enter Tryz.func175,Tryz.ntmps175
   go_wp2
   go_ret
   exact GivesQ.no HP.out HG.out
 by_cases h8:k=8
 ·subst h8
  have hp:RightT 8 s n↔s=⟨#[]⟩∧n=0:=by unfold RightT;simp
  by_cases hs:s=⟨#[]⟩
  ·subst hs
   by_cases hn:n=0
   ·have HP:=Lh (hp.mpr ⟨rfl,hn⟩)
    subst hn
    clear hp
    go_enter Tryz.func175,Tryz.ntmps175
    go_wp2
    go_ret
    exact GivesQ.yes HP.out HG.out
   ·have HP:=Lh (fun h=>hn (hp.mp h).2)
    have hb:(n==0)=false:=by simpa using hn
    clear hp
    go_enter Tryz.func175,Tryz.ntmps175
    go_wp2
    go_ret
    exact GivesQ.no HP.out HG.out
  ·have HP:=Lh (fun h=>hs (hp.mp h).1)
   obtain⟨hsb,hsc⟩:=toList_empty (s:=s) (Nat.pos_of_ne_zero fun e=>hs (ByteArray.ext (Array.eq_empty_of_size_eq_zero e)))
   clear hp
   go_enter Tryz.func175,Tryz.ntmps175
   go_wp2
   go_ret
   exact GivesQ.no HP.out HG.out
 by_cases h9:k=9
 ·subst h9
  have hp:RightT 9 s n↔s=⟨#[]⟩∧n=0:=by unfold RightT;simp
  by_cases hs:s=⟨#[]⟩
  ·subst hs
   by_cases hn:n=0
   ·have HP:=Lh (hp.mpr ⟨rfl,hn⟩)
    subst hn
    clear hp
    go_enter Tryz.func175,Tryz.ntmps175
    go_wp2
    go_ret
    exact GivesQ.yes HP.out HG.out
   ·have HP:=Lh (fun h=>hn (hp.mp h).2)
    have hb:(n==0)=false:=by simpa using hn
    clear hp
    go_enter Tryz.func175,Tryz.ntmps175
    go_wp2
    go_ret
    exact GivesQ.no HP.out HG.out
  ·have HP:=Lh (fun h=>hs (hp.mp h).1)
   obtain⟨hsb,hsc⟩:=toList_empty (s:=s) (Nat.pos_of_ne_zero fun e=>hs (ByteArray.ext (Array.eq_empty_of_size_eq_zero e)))
   clear hp
   go_enter Tryz.func175,Tryz.ntmps175
   go_wp2
   go_ret
   exact GivesQ.no HP.out HG.out
 have HP:Hid (¬RightT k s n):=Lh (by unfold RightT;omega)
 have b0:(k==0)=false:=by simpa using h0
 have b1:(k==1)=false:=by simpa using h1
 have b2:(k==2)=false:=by simpa using h2
 have b3:(k==3)=false:=by simpa using h3
 have b4:(k==4)=false:=by simpa using h4
 have b5:(k==5)=false:=by simpa using h5
 have b6:(k==6)=false:=by simpa using h6
 have b7:(k==7)=false:=by simpa using h7
 have b8:(k==8)=false:=by simpa using h8
 have b9:(k==9)=false:=by simpa using h9
 clear h0 h1 h2 h3 h4 h5 h6 h7 h8 h9
 go_enter Tryz.func175,Tryz.ntmps175
 go_wp2
 go_ret
 exact GivesQ.no HP.out HG.out
theorem ptok_any (k:Int) (s:ByteArray) (n:Nat) (a b:Int) (w:World) (env:EnvQ w) (hm:s.size≤4294967296) (hn:n≤18446744073709551615) (hr:RightT k s (n:Int)):
  Calls Tryz.prog 156 #[.agg #[.int .i64 k, .string s, .int .u64 (n:Int), .int .i64 a, .int .i64 b]] w fun e w'=>e= .returned (.string (strOfNums (prT k s n)))∧Below w.heap.size w w':=by
 obtain⟨W0,hW0⟩: ∃W,w.alloc (.cells #[.int .i64 k, .string s, .int .u64 (n:Int), .int .i64 a, .int .i64 b] 89)=W:=⟨_,rfl⟩
 have V0:Var5 W0 w.heap.size (.int .i64 k) (.string s) (.int .u64 (n:Int)) (.int .i64 a) (.int .i64 b):=by rw[←hW0];exact Var5.fresh _ _ _ _ _ _ _ _ rfl
 have g0:Below w.heap.size w W0:=by rw[←hW0];exact(Mj _ _).alloc (Mz _) _
 have HENV:=Lh env
 have HG:=Lh g0
 have HV:=Lh V0
 have HRT:=Lh (pright_any k s (n:Int) a b W0 (env.lo.step g0) hm)
 obtain⟨c0,c1,c2,c3,c4,_,_⟩:=V0
 clear g0 env
 have HR:=Lh hr
 have HRR:=HR.out
 clear hr
 rcases HRR with⟨rfl,hN,h0⟩|⟨rfl,hN,hl,h0⟩|⟨rfl|rfl,rfl⟩|⟨rfl,rfl,h0⟩|⟨rfl,rfl,h0⟩|⟨rfl|rfl|rfl|rfl,rfl,h0⟩
 ·have hpr:prT 1 s n=nums s:=rfl
  have HST:=Lh (strOfNums_nums s)
  clear h0
  have HPR:=Lh hpr
  clear hpr
  go_enter Tryz.func156,Tryz.ntmps156
  go_wp2_with (first|(go_at_call 175;(with_reducible refine(HRT.out).mono ?_);rintro e w2 ⟨q,rfl,hq,h2⟩;obtain rfl:q=true:=hq.mpr HR.out;have V2:=Lh (HV.out.after h2);have G2:=Lh (below_step HG.out h2);have d0:=V2.out.c0;have d1:=V2.out.c1;have d2:=V2.out.c2;clear hq h2))
  go_ret
  exact⟨by rw[HPR.out,HST.out];rfl,G2.out⟩
 ·have hpr:prT 2 s n=quoteL (runesOf (nums s)):=rfl
  have HQU:=Lh (fun W (e:EnvQ W)=>tquote_fine s W e hm hN hl)
  clear h0
  have HPR:=Lh hpr
  clear hpr
  go_enter Tryz.func156,Tryz.ntmps156
  go_wp2_with (first|(go_at_call 175;(with_reducible refine(HRT.out).mono ?_);rintro e w2 ⟨q,rfl,hq,h2⟩;obtain rfl:q=true:=hq.mpr HR.out;have V2:=Lh (HV.out.after h2);have G2:=Lh (below_step HG.out h2);have d0:=V2.out.c0;have d1:=V2.out.c1;have d2:=V2.out.c2;clear hq h2)|(go_at_call 205;(with_reducible refine(HQU.out _ (HENV.out.step G2.out)).mono ?_);rintro e w3 ⟨rfl,h3⟩;have G3:=Lh (below_step G2.out h3);clear h3))
  go_ret
  exact⟨by rw[HPR.out];rfl,G3.out⟩
 ·have hpr:prT 3 ⟨#[]⟩ n=dec n:=rfl
  have HDC:=Lh (fun W=>pdec_any (n:Int) W (by omega) (by omega))
  rw[Int.toNat_natCast]at HDC
  have HPR:=Lh hpr
  clear hpr
  go_enter Tryz.func156,Tryz.ntmps156
  go_wp2_with (first|(go_at_call 175;(with_reducible refine(HRT.out).mono ?_);rintro e w2 ⟨q,rfl,hq,h2⟩;obtain rfl:q=true:=hq.mpr HR.out;have V2:=Lh (HV.out.after h2);have G2:=Lh (below_step HG.out h2);have d0:=V2.out.c0;have d1:=V2.out.c1;have d2:=V2.out.c2;clear hq h2)|(go_at_call 206;(with_reducible refine(HDC.out _).mono ?_);rintro e w3 ⟨rfl,h3⟩;have G3:=Lh (below_step G2.out h3);clear h3))
  go_ret
  exact⟨by rw[HPR.out];rfl,G3.out⟩
 ·have hpr:prT 4 ⟨#[]⟩ n=facP n:=rfl
  have HDC:=Lh (fun W=>pfac_any n W hn)
  have HPR:=Lh hpr
  clear hpr
  go_enter Tryz.func156,Tryz.ntmps156
  go_wp2_with (first|(go_at_call 175;(with_reducible refine(HRT.out).mono ?_);rintro e w2 ⟨q,rfl,hq,h2⟩;obtain rfl:q=true:=hq.mpr HR.out;have V2:=Lh (HV.out.after h2);have G2:=Lh (below_step HG.out h2);have d0:=V2.out.c0;have d1:=V2.out.c1;have d2:=V2.out.c2;clear hq h2)|(go_at_call 207;(with_reducible refine(HDC.out _).mono ?_);rintro e w3 ⟨rfl,h3⟩;have G3:=Lh (below_step G2.out h3);clear h3))
  go_ret
  exact⟨by rw[HPR.out];rfl,G3.out⟩
 ·have hpr:prT 5 ⟨#[]⟩ n=pct n:=rfl
  have hwn:IntKind.u32.wrap (n:Int)=(n:Int):=by rw[IntKind.wrap_u32];omega
  have HPP:=Lh (fun W=>pprint_any (n:Int) W (by omega) h0)
  rw[Int.toNat_natCast]at HPP
  have HPR:=Lh hpr
  clear hpr
  go_enter Tryz.func156,Tryz.ntmps156
  go_wp2_with (first|(go_at_call 175;(with_reducible refine(HRT.out).mono ?_);rintro e w2 ⟨q,rfl,hq,h2⟩;obtain rfl:q=true:=hq.mpr HR.out;have V2:=Lh (HV.out.after h2);have G2:=Lh (below_step HG.out h2);have d0:=V2.out.c0;have d1:=V2.out.c1;have d2:=V2.out.c2;clear hq h2)|(go_at_call 208;(with_reducible refine(HPP.out _).mono ?_);rintro e w3 ⟨rfl,h3⟩;have G3:=Lh (below_step G2.out h3);clear h3))
  go_ret
  exact⟨by rw[HPR.out];rfl,G3.out⟩
 ·have hpr:prT 6 ⟨#[]⟩ n=spn n:=rfl
  have hwn:IntKind.i64.wrap (n:Int)=(n:Int):=by rw[IntKind.wrap_i64];omega
  have HPP:=Lh (fun W (e:EnvQ W)=>spprint_any (n:Int) W (by omega) h0 e.tab)
  rw[Int.toNat_natCast]at HPP
  have HPR:=Lh hpr
  clear hpr
  go_enter Tryz.func156,Tryz.ntmps156
  go_wp2_with (first|(go_at_call 175;(with_reducible refine(HRT.out).mono ?_);rintro e w2 ⟨q,rfl,hq,h2⟩;obtain rfl:q=true:=hq.mpr HR.out;have V2:=Lh (HV.out.after h2);have G2:=Lh (below_step HG.out h2);have d0:=V2.out.c0;have d1:=V2.out.c1;have d2:=V2.out.c2;clear hq h2)|(go_at_call 209;(with_reducible refine(HPP.out _ (HENV.out.step G2.out)).mono ?_);rintro e w3 ⟨rfl,h3⟩;have G3:=Lh (below_step G2.out h3);clear h3))
  go_ret
  exact⟨by rw[HPR.out];rfl,G3.out⟩
 ·have hpr:prT 0 ⟨#[]⟩ n= []:=rfl
  clear h0
  have HPR:=Lh hpr
  clear hpr
  go_enter Tryz.func156,Tryz.ntmps156
  go_wp2_with (first|(go_at_call 175;(with_reducible refine(HRT.out).mono ?_);rintro e w2 ⟨q,rfl,hq,h2⟩;obtain rfl:q=true:=hq.mpr HR.out;have V2:=Lh (HV.out.after h2);have G2:=Lh (below_step HG.out h2);have d0:=V2.out.c0;have d1:=V2.out.c1;have d2:=V2.out.c2;clear hq h2))
  go_ret
  exact⟨by rw[HPR.out];rfl,G2.out⟩
 ·have hpr:prT 7 ⟨#[]⟩ n= [123]:=rfl
  clear h0
  have HPR:=Lh hpr
  clear hpr
  go_enter Tryz.func156,Tryz.ntmps156
  go_wp2_with (first|(go_at_call 175;(with_reducible refine(HRT.out).mono ?_);rintro e w2 ⟨q,rfl,hq,h2⟩;obtain rfl:q=true:=hq.mpr HR.out;have V2:=Lh (HV.out.after h2);have G2:=Lh (below_step HG.out h2);have d0:=V2.out.c0;have d1:=V2.out.c1;have d2:=V2.out.c2;clear hq h2))
  go_ret
  exact⟨by rw[HPR.out];rfl,G2.out⟩
 ·have hpr:prT 8 ⟨#[]⟩ n= [125]:=rfl
  clear h0
  have HPR:=Lh hpr
  clear hpr
  go_enter Tryz.func156,Tryz.ntmps156
  go_wp2_with (first|(go_at_call 175;(with_reducible refine(HRT.out).mono ?_);rintro e w2 ⟨q,rfl,hq,h2⟩;obtain rfl:q=true:=hq.mpr HR.out;have V2:=Lh (HV.out.after h2);have G2:=Lh (below_step HG.out h2);have d0:=V2.out.c0;have d1:=V2.out.c1;have d2:=V2.out.c2;clear hq h2))
  go_ret
  exact⟨by rw[HPR.out];rfl,G2.out⟩
 ·have hpr:prT 9 ⟨#[]⟩ n= [59]:=rfl
  clear h0
  have HPR:=Lh hpr
  clear hpr
  go_enter Tryz.func156,Tryz.ntmps156
  go_wp2_with (first|(go_at_call 175;(with_reducible refine(HRT.out).mono ?_);rintro e w2 ⟨q,rfl,hq,h2⟩;obtain rfl:q=true:=hq.mpr HR.out;have V2:=Lh (HV.out.after h2);have G2:=Lh (below_step HG.out h2);have d0:=V2.out.c0;have d1:=V2.out.c1;have d2:=V2.out.c2;clear hq h2))
  go_ret
  exact⟨by rw[HPR.out];rfl,G2.out⟩
end
section
abbrev nObjective:ByteArray:=⟨#[111,98,106,101,99,116,105,118,101]⟩
abbrev nNotify:ByteArray:=⟨#[110,111,116,105,102,121]⟩
abbrev nTarget:ByteArray:=⟨#[116,97,114,103,101,116]⟩
abbrev nGrain:ByteArray:=⟨#[103,114,97,105,110]⟩
abbrev nLate:ByteArray:=⟨#[108,97,116,101]⟩
abbrev nRolling:ByteArray:=⟨#[114,111,108,108,105,110,103]⟩
abbrev nCalendar:ByteArray:=⟨#[99,97,108,101,110,100,97,114]⟩
abbrev nLabel:ByteArray:=⟨#[108,97,98,101,108]⟩
abbrev nRule:ByteArray:=⟨#[114,117,108,101]⟩
abbrev nLong:ByteArray:=⟨#[108,111,110,103]⟩
abbrev nShort:ByteArray:=⟨#[115,104,111,114,116]⟩
abbrev nFactor:ByteArray:=⟨#[102,97,99,116,111,114]⟩
abbrev nFor:ByteArray:=⟨#[102,111,114]⟩
abbrev nKeep:ByteArray:=⟨#[107,101,101,112]⟩
abbrev nRoom:ByteArray:=⟨#[114,111,111,109]⟩
abbrev nReserve:ByteArray:=⟨#[114,101,115,101,114,118,101]⟩
abbrev nFirst:ByteArray:=⟨#[102,105,114,115,116]⟩
abbrev nCap:ByteArray:=⟨#[99,97,112]⟩
abbrev nRepeat:ByteArray:=⟨#[114,101,112,101,97,116]⟩
abbrev nMonth:ByteArray:=⟨#[109,111,110,116,104]⟩
abbrev nQuarter:ByteArray:=⟨#[113,117,97,114,116,101,114]⟩
abbrev nPage:ByteArray:=⟨#[112,97,103,101]⟩
abbrev nTicket:ByteArray:=⟨#[116,105,99,107,101,116]⟩
structure Spc where
 name:ByteArray
 kinds:List Int
 block:Bool
 most:Nat
 lo:Int
 hi:Int
def specsL:Nat→List Spc
 |0=> [⟨nObjective,[1],true,6,0,0⟩,⟨nNotify,[],true,1,0,0⟩]
 |1=> [⟨nTarget,[5],false,1,1,999999⟩,⟨nGrain,[6],false,1,1,86400⟩,⟨nLate,[6],false,1,0,86400⟩,⟨nRolling,[6],false,1,1,34560000⟩,⟨nCalendar,[1],false,1,0,0⟩,⟨nLabel,[1,2],false,4,0,0⟩,⟨nRule,[1,1],true,4,0,0⟩]
 |2=> [⟨nLong,[6],false,1,1,34560000⟩,⟨nShort,[6],false,1,1,34560000⟩,⟨nFactor,[4],false,1,1,1000000⟩,⟨nFor,[6],false,1,0,604800⟩,⟨nKeep,[6],false,1,0,604800⟩]
 |_=> [⟨nRoom,[3],false,1,1,64⟩,⟨nReserve,[3],false,1,0,64⟩,⟨nFirst,[6],false,1,1,86400⟩,⟨nCap,[6],false,1,1,604800⟩,⟨nRepeat,[6],false,1,0,2592000⟩]
def findS (wh:Nat) (n:ByteArray):Option Spc:=(specsL wh).find? (fun p=>p.name=n)
def It.w0 (x:It):Tk3:=x.words.getD 0 {}
def It.w1 (x:It):Tk3:=x.words.getD 1 {}
def kindsS (n:ByteArray):List Int→List Tk3→Prop
 | [],[]=>True
 |k::ks,t::ts=>(t.k=k∨(n=nFactor∧t.k=3))∧kindsS n ks ts
 |_,_=>False
instance kindsS.dec (n:ByteArray): ∀(ks:List Int) (ts:List Tk3),Decidable (kindsS n ks ts)
 | [],[]=>isTrue trivial
 |k::ks,t::ts=>by unfold kindsS;exact @instDecidableAnd _ _ _ (kindsS.dec n ks ts)
 | [],_::_=>isFalse (fun h=>h)
 |_::_,[]=>isFalse (fun h=>h)
def FormS (p:Spc) (x:It):Prop:=
 x.block=p.block∧kindsS p.name p.kinds x.words∧(p.name=nCalendar→x.w0.s=nMonth∨x.w0.s=nQuarter)∧(p.name=nRule→x.w1.s=nPage∨x.w1.s=nTicket)
instance (p:Spc) (x:It):Decidable (FormS p x):=by unfold FormS;infer_instance
def numS (x:It):Int:=if x.words.length=0 then 0 else if x.name=nFactor∧x.w0.k=3 then(if 1000000<x.w0.n then x.w0.n else 1000*x.w0.n)else x.w0.n
def KnownS (p:Spc) (cs:List It) (x:It):Prop:= ∃c∈cs,c.name=x.name∧(p.most=1∨c.w0.s=x.w0.s)
instance (p:Spc) (cs:List It) (x:It):Decidable (KnownS p cs x):=by unfold KnownS;infer_instance
def manyS (cs:List It) (n:ByteArray):Nat:=(cs.filter (fun c=>c.name=n)).length
def codeS (wh:Nat) (cs:List It) (x:It):Int:=
 match findS wh x.name with
 |none=>7
 |some p=>if¬FormS p x then 6 else if KnownS p cs x then 18 else if p.most≤manyS cs x.name then 9 else if p.most=1∧(numS x<p.lo∨p.hi<numS x)then 8 else 0
abbrev Flt:=Int×Int×Int
def stepS (wh:Nat) (sub:It→List Flt) (r:List It×List Flt) (x:It):List It×List Flt:=
 if codeS wh r.1 x=0 then(r.1++ [x],r.2++sub x)else(r.1,r.2++ [(codeS wh r.1 x,x.a,x.b)])
def lookS (wh:Nat) (sub:It→List Flt) (l:List It):List It×List Flt:=l.foldl (stepS wh sub) ([],[])
def getS:List It→ByteArray→Int→Int
 | [],_,o=>o
 |c::cs,n,o=>if c.name=n then numS c else getS cs n o
def hasS:List It→ByteArray→Bool
 | [],_=>false
 |c::cs,n=>if c.name=n then true else hasS cs n
def sub2:It→List Flt:=fun _=> []
def ruleK (x:It):List It:=(lookS 2 sub2 x.kids).1
def wholeR (x:It) (k:List It):List Flt:=
 if hasS k nLong=false∨hasS k nShort=false∨hasS k nFactor=false then [(6,x.a,x.b)]else if getS k nLong 0<getS k nShort 0 then [(8,x.a,x.b)]else []
def subG (x:It):List Flt:=if x.name=nRule then(lookS 2 sub2 x.kids).2++wholeR x (ruleK x)else []
def goalK (x:It):List It:=(lookS 1 subG x.kids).1
def OffS (grain:Int) (x:It):Prop:=getS (ruleK x) nLong 0%grain≠0∨getS (ruleK x) nShort 0%grain≠0
instance (grain:Int) (x:It):Decidable (OffS grain x):=by unfold OffS;infer_instance
def offsS (grain:Int):List It→List Flt
 | []=> []
 |x::k=>(if x.name=nRule∧OffS grain x then [(8,x.a,x.b)]else [])++offsS grain k
def wholeG (x:It) (k:List It):List Flt:=
 (if hasS k nTarget=false∨hasS k nRule=false then [(6,x.a,x.b)]else [])++(offsS (getS k nGrain 60) k++(if getS k nRolling 0%getS k nGrain 60≠0 then [(8,x.a,x.b)]else []))
def notK (x:It):List It:=(lookS 3 sub2 x.kids).1
def wholeN (x:It) (k:List It):List Flt:=if getS k nRoom 16<getS k nReserve 0∨getS k nCap 300<getS k nFirst 10 then [(8,x.a,x.b)]else []
def subT (x:It):List Flt:=
 if x.name=nObjective then(lookS 1 subG x.kids).2++wholeG x (goalK x)else if x.name=nNotify then(lookS 3 sub2 x.kids).2++wholeN x (notK x)else []
structure RlC where
 name:ByteArray
 page:Bool
 long:Int
 short:Int
 factor:Int
 hold:Int
 keep:Int
structure GlC where
 name:ByteArray
 target:Int
 grain:Int
 late:Int
 rolling:Int
 cal:Int
 labels:List (ByteArray×ByteArray)
 rules:List RlC
structure CfC where
 goals:List GlC
 room:Int
 reserve:Int
 first:Int
 cap:Int
 again:Int
def ruleB (x:It) (k:List It):RlC:=⟨x.w0.s,decide (x.w1.s=nPage),getS k nLong 0,getS k nShort 0,getS k nFactor 0,getS k nFor 0,getS k nKeep 0⟩
def ruleC (x:It):RlC:=ruleB x (ruleK x)
def calC:List It→Int→Int
 | [],c=>c
 |x::k,c=>calC k (if x.name=nCalendar then(if x.w0.s=nMonth then 1 else 2)else c)
def labC:List It→List (ByteArray×ByteArray)
 | []=> []
 |x::k=>(if x.name=nLabel then [(x.w0.s,x.w1.s)]else [])++labC k
def rulC:List It→List RlC
 | []=> []
 |x::k=>(if x.name=nRule then [ruleC x]else [])++rulC k
def goalB (name:ByteArray) (k:List It):GlC:=⟨name,getS k nTarget 0,getS k nGrain 60,getS k nLate 0,getS k nRolling 0,calC k 0,labC k,rulC k⟩
def goalC (x:It):GlC:=goalB x.w0.s (goalK x)
def golC:List It→List GlC
 | []=> []
 |x::k=>(if x.name=nObjective then [goalC x]else [])++golC k
def notC:List It→List It→List It
 | [],n=>n
 |x::k,n=>notC k (if x.name=nObjective then n else notK x)
def confB (gs:List GlC) (n:List It):CfC:=⟨gs,getS n nRoom 16,getS n nReserve 0,getS n nFirst 10,getS n nCap 300,getS n nRepeat 0⟩
def confC (L:List It):CfC:=confB (golC (lookS 0 subT L).1) (notC (lookS 0 subT L).1 [])
end
section
open Go.RowKit
structure VarL (w:World) (p:Nat) (l:List Value):Prop where
 at': ∀i v,l[i]?=some v→w.cell? ⟨p,i,none⟩=some v∧w.frozen? ⟨p,i,none⟩=false
 s:p<w.heap.size
theorem VarL.c {w:World} {p:Nat} {l:List Value} (h:VarL w p l) (i:Nat) {v:Value} (e:l[i]?=some v):w.cell? ⟨p,i,none⟩=some v:=(h.at' i v e).1
theorem VarL.q {w:World} {p:Nat} {l:List Value} (h:VarL w p l) (i:Nat) {v:Value} (e:l[i]?=some v):w.frozen? ⟨p,i,none⟩=false:=(h.at' i v e).2
theorem VarL.stay {w w':World} {p:Nat} {l:List Value} (h:VarL w p l) (e:w'.heap[p]?=w.heap[p]?):VarL w' p l:=
 ⟨fun i v hi=>⟨(Kk (a:=⟨p,i,none⟩) e).trans (h.c i hi),(World.frozen?_of_block (a:=⟨p,i,none⟩) e).trans (h.q i hi)⟩,by
  have h1:=(Array.getElem?_eq_some_iff (xs:=w.heap) (i:=p) (b:=w.heap[p]'h.s)).mpr ⟨h.s,rfl⟩
  rw[←e]at h1
  exact(Array.getElem?_eq_some_iff.1 h1).1⟩
theorem VarL.after {w w':World} {p:Nat} {l:List Value} (h:VarL w p l) (hb:Below w.heap.size w w'):VarL w' p l:=h.stay (hb.block p h.s)
theorem lset_else (w:World) (p:Nat) (i:Nat) (v:Value) (b:Nat) (h:b≠p):(w.setCell ⟨p,i,none⟩ v).heap[b]?=w.heap[b]?:=RowKit.Below.heap_setCell w ⟨p,i,none⟩ v b (fun e=>h e)
theorem VarL.set {w:World} {p:Nat} {l:List Value} (h:VarL w p l) (i:Nat) (x:Value) (hi:i<l.length):VarL (w.setCell ⟨p,i,none⟩ x) p (l.set i x):=by
 refine⟨fun j v hj=>?_,by simpa using h.s⟩
 rw[World.frozen?_setCell]
 by_cases hij:i=j
 ·subst hij
  rw[List.getElem?_set_self hi]at hj
  injection hj with hj
  subst hj
  have e:=h.c i (Kh hi)
  exact⟨World.cell?_setCell_same' _ _ _ (by rw[e];rfl),h.q i (Kh hi)⟩
 ·rw[List.getElem?_set_ne hij]at hj
  refine⟨?_,h.q j hj⟩
  have hne:(⟨p,i,none⟩:Addr)≠⟨p,j,none⟩:=fun e=>hij (by injection e)
  exact(World.cell?_setCell_other w _ _ _ hne).trans (h.c j hj)
theorem VarL.fresh (w:World) (l:List Value) (t:TypeId):VarL (w.alloc (.cells l.toArray t)) w.heap.size l:=by
 refine⟨fun i v hi=>⟨?_,by simp[go_sem]⟩,by simp⟩
 rw[World.cell?_alloc_new]
 simpa using hi
def putL (p:Nat):Nat→List Value→World→World
 |_,[],w=>w
 |i,x::xs,w=>putL p (i+1) xs (w.setCell ⟨p,i,none⟩ x)
theorem putL_else (p:Nat): ∀(xs:List Value) (i:Nat) (w:World) (b:Nat),b≠p→(putL p i xs w).heap[b]?=w.heap[b]?
 | [],_,_,_,_=>rfl
 |x::xs,i,w,b,h=>by rw[putL,putL_else p xs _ _ b h,lset_else _ _ _ _ _ h]
theorem putL_size (p:Nat): ∀(xs:List Value) (i:Nat) (w:World),(putL p i xs w).heap.size=w.heap.size
 | [],_,_=>rfl
 |x::xs,i,w=>by rw[putL,putL_size p xs];simp
theorem putL_below (p:Nat) {n:Nat} (hn:n≤p): ∀(xs:List Value) (i:Nat) {w w':World},Below n w w'→Below n w (putL p i xs w')
 | [],_,_,_,h=>h
 |x::xs,i,_,_,h=>putL_below p hn xs (i+1) (h.setCell (p:=⟨p,i,none⟩) hn x)
theorem putL_var {p:Nat} : ∀(xs ys zs:List Value) (w:World),VarL w p (ys++zs)→zs.length=xs.length→VarL (putL p ys.length xs w) p (ys++xs)
 | [],ys,zs,w,h,hl=>by
  obtain rfl:zs= []:=List.eq_nil_of_length_eq_zero (by simpa using hl)
  exact h
 |x::xs,ys,z::zs,w,h,hl=>by
  rw[putL]
  have h1:=h.set ys.length x (by simp)
  have e:(ys++z::zs).set ys.length x=(ys++ [x])++zs:=by rw[List.set_append_right _ _ (Mz _)];simp
  rw[e]at h1
  have:=putL_var xs (ys++ [x]) zs _ h1 (by simpa using hl)
  rw[Kq,List.length_singleton,List.append_assoc]at this
  exact this
 |_::_,_,[],_,_,hl=>by cases hl
theorem boxL (w:World) (xs:List Value) (t:TypeId): ∃g W,w.heap.size=g∧w.alloc (.cells xs.toArray t)=W∧VarL W g xs∧Below w.heap.size w W∧W.heap.size=g+1:=
 ⟨w.heap.size,_,rfl,rfl,VarL.fresh w xs t,(Mj _ _).alloc (Mz _) _,by simp⟩
structure Frm (O:Foot) (w w':World):Prop where
 os:w'.os=w.os
 tape:w'.tape=w.tape
 output:w'.output=w.output
 size:w.heap.size≤w'.heap.size
 keep: ∀i,i<w.heap.size→¬O i→w'.heap[i]?=w.heap[i]?
end
section
open Go.RowKit
def WordsIs (w:World) (S:Nat→Prop) (v:Value) (l:List Tk3):Prop:=
 ∃a cap,v= .slice a l.length cap∧l.length≤cap∧∀i,i<l.length→∃b off,a=some ⟨b,off,none⟩∧S b∧w.cell? ⟨b,off+i*5,none⟩=some (.int .i64 (l.getD i {}).k)∧w.cell? ⟨b,off+i*5+1,none⟩=some (.string (l.getD i {}).s)∧
  w.cell? ⟨b,off+i*5+2,none⟩=some (.int .u64 (l.getD i {}).n)∧w.cell? ⟨b,off+i*5+3,none⟩=some (.int .i64 (l.getD i {}).a)∧w.cell? ⟨b,off+i*5+4,none⟩=some (.int .i64 (l.getD i {}).b)
def ItemsIs:Nat→World→(Nat→Prop)→Value→List It→Prop
 |0,_,_,v,L=>L= []∧∃a cap,v= .slice a 0 cap
 |d+1,w,S,v,L=> ∃a cap,v= .slice a L.length cap∧L.length≤cap∧∀i,i<L.length→∃b off wv kv,a=some ⟨b,off,none⟩∧S b∧w.cell? ⟨b,off+i*6,none⟩=some (.string (L.getD i default).name)∧w.cell? ⟨b,off+i*6+1,none⟩=some wv∧
   w.cell? ⟨b,off+i*6+2,none⟩=some (.bool (L.getD i default).block)∧w.cell? ⟨b,off+i*6+3,none⟩=some kv∧w.cell? ⟨b,off+i*6+4,none⟩=some (.int .i64 (L.getD i default).a)∧w.cell? ⟨b,off+i*6+5,none⟩=some (.int .i64 (L.getD i default).b)∧
   WordsIs w S wv (L.getD i default).words∧ItemsIs d w S kv (L.getD i default).kids
theorem WordsIs.keep {w w':World} {S S':Nat→Prop} {v:Value} {l:List Tk3} (h:WordsIs w S v l) (hs: ∀b,S b→S' b) (hw: ∀b,S b→w'.heap[b]?=w.heap[b]?):WordsIs w' S' v l:=by
 obtain⟨a,cap,rfl,hc,hcell⟩:=h
 refine⟨a,cap,rfl,hc,fun i hi=>?_⟩
 obtain⟨b,off,rfl,hb,h0,h1,h2,h3,h4⟩:=hcell i hi
 have e:=hw b hb
 exact⟨b,off,rfl,hs b hb,(Kk (a:=⟨b,off+i*5,none⟩) e).trans h0,(Kk (a:=⟨b,off+i*5+1,none⟩) e).trans h1,(Kk (a:=⟨b,off+i*5+2,none⟩) e).trans h2,
  (Kk (a:=⟨b,off+i*5+3,none⟩) e).trans h3,(Kk (a:=⟨b,off+i*5+4,none⟩) e).trans h4⟩
theorem ItemsIs.keep: ∀ {d:Nat} {w w':World} {S S':Nat→Prop} {v:Value} {L:List It},ItemsIs d w S v L→(∀b,S b→S' b)→(∀b,S b→w'.heap[b]?=w.heap[b]?)→ItemsIs d w' S' v L
 |0,_,_,_,_,_,_,h,_,_=>h
 |d+1,w,w',S,S',v,L,h,hs,hw=>by
  obtain⟨a,cap,rfl,hc,hcell⟩:=h
  refine⟨a,cap,rfl,hc,fun i hi=>?_⟩
  obtain⟨b,off,wv,kv,rfl,hb,h0,h1,h2,h3,h4,h5,hwd,hk⟩:=hcell i hi
  have e:=hw b hb
  exact⟨b,off,wv,kv,rfl,hs b hb,(Kk (a:=⟨b,off+i*6,none⟩) e).trans h0,(Kk (a:=⟨b,off+i*6+1,none⟩) e).trans h1,(Kk (a:=⟨b,off+i*6+2,none⟩) e).trans h2,
   (Kk (a:=⟨b,off+i*6+3,none⟩) e).trans h3,(Kk (a:=⟨b,off+i*6+4,none⟩) e).trans h4,(Kk (a:=⟨b,off+i*6+5,none⟩) e).trans h5,hwd.keep hs hw,ItemsIs.keep hk hs hw⟩
theorem ItemsIs.size {d:Nat} {w:World} {S:Nat→Prop} {v:Value} {L:List It} (h:ItemsIs d w S v L): ∃a cap,v= .slice a L.length cap:=by
 cases d with
 |zero=>obtain⟨rfl,a,cap,rfl⟩:=h;exact⟨a,cap,rfl⟩
 |succ d=>obtain⟨a,cap,rfl,_⟩:=h;exact⟨a,cap,rfl⟩
theorem WordsIs.size {w:World} {S:Nat→Prop} {v:Value} {l:List Tk3} (h:WordsIs w S v l): ∃a cap,v= .slice a l.length cap:=by
 obtain⟨a,cap,rfl,_⟩:=h;exact⟨a,cap,rfl⟩
theorem ItemsIs.at {d:Nat} {w:World} {S:Nat→Prop} {a:Option Addr} {n cap:Nat} {L:List It} (h:ItemsIs d w S (.slice a n cap) L) (i:Nat) (hi:i<L.length): ∃d',d=d'+1∧∃b off wv kv,a=some ⟨b,off,none⟩∧S b∧w.cell? ⟨b,off+i*6,none⟩=some (.string (L.getD i default).name)∧w.cell? ⟨b,off+i*6+1,none⟩=some wv∧
   w.cell? ⟨b,off+i*6+2,none⟩=some (.bool (L.getD i default).block)∧w.cell? ⟨b,off+i*6+3,none⟩=some kv∧w.cell? ⟨b,off+i*6+4,none⟩=some (.int .i64 (L.getD i default).a)∧w.cell? ⟨b,off+i*6+5,none⟩=some (.int .i64 (L.getD i default).b)∧
   WordsIs w S wv (L.getD i default).words∧ItemsIs d' w S kv (L.getD i default).kids:=by
 cases d with
 |zero=>obtain⟨rfl,_⟩:=h;cases hi
 |succ d=>
  obtain⟨a',cap',he,hc,hcell⟩:=h
  injection he with e1 e2 e3
  subst e1
  exact⟨d,rfl,hcell i hi⟩
def cntK (L:List It):Nat→Nat
 |0=>0
 |i+1=>cntK L i+1+cntL (L.getD i default).kids
def depK (L:List It):Nat→Nat
 |0=>0
 |i+1=>max (depK L i) (1+depL (L.getD i default).kids)
theorem cntK_cons (x:It) (L:List It): ∀i,cntK (x::L) (i+1)=1+cntL x.kids+cntK L i
 |0=>by simp[cntK]
 |i+1=>by
  rw[cntK,cntK_cons x L i,cntK]
  simp only[List.getD_cons_succ]
  omega
theorem depK_cons (x:It) (L:List It): ∀i,depK (x::L) (i+1)=max (1+depL x.kids) (depK L i)
 |0=>by simp[depK]
 |i+1=>by
  rw[depK,depK_cons x L i,depK]
  simp only[List.getD_cons_succ]
  omega
theorem cntK_all: ∀L:List It,cntK L L.length=cntL L
 | []=>by simp[cntK,cntL]
 | .mk n w k kids a b::L=>by
  rw[Jq,cntK_cons,cntK_all L,cntL];rfl
theorem depK_all: ∀L:List It,depK L L.length=depL L
 | []=>by simp[depK,depL]
 | .mk n w k kids a b::L=>by
  rw[Jq,depK_cons,depK_all L,depL];rfl
theorem cntK_mono (L:List It) {i j:Nat} (h:i≤j):cntK L i≤cntK L j:=by
 induction j with
 | zero => obtain rfl : i = 0 := by omega
           exact Mz _
 |succ j ih=>
  by_cases e:i=j+1
  ·rw[e];exact Mz _
  ·have:=ih (by omega);rw[cntK];omega
theorem depK_mono (L:List It) {i j:Nat} (h:i≤j):depK L i≤depK L j:=by
 induction j with
 | zero => obtain rfl : i = 0 := by omega
           exact Mz _
 |succ j ih=>
  by_cases e:i=j+1
  ·rw[e];exact Mz _
  ·have:=ih (by omega);rw[depK];omega
theorem len_cnt: ∀L:List It,L.length≤cntL L
 | []=>by simp
 | .mk n w k kids a b::L=>by
  have:=len_cnt L
  simp only[Jq,cntL];omega
def AllW:List It→Prop
 | []=>True
 | .mk _ w _ kids _ _::l=>w.length≤1000000000∧AllW kids∧AllW l
end
section
open Go.RowKit
end
section
open Go.RowKit
def CellsAt (sz:Nat) (w:World) (a:Option Addr) (ys:List (List Value)):Prop:=
 (∀u∈ys,u.length=sz)∧∀i,i<ys.length→∃b off,a=some ⟨b,off,none⟩∧∀j,j<sz→w.cell? ⟨b,off+i*sz+j,none⟩=some ((ys.getD i []).getD j undef)
theorem add_plainK (b off n:Nat):(⟨b,off,none⟩:Addr).add n=⟨b,off+n,none⟩:=by unfold Addr.add;split<;>simp_all
theorem flatten_len {sz:Nat} : ∀(ys:List (List Value)),(∀u∈ys,u.length=sz)→ys.flatten.length=ys.length*sz
 | [],_=>by simp
 |u::ys,h=>by
  rw[List.flatten_cons,Kq,h u (List.mem_cons_self ..),flatten_len ys (fun x hx=>h x (List.mem_cons_of_mem _ hx)),Jq,Nat.add_mul]
  omega
theorem CellsAt.flat {sz:Nat} {w:World} {b off:Nat} {ys:List (List Value)} (h:CellsAt sz w (some ⟨b,off,none⟩) ys) (hsz:0<sz): ∀j u,ys.flatten[j]?=some u→w.cell? ((⟨b,off,none⟩:Addr).add j)=some u:=fun j u hj=>by
 have hlt:=(List.getElem?_eq_some_iff.1 hj).1
 rw[flatten_len ys h.1]at hlt
 have hi:j/sz<ys.length:=Nat.div_lt_of_lt_mul (by rw[Nat.mul_comm];exact hlt)
 have hk:j%sz<sz:=Nat.mod_lt _ hsz
 obtain⟨b',off',e,hc⟩:=h.2 (j/sz) hi
 injection e with e
 injection e with e1 e2
 subst e1 e2
 have hx:=hc (j%sz) hk
 have hg:=getD_flatten ys (j/sz) (j%sz) h.1 hi hk
 have ej:j/sz*sz+j%sz=j:=by rw[Nat.mul_comm];exact Nat.div_add_mod j sz
 rw[ej]at hg
 rw[hg]at hj
 injection hj with hj
 have e2:off+j/sz*sz+j%sz=off+j:=by omega
 rw[e2]at hx
 rw[add_plainK,←hj]
 exact hx
theorem run_rowKs {w:World} {T t:TypeId} {z:Value} {sz bts:Nat} (hT:Tryz.prog.underlying T=some (.slice t)) (hinf:(Tryz.prog.info? t).map (fun i=>(i.zero,i.size,i.bytes))=some (some z,sz,bts)) (hzs:z.cells.size=sz) (hsz:0<sz) (hbt:bts≤128)
  (base:Nat) (v:Value) (vs:List (List Value)) (hown:RowK t sz w base v vs) (a:Option Addr) (c:Nat) (ys:List (List Value)) (hcell:CellsAt sz w a ys) (hy: ∀u∈ys,∀x∈u,x.oneCell'=true) (hlen:vs.length+ys.length≤1000000) (hbase:base≤w.heap.size) (ty:TypeId):
  ∃v' w',(Builtin.append_ #[T,T] ty #[v, .slice a ys.length c]).run Tryz.prog w= .ok v' w'∧RowK t sz w' base v' (vs++ys)∧OnlyO base (fun i=>some i=v.ownBlock) w w'∧(v'.ownBlock=v.ownBlock∨v'.ownBlock=some w.heap.size):=by
 obtain⟨i0,hi,hz0,hz1,hz2⟩:=info_parts hinf
 cases a with
 |some ad=>
  obtain⟨b,off,sp⟩:=ad
  have hby:(vs.length+ys.length)*bts≤1000000*128:=Nat.mul_le_mul hlen hbt
  have hnews: ∀j u,ys.flatten[j]?=some u→w.cell? ((⟨b,off,sp⟩:Addr).add j)=some u:=by
   cases ys with
   |nil=>intro j u hj;simp at hj
   |cons y ys=>
    obtain⟨b',off',e,_⟩:=hcell.2 0 (by simp)
    injection e with e
    injection e with e1 e2 e3
    subst e3
    exact hcell.flat hsz
  obtain⟨v',w',hr,h2,h3,h4,h5⟩:=run_append_own_at (P:=Tryz.prog) w base T ty t i0 z sz bts hT hi hz0 hz1 hz2 hzs hsz v vs.length vs.flatten hown.own ⟨b,off,sp⟩ ys.length c ys.flatten (flatten_len ys hcell.1) hnews
   (fun u hu=>by obtain⟨y,hy1,hy2⟩:=List.mem_flatten.mp hu;exact hy y hy1 u hy2) (by unfold maxLen;omega) (by omega) hbase
  refine⟨v',w',hr,⟨?_,fun u hm=>?_,fun u hm=>?_⟩,⟨(Mj base w).grown h3 hbase (fun b hk=>(hown.lt hk).1),fun i hi hne=>h3.block i hi hne⟩,h5⟩
  ·rw[Kq,List.flatten_append]
   exact h2
  ·rcases List.mem_append.mp hm with hm|hm
   ·exact hown.wid u hm
   ·exact hcell.1 u hm
  ·rcases List.mem_append.mp hm with hm|hm
   ·exact hown.one u hm
   ·exact hy u hm
 |none=>
  have h0:ys= []:=by
   cases ys with
   |nil=>rfl
   |cons y ys=>obtain⟨b',off',e,_⟩:=hcell.2 0 (by simp);cases e
  subst h0
  refine⟨v,w,?_,by rw[List.append_nil];exact hown,⟨Mj _ _,fun _ _ _=>rfl⟩,Or.inl rfl⟩
  rcases hown.own.2 with⟨rfl,hn⟩|⟨g,cap,cur,rfl,_,hg,hnc,_,_,_⟩
  ·simp[Builtin.append_,run_underlying hT,sizeOf,typeInfo,hi,Builtin.lenOf,Builtin.firstCells]
  ·simp[Builtin.append_,run_underlying hT,sizeOf,typeInfo,hi,Builtin.lenOf,hnc,Builtin.firstCells,loadCells,storeCells]
theorem wp_rowKs {w:World} {ops:Array Oper} {rest:List Oper} {o:Oper} {a:Act} {Q:Exit→Act→World→Prop} {T t:TypeId} {z:Value} {sz bts:Nat} (hgd:o.guard=none) (s x:Operand)
  (ho:o.op= .call { callee:= .builtin .append,args:= #[s,x],argTypes:= #[T,T] }) (hT:Tryz.prog.underlying T=some (.slice t)) (hinf:(Tryz.prog.info? t).map (fun i=>(i.zero,i.size,i.bytes))=some (some z,sz,bts)) (hzs:z.cells.size=sz) (hsz:0<sz) (hbt:bts≤128)
  (base:Nat) (v:Value) (vs:List (List Value)) (hs:a.eval s=v) (hown:RowK t sz w base v vs) (ad:Option Addr) (n c:Nat) (ys:List (List Value)) (hx:a.eval x= .slice ad n c) (hn:n=ys.length) (hcell:CellsAt sz w ad ys) (hy: ∀u∈ys,∀x∈u,x.oneCell'=true)
  (hlen:vs.length+ys.length≤1000000) (hbase:base≤w.heap.size)
  (h: ∀v' w',RowK t sz w' base v' (vs++ys)→OnlyO base (fun i=>some i=v.ownBlock) w w'→(v'.ownBlock=v.ownBlock∨v'.ownBlock=some w.heap.size)→wpList Tryz.prog ops Q rest (a.put o.dst v') w'):wpList Tryz.prog ops Q (o::rest) a w:=by
 subst hn
 obtain⟨v',w',hr,h1,h2,h3⟩:=run_rowKs hT hinf hzs hsz hbt base v vs hown ad c ys hcell hy hlen hbase o.type
 exact Lib.wpList_append_run w hgd s x _ _ ho v _ hs hx _ w' hr (h v' w' h1 h2 h3)
end
section
open Go.RowKit
def tkV (t:Tk3):List Value:= [.int .i64 t.k, .string t.s, .int .u64 t.n, .int .i64 t.a, .int .i64 t.b]
theorem WordsIs.one {w:World} {S:Nat→Prop} {v:Value} {l:List Tk3} (h:WordsIs w S v l):v.oneCell'=true:=by obtain⟨a,cap,rfl⟩:=h.size;rfl
theorem ItemsIs.one {d:Nat} {w:World} {S:Nat→Prop} {v:Value} {L:List It} (h:ItemsIs d w S v L):v.oneCell'=true:=by obtain⟨a,cap,rfl⟩:=h.size;rfl
structure ItV where
 x:It
 wv:Value
 kv:Value
def ItV.cells (p:ItV):List Value:= [.string p.x.name,p.wv, .bool p.x.block,p.kv, .int .i64 p.x.a, .int .i64 p.x.b]
structure ListIs (d:Nat) (w:World) (S:Nat→Prop) (base:Nat) (v:Value) (ps:List ItV):Prop where
 row:RowK 47 6 w base v (ps.map ItV.cells)
 ws: ∀p∈ps,WordsIs w S p.wv p.x.words
 ks: ∀p∈ps,ItemsIs d w S p.kv p.x.kids
 out: ∀b,v.ownBlock=some b→¬S b
theorem info_item:(Tryz.prog.info? 47).map (fun i=>(i.zero,i.size,i.bytes))=some (some (.agg #[.string ⟨#[]⟩, .slice none 0 0, .bool false, .slice none 0 0, .int .i64 0, .int .i64 0]),6,88):=by kernel_rfl
noncomputable def treR (s:ByteArray):Except (Int×Int×Int) (List It):=if s.size≤40000 then treF (runesOf (nums s))else .error (9,1,1)
def GivesTre (r:Except (Int×Int×Int) (List It)) (w:World) (e:Ending) (w':World):Prop:=
 Below w.heap.size w w'∧((∃c a b,r= .error (c,a,b)∧e= .returned (.tuple #[.slice none 0 0, .agg #[.int .i64 c, .int .i64 a, .int .i64 b]]))∨
  ∃L v,r= .ok L∧e= .returned (.tuple #[v, .agg #[.int .i64 0, .int .i64 0, .int .i64 0]])∧ItemsIs 5 w' (fun b=>w.heap.size≤b∧b<w'.heap.size) v L)
end
section
def labV (l:ByteArray×ByteArray):List Value:= [.string l.1, .string l.2]
def rulV (r:RlC):List Value:= [.string r.name, .bool r.page, .int .i64 r.long, .int .i64 r.short, .int .u64 r.factor, .int .i64 r.hold, .int .i64 r.keep]
def golL (g:GlC) (lv rv:Value):List Value:= [.string g.name, .int .u32 g.target, .int .i64 g.grain, .int .i64 g.late, .int .i64 g.rolling, .int .i64 g.cal,lv,rv]
end
section
def AllU {α:Type} (P:α→Prop) (nm:α→ByteArray) (l:List α) (n:Nat):Prop:= ∀(j:Nat) (x:α),j<n→l[j]?=some x→P x∧∀(k:Nat) (y:α),k<j→l[k]?=some y→nm y≠nm x
section
variable {α:Type} {P:α→Prop} {nm:α→ByteArray} {l:List α} {n:Nat}
theorem AllU.zero:AllU P nm l 0:=fun j x hj=>by omega
theorem AllU.next {x:α} (h:AllU P nm l n) (hx:l[n]?=some x) (hp:P x) (hu: ∀(k:Nat) (y:α),k<n→l[k]?=some y→nm y≠nm x):AllU P nm l (n+1):=fun j y hj hy=>by
 by_cases e:j=n
 ·subst e
  rw[hx]at hy
  injection hy with hy
  subst hy
  exact⟨hp,hu⟩
 ·exact h j y (by omega) hy
end
structure RuleOk (g:Int) (r:RlC):Prop where
 nm:NameL (runesOf (nums r.name))
 l1:1≤r.long
 l2:r.long≤34560000
 g1:1≤g
 lg:r.long%g=0
 s1:1≤r.short
 s2:r.short≤r.long
 sg:r.short%g=0
 f1:1≤r.factor
 f2:r.factor≤1000000
 h1:0≤r.hold
 h2:r.hold≤604800
 k1:0≤r.keep
 k2:r.keep≤604800
def LabOk (l:ByteArray×ByteArray):Prop:=NameL (runesOf (nums l.1))∧GoodL (runesOf (nums l.2))∧(runesOf (nums l.2)).length≤120
structure GoalOk (g:GlC):Prop where
 nm:NameL (runesOf (nums g.name))
 t1:1≤g.target
 t2:g.target≤999999
 g1:1≤g.grain
 g2:g.grain≤86400
 l1:0≤g.late
 l2:g.late≤86400
 r1:0≤g.rolling
 r2:g.rolling≤34560000
 rg:g.rolling%g.grain=0
 c1:0≤g.cal
 c2:g.cal≤2
 n1:g.labels.length≤4
 la:AllU LabOk (·.1) g.labels g.labels.length
 m1:1≤g.rules.length
 m2:g.rules.length≤4
 ru:AllU (RuleOk g.grain) (·.name) g.rules g.rules.length
structure ConfOk (c:CfC):Prop where
 n1:c.goals.length≤6
 go:AllU GoalOk (·.name) c.goals c.goals.length
 r1:1≤c.room
 r2:c.room≤64
 v1:0≤c.reserve
 v2:c.reserve≤c.room
 f1:1≤c.first
 f2:c.first≤86400
 c1:c.first≤c.cap
 c2:c.cap≤604800
 a1:0≤c.again
 a2:c.again≤2592000
end
section
open Go.RowKit
def tkA (t:Tk3):Value:= .agg #[.int .i64 t.k, .string t.s, .int .u64 t.n, .int .i64 t.a, .int .i64 t.b]
def RdM (w:World) (rb:Nat) (T:List Tk3) (n:Nat):Prop:= ∃v,Var2 w rb v (.int .i64 (n:Int))∧WordsIs w (fun b=>b<rb) v T
def flies (c a b:Int):Ending:= .panicked [{ v:= .iface 41 (.agg #[.int .i64 c, .int .i64 a, .int .i64 b]),recovered:=false }]
end
section
open Go.RowKit
def GivesL (d:Nat) (w:World) (rb:Nat) (T:List Tk3) (n:Nat) (e:Ending) (w':World):Prop:=
 OnlyO rb (fun i=>i=rb) w w'∧((∃c a b,LBad d T n c a b∧e=flies c a b)∨
  ∃L v T' n',e= .returned v∧LDone d T n L T' n'∧ItemsIs (6-d) w' (fun b=>w.heap.size≤b∧b<w'.heap.size) v L∧RdM w' rb T' n'∧n≤n'∧n'≤300∧(2≤d→TEnd T')∧T'.length≤T.length)
def ListOK (d:Nat):Prop:= ∀(w:World) (rb:Nat) (T:List Tk3) (n:Nat),RdM w rb T n→TEnd T→n≤300→Calls Tryz.prog 46 #[.pointer (some ⟨rb,0,none⟩), .int .i64 (d:Int)] w (GivesL d w rb T n)
def GivesI (d:Nat) (w:World) (rb:Nat) (hd:Hd) (T:List Tk3) (n:Nat) (e:Ending) (w':World):Prop:=
 OnlyO rb (fun i=>i=rb) w w'∧((∃c a b,IBad d hd T n c a b∧e=flies c a b)∨
  ∃x wv kv T' n',e= .returned (.agg #[.string x.name,wv, .bool x.block,kv, .int .i64 x.a, .int .i64 x.b])∧IRun d hd T n x T' n'∧WordsIs w' (fun b=>w.heap.size≤b∧b<w'.heap.size) wv x.words∧ItemsIs (5-d) w' (fun b=>w.heap.size≤b∧b<w'.heap.size) kv x.kids∧RdM w' rb T' n'∧n≤n'∧n'≤300∧TEnd T'∧T'.length≤T.length)
def ItemOK (d:Nat):Prop:= ∀(w:World) (rb:Nat) (t:Tk3) (T:List Tk3) (n:Nat),RdM w rb T n→TEnd T→n≤300→Calls Tryz.prog 91 #[.pointer (some ⟨rb,0,none⟩),tkA t, .int .i64 (d:Int)] w (GivesI d w rb { name:=t.s,a:=t.a,b:=t.b } T n)
structure TokVar (w:World) (g:Nat) (t:Tk3) (W5 W6:World):Prop where
 g0:w.heap.size=g
 a5:w.alloc (.cells #[.int .i64 0, .string ⟨#[]⟩, .int .u64 0, .int .i64 0, .int .i64 0] 89)=W5
 s6:(((((W5.setCell ⟨g,0,none⟩ (.int .i64 t.k)).setCell ⟨g,1,none⟩ (.string t.s)).setCell ⟨g,2,none⟩ (.int .u64 t.n)).setCell ⟨g,3,none⟩ (.int .i64 t.a)).setCell ⟨g,4,none⟩ (.int .i64 t.b))=W6
 f5:Var5 W5 g (.int .i64 0) (.string ⟨#[]⟩) (.int .u64 0) (.int .i64 0) (.int .i64 0)
 f6:Var5 W6 g (.int .i64 t.k) (.string t.s) (.int .u64 t.n) (.int .i64 t.a) (.int .i64 t.b)
 b6:Below w.heap.size w W6
 z6:W6.heap.size=g+1
structure LK (d:Nat) (B:Nat) (t:Tk3) (tb:Nat) (v:Value) (ps:List ItV) (wr:World):Prop where
 tok:Var5 wr tb (.int .i64 t.k) (.string t.s) (.int .u64 t.n) (.int .i64 t.a) (.int .i64 t.b)
 tlo:B≤tb
 lst: ∃S:Nat→Prop,(∀b,S b→B≤b∧b<wr.heap.size∧b≠tb)∧ListIs (5-d) wr S B v ps
 nv:v.ownBlock≠some tb
def lenR (w:World) (rb:Nat):Nat:=match w.cell? ⟨rb,0,none⟩with
 |some (.slice _ n _)=>n
 |_=>0
end
end Go.Proofs.YtiapmjkaappcfaaGreatDoor
