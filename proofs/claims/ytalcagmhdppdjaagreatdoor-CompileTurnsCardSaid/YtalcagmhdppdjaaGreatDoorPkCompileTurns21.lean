/-
  Package compile's rule: walked to its end.
-/
import Derived.Test.YtalcagmhdppdjaaGreatDoorPkCompileTurns20
set_option maxRecDepth 100000
set_option maxHeartbeats 8000000
namespace Go.Proofs.YtalcagmhdppdjaaGreatDoor
open Lib renaming hid→Lh
open List renaming setIfInBounds_toArray→Lq,set_cons_zero→Lj,set_cons_succ→Lk,length_append→Kq,take_succ_cons→Kj,length_map→Ky,take_zero→Jh,drop_succ_cons→Jj,drop_zero→Jk
open Nat renaming reduceAdd→Lx,zero_add→Ly,le_refl→Mz,lt_of_lt_of_le→Kx,le_trans→Kz
open StepsJ renaming cons→Lz
open StepsU renaming cons→Mh
open Act renaming put→Mq
open Go.RowKit.Below renaming refl→Mj
open Or renaming inr→Mx,inl→My
section
open Go.RowKit
theorem M1.var0 {base:Nat} {fpv:Value} {X:List Flt→Foot→World→Prop} {gb:Nat} {nm:ByteArray} {cs:List It} {F:List Flt} {O:Foot} {w:World} (h:M1 base fpv X gb nm cs F O w): ∃l,VarL w gb l∧l[0]?=some fpv:=by
 obtain⟨O1,lv,rv,pv,h,ho⟩:=h
 exact⟨_,h.var,rfl⟩
def TRMap (fpv kv:Value) (gb ib rb b1:Nat):Nat→Value→World→Prop
 |0,v,_=>v= .pointer (some ⟨gb,0,none⟩)
 |1,v,_=>v= .pointer (some ⟨gb,0,none⟩)
 |2,v,_=>v= .pointer (some ⟨gb,0,none⟩)
 |3,v,_=>v=fpv
 |4,v,_=>v= .pointer (some ⟨ib,0,none⟩)
 |5,v,_=>v= .pointer (some ⟨ib,0,none⟩)
 |6,v,_=>v= .pointer (some ⟨ib,0,none⟩)
 |7,v,_=>v= .pointer (some ⟨ib,3,none⟩)
 |8,v,_=>v=kv
 |10,v,_=>v= .pointer (some ⟨rb,2,none⟩)
 |11,v,w=>SpanV b1 101 102 1 34560000 rb 2 v w
 |13,v,_=>v= .pointer (some ⟨rb,3,none⟩)
 |14,v,w=>SpanV b1 101 102 1 34560000 rb 3 v w
 |16,v,_=>v= .func (.func 125) #[] #[.pointer (some ⟨rb,0,none⟩)]
 |17,v,w=>PlainV b1 124 1 1000000 (.func (.func 125) #[] #[.pointer (some ⟨rb,0,none⟩)]) v w
 |19,v,_=>v= .pointer (some ⟨rb,5,none⟩)
 |20,v,w=>SpanV b1 101 102 0 604800 rb 5 v w
 |22,v,_=>v= .pointer (some ⟨rb,6,none⟩)
 |23,v,w=>SpanV b1 101 102 0 604800 rb 6 v w
 |_,_,_=>True
theorem TRMap.ck {fpv kv:Value} {gb ib rb b1:Nat} (i:Nat) (v:Value) (w w':World) (h:TRMap fpv kv gb ib rb b1 i v w) (hb:CK w w'):TRMap fpv kv gb ib rb b1 i v w':=by
 match i,h with
 |0,h=>exact h
 |1,h=>exact h
 |2,h=>exact h
 |3,h=>exact h
 |4,h=>exact h
 |5,h=>exact h
 |6,h=>exact h
 |7,h=>exact h
 |8,h=>exact h
 |9,_=>exact trivial
 |10,h=>exact h
 |11,h=>exact SpanV.ck h hb
 |12,_=>exact trivial
 |13,h=>exact h
 |14,h=>exact SpanV.ck h hb
 |15,_=>exact trivial
 |16,h=>exact h
 |17,h=>exact PlainV.ck h hb
 |18,_=>exact trivial
 |19,h=>exact h
 |20,h=>exact SpanV.ck h hb
 |21,_=>exact trivial
 |22,h=>exact h
 |23,h=>exact SpanV.ck h hb
 |24,_=>exact trivial
 |25,_=>exact trivial
 |m+26,_=>exact trivial
theorem rul_set (x:It) (t u:Tk3) (S:Nat→Prop) (W:World) (gb ib mb:Nat) (wv kv:Value) (sec:ByteArray) (h:VarL W ib (itemL x wv kv mb sec)) (hx:x.words= [t,u]) (hbk:x.block=true) (hw:WordsIs W S wv x.words) (hS: ∀b,S b→b<W.heap.size) (hk:1≤t.k∧t.k≤6) (hk2:1≤u.k∧u.k≤6) (f:ByteArray→ByteArray→Nat) (hc:CntIs W mb f) (hno:t.k=1∧u.k=1∧(u.s=nPage∨u.s=nTicket)) (hne:ib≠mb) {base:Nat} {fpv:Value} {X:List Flt→Foot→World→Prop} {nm:ByteArray} (hX:CtxC fpv X) (cs:List It) (F:List Flt) (O:Foot) (hM:M1 base fpv X gb nm cs F O W) (hnm:x.name=nRule) (hf:f x.name t.s=0) (n4:Nat) (hn:f x.name ⟨#[]⟩=n4) (h4:n4≠4) (hio: ¬O ib) (D:Nat) (hkd:ItemsIs D W S kv x.kids) (hSO: ∀b,S b→¬O b) (hSi: ¬S ib) (hwk: ∀y∈x.kids,WordsOk y.words) (hfew:F.length+4*cntL x.kids≤1000000) (hcs1:cs.length≤1000000):Calls Tryz.prog 98 #[.pointer (some ⟨gb,0,none⟩), .pointer (some ⟨ib,0,none⟩)] W fun e w'=>e= .returned (.tuple #[])∧∃O',M1 base fpv X gb nm (cs++ [x]) (F++subG x) O' w'∧Frm (fun i=>O i∨i=ib) W w'∧Grown O O' W.heap.size∧VarL w' ib (itemL x wv kv mb t.s):=by
 rw[hx]at hw
 obtain⟨wb,wo,wc,rfl,hs,⟨w0,w1,w2,w3,w4⟩,w5,w6,w7,w8,w9⟩:=words_two hw
 have hsl:=hS wb hs
 have HF:Hid (Calls Tryz.prog 59 #[.pointer (some ⟨ib,0,none⟩), .int .i64 2, .bool true] W fun e w'=>e= .returned (.tuple #[])∧w'=W):=Lh (form_yes x 2 true W ib mb (some ⟨wb,wo,none⟩) wc kv sec (by rw[hx];exact h) ⟨by rw[hx];rfl,hbk⟩)
 have HV:=Lh h
 have HTK:Hid (∀W1,Below W.heap.size W W1→(W1.cell? ⟨wb,wo,none⟩=some (.int .i64 t.k)∧W1.cell? ⟨wb,wo+1,none⟩=some (.string t.s)∧W1.cell? ⟨wb,wo+2,none⟩=some (.int .u64 t.n)∧W1.cell? ⟨wb,wo+3,none⟩=some (.int .i64 t.a)∧W1.cell? ⟨wb,wo+4,none⟩=some (.int .i64 t.b))∧
   W1.cell? ⟨wb,wo+5,none⟩=some (.int .i64 u.k)∧W1.cell? ⟨wb,wo+6,none⟩=some (.string u.s)∧W1.cell? ⟨wb,wo+7,none⟩=some (.int .u64 u.n)∧W1.cell? ⟨wb,wo+8,none⟩=some (.int .i64 u.a)∧W1.cell? ⟨wb,wo+9,none⟩=some (.int .i64 u.b)):=Lh (fun W1 hb=>
  ⟨⟨(hb.cell (p:=⟨wb,wo,none⟩) hsl).trans w0,(hb.cell (p:=⟨wb,wo+1,none⟩) hsl).trans w1,(hb.cell (p:=⟨wb,wo+2,none⟩) hsl).trans w2,(hb.cell (p:=⟨wb,wo+3,none⟩) hsl).trans w3,(hb.cell (p:=⟨wb,wo+4,none⟩) hsl).trans w4⟩,(hb.cell (p:=⟨wb,wo+5,none⟩) hsl).trans w5,(hb.cell (p:=⟨wb,wo+6,none⟩) hsl).trans w6,(hb.cell (p:=⟨wb,wo+7,none⟩) hsl).trans w7,(hb.cell (p:=⟨wb,wo+8,none⟩) hsl).trans w8,(hb.cell (p:=⟨wb,wo+9,none⟩) hsl).trans w9⟩)
 have HN1:=Lh (fun V=>nameOf_yes t V hk.1 hk.2 hno.1)
 have HN2:=Lh (fun V=>(first_two u V hk2).1 hno.2)
 obtain⟨pg,hpg⟩: ∃pg,decide (u.s=nPage)=pg:=⟨_,rfl⟩
 rw[hpg]at HN2
 have HPG:=Lh hpg
 unfold tkA at HN1 HN2
 have HC:=Lh hc
 have HNE:=Lh hne
 have HF0:=Lh hf
 have HFN:=Lh hn
 have HN4:=Lh h4
 have HX:=Lh hX
 have HM:=Lh hM
 have HOL:Hid (∀b,O b→b<W.heap.size):=Lh ((M1.ctx hX cs).lt _ _ _ hM)
 have HIO:=Lh hio
 have HKD:=Lh hkd
 have HSL:=Lh hS
 have HSO:=Lh hSO
 have HSI:=Lh hSi
 have HWK:=Lh hwk
 have HFEW:=Lh hfew
 have HCS1:=Lh hcs1
 have HGI:Hid (gb≠ib):=Lh (fun e=>hio (by rw[←e];exact(M1.var hM).1))
 have HN:=Lh hnm
 have HXW:=Lh hx
 clear hf hn h4 hX hM hio hkd hSO hSi hwk hfew hcs1 hnm
 clear h hx hbk hw hS hk hk2 hs hsl w0 w1 w2 w3 w4 w5 w6 w7 w8 w9 hno hc hne hpg
 go_enter Tryz.func98,Tryz.ntmps98
 go_wp2_with (go_at_call 59;(with_reducible refine(HF.out).mono ?_);rintro e w1' ⟨rfl,hw1⟩;rw[hw1];clear hw1 w1')
 refine wp_region_mixj 18 (TRul t u pg ib wb wo wc W.heap.size) (fun _ V=>Below W.heap.size W V) (by kernel_rfl) (by kernel_rfl) (Mj _ _).drew ?_ ?_
 ·simp only[Kj,Jh]
  refine(Lz ?_ (Lz ?_ (Lz ?_ (Lz ?_ (Lz ?_ (Lz ?_ (Lz ?_ (Lz ?_ (Lz ?_ (Lz ?_ (Lz ?_ (Lz ?_ (Lz ?_ (Lz ?_ (Lz ?_ (Lz ?_ (Lz ?_ (Lz ?_ StepsJ.nil))))))))))))))))))
  all_goals(intro u0 W1 L hL hj hd;simp only[putAll,Mq,Lq,Lk,Lj,Ly,Lx])
  ·have hj1:=hj
   go_wp2
   first|exact hj1|exact rfl|exact⟨rfl,hj1⟩|exact⟨rfl,hj1,k4⟩|exact⟨_,rfl,rfl,hj1,k4⟩
  ·have e0:u0 0= .pointer (some ⟨ib,0,none⟩):=(hd.1 rfl (by decide)).2
   rw[e0]
   have hj1:=hj
   go_wp2
   first|exact hj1|exact rfl|exact⟨rfl,hj1⟩|exact⟨rfl,hj1,k4⟩|exact⟨_,rfl,rfl,hj1,k4⟩
  ·have e1:u0 1= .pointer (some ⟨ib,0,none⟩):=(hd.1 rfl (by decide)).2
   rw[e1]
   have hj1:=hj
   go_wp2
   first|exact hj1|exact rfl|exact⟨rfl,hj1⟩|exact⟨rfl,hj1,k4⟩|exact⟨_,rfl,rfl,hj1,k4⟩
  ·have e2:u0 2= .pointer (some ⟨ib,0,none⟩):=(hd.1 rfl (by decide)).2
   rw[e2]
   have hj1:=hj
   go_wp2
   first|exact hj1|exact rfl|exact⟨rfl,hj1⟩|exact⟨rfl,hj1,k4⟩|exact⟨_,rfl,rfl,hj1,k4⟩
  ·have e3:u0 3= .pointer (some ⟨ib,1,none⟩):=(hd.1 rfl (by decide)).2
   have c1:=(HV.out.after hj).c 1 rfl
   rw[e3]
   have hj1:=hj
   go_wp2
   first|exact hj1|exact rfl|exact⟨rfl,hj1⟩|exact⟨rfl,hj1,k4⟩|exact⟨_,rfl,rfl,hj1,k4⟩
  ·have e4:u0 4= .slice (some ⟨wb,wo,none⟩) 2 wc:=(hd.1 rfl (by decide)).2
   rw[e4]
   have hj1:=hj
   go_wp2
   first|exact hj1|exact rfl|exact⟨rfl,hj1⟩|exact⟨rfl,hj1,k4⟩|exact⟨_,rfl,rfl,hj1,k4⟩
  ·have e5:u0 5= .pointer (some ⟨wb,wo,none⟩):=(hd.1 rfl (by decide)).2
   obtain⟨⟨t0,t1,t2,t3,t4⟩,_⟩:=HTK.out W1 hj
   rw[e5]
   have hj1:=hj
   go_wp2
   first|exact hj1|exact rfl|exact⟨rfl,hj1⟩|exact⟨rfl,hj1,k4⟩|exact⟨_,rfl,rfl,hj1,k4⟩
  ·have e6:u0 6= .agg #[.int .i64 t.k, .string t.s, .int .u64 t.n, .int .i64 t.a, .int .i64 t.b]:=(hd.1 rfl (by decide)).2
   rw[e6]
   go_wp2_with (go_at_call 60;(with_reducible refine(HN1.out _).mono ?_);rintro e W2 ⟨rfl,g2⟩;have hj1:Below W.heap.size W W2:=hj.trans (g2.mono hj.size);have hkp: ∀j v',j<18→L j=true→TRul t u pg ib wb wo wc W.heap.size j v' W1→TRul t u pg ib wb wo wc W.heap.size j v' W2:=fun j v' _ _ h=>TRul.keep j v' W1 W2 h g2)
   first|exact hkp|exact⟨rfl,hkp⟩|exact⟨rfl,hj1,hkp⟩|exact⟨_,rfl,rfl,hj1,hkp⟩
  ·have hj1:=hj
   go_wp2
   first|exact hj1|exact rfl|exact⟨rfl,hj1⟩|exact⟨rfl,hj1,k4⟩|exact⟨_,rfl,rfl,hj1,k4⟩
  ·have e8:u0 8= .pointer (some ⟨ib,0,none⟩):=(hd.1 rfl (by decide)).2
   rw[e8]
   have hj1:=hj
   go_wp2
   first|exact hj1|exact rfl|exact⟨rfl,hj1⟩|exact⟨rfl,hj1,k4⟩|exact⟨_,rfl,rfl,hj1,k4⟩
  ·have e9:u0 9= .pointer (some ⟨ib,0,none⟩):=(hd.1 rfl (by decide)).2
   rw[e9]
   have hj1:=hj
   go_wp2
   first|exact hj1|exact rfl|exact⟨rfl,hj1⟩|exact⟨rfl,hj1,k4⟩|exact⟨_,rfl,rfl,hj1,k4⟩
  ·have e10:u0 10= .pointer (some ⟨ib,0,none⟩):=(hd.1 rfl (by decide)).2
   rw[e10]
   have hj1:=hj
   go_wp2
   first|exact hj1|exact rfl|exact⟨rfl,hj1⟩|exact⟨rfl,hj1,k4⟩|exact⟨_,rfl,rfl,hj1,k4⟩
  ·have e11:u0 11= .pointer (some ⟨ib,1,none⟩):=(hd.1 rfl (by decide)).2
   have c1:=(HV.out.after hj).c 1 rfl
   rw[e11]
   have hj1:=hj
   go_wp2
   first|exact hj1|exact rfl|exact⟨rfl,hj1⟩|exact⟨rfl,hj1,k4⟩|exact⟨_,rfl,rfl,hj1,k4⟩
  ·have e12:u0 12= .slice (some ⟨wb,wo,none⟩) 2 wc:=(hd.1 rfl (by decide)).2
   rw[e12]
   have hj1:=hj
   go_wp2
   first|exact hj1|exact rfl|exact⟨rfl,hj1⟩|exact⟨rfl,hj1,k4⟩|exact⟨_,rfl,rfl,hj1,k4⟩
  ·have e13:u0 13= .pointer (some ⟨wb,wo+5,none⟩):=(hd.1 rfl (by decide)).2
   obtain⟨_,t0,t1,t2,t3,t4⟩:=HTK.out W1 hj
   rw[e13]
   have hj1:=hj
   go_wp2
   first|exact hj1|exact rfl|exact⟨rfl,hj1⟩|exact⟨rfl,hj1,k4⟩|exact⟨_,rfl,rfl,hj1,k4⟩
  ·have e14:u0 14= .agg #[.int .i64 u.k, .string u.s, .int .u64 u.n, .int .i64 u.a, .int .i64 u.b]:=(hd.1 rfl (by decide)).2
   rw[e14]
   go_wp2_with (go_at_call 122;(with_reducible refine(HN2.out _).mono ?_);rintro e W2 ⟨rfl,g2⟩;have hj1:Below W.heap.size W W2:=hj.trans (g2.mono hj.size);have hkp: ∀j v',j<18→L j=true→TRul t u pg ib wb wo wc W.heap.size j v' W1→TRul t u pg ib wb wo wc W.heap.size j v' W2:=fun j v' _ _ h=>TRul.keep j v' W1 W2 h g2)
   first|exact hkp|exact⟨rfl,hkp⟩|exact⟨rfl,hj1,hkp⟩|exact⟨_,rfl,rfl,hj1,hkp⟩
  ·have e7:u0 7= .string t.s:=(hd.1 rfl (by decide)).2
   have e15:u0 15= .bool pg:=(hd.2.1 rfl (by decide)).2
   rw[e7,e15]
   have hj1:=hj
   go_wp2
   first|exact hj1|exact rfl|exact⟨rfl,hj1⟩|exact⟨rfl,hj1,k4⟩|exact⟨_,rfl,rfl,hj1,k4⟩
  ·obtain⟨g,W2,hg,hW2,V2,g2,_⟩:=boxL W1 [.string ⟨#[]⟩, .bool false, .int .i64 0, .int .i64 0, .int .u64 0, .int .i64 0, .int .i64 0] 58
   have hj1:Below W.heap.size W W2:=hj.trans (g2.mono hj.size)
   have hkp: ∀j v',j<18→L j=true→TRul t u pg ib wb wo wc W.heap.size j v' W1→TRul t u pg ib wb wo wc W.heap.size j v' W2:=fun j v' _ _ h=>TRul.keep j v' W1 W2 h g2
   have hgl:W.heap.size≤g:=by have:=hj.size;omega
   have hex: ∃g',Value.pointer (some ⟨g,0,none⟩)= .pointer (some ⟨g',0,none⟩)∧W.heap.size≤g'∧VarL W2 g' [.string ⟨#[]⟩, .bool false, .int .i64 0, .int .i64 0, .int .u64 0, .int .i64 0, .int .i64 0]:=⟨g,rfl,hgl,V2⟩
   go_wp2
   first|exact⟨hex,hkp⟩|exact⟨hex,hj1,hkp⟩|exact⟨_,rfl,hex,hj1,hkp⟩|exact⟨⟨hgl,V2⟩,hkp⟩|exact⟨⟨_,rfl,hgl,V2⟩,hkp⟩
 ·intro u0 W1 L hall hb ht
  have e16:u0 16= .agg #[.string t.s, .bool pg, .int .i64 0, .int .i64 0, .int .u64 0, .int .i64 0, .int .i64 0]:=ht 16 (by decide)
  obtain⟨gv,e17,hgv,hvg⟩:=ht 17 (by decide)
  have HBW:=Lh hb
  clear hb ht hall
  simp only[Kj,Jh,Jj,Jk,putAll,Mq,Lq,Lk,Lj,Ly,Lx]
  rw[e16,e17]
  have HVG:=Lh hvg
  have x0:=hvg.c 0 rfl
  have q0:=hvg.q 0 rfl
  have x1:=hvg.c 1 rfl
  have q1:=hvg.q 1 rfl
  have x2:=hvg.c 2 rfl
  have q2:=hvg.q 2 rfl
  have x3:=hvg.c 3 rfl
  have q3:=hvg.q 3 rfl
  have x4:=hvg.c 4 rfl
  have q4:=hvg.q 4 rfl
  have x5:=hvg.c 5 rfl
  have q5:=hvg.q 5 rfl
  have x6:=hvg.c 6 rfl
  have q6:=hvg.q 6 rfl
  obtain⟨W2,hW2⟩: ∃W2,putL gv 0 [.string t.s, .bool pg, .int .i64 0, .int .i64 0, .int .u64 0, .int .i64 0, .int .i64 0] W1=W2:=⟨_,rfl⟩
  have HV2:Hid (VarL W2 gv [.string t.s, .bool pg, .int .i64 0, .int .i64 0, .int .u64 0, .int .i64 0, .int .i64 0]):=Lh (by rw[←hW2];exact putL_var [.string t.s, .bool pg, .int .i64 0, .int .i64 0, .int .u64 0, .int .i64 0, .int .i64 0] [] [.string ⟨#[]⟩, .bool false, .int .i64 0, .int .i64 0, .int .u64 0, .int .i64 0, .int .i64 0] W1 HVG.out rfl)
  have HB2:Hid (Below W.heap.size W W2):=Lh (by rw[←hW2];exact putL_below _ hgv _ _ HBW.out)
  have HGV:=Lh hgv
  simp only[putL,Ly,Lx]at hW2
  have y0:=HV2.out.c 0 rfl
  have HIV:=Lh (HV.out.after HB2.out)
  have HIC:=Lh (HC.out.keep (HB2.out.block mb HC.out.lt))
  have HNA:Hid (Calls Tryz.prog 61 #[.pointer (some ⟨ib,0,none⟩), .string t.s, .int .i64 4] W2 fun e w'=>e= .returned (.tuple #[])∧VarL w' ib (itemL x (.slice (some ⟨wb,wo,none⟩) 2 wc) kv mb t.s)∧Frm (fun i=>i=ib) W2 w'):=Lh (named_yes x t.s 4 n4 W2 ib mb _ kv sec f HIV.out HIC.out HF0.out HFN.out HN4.out)
  clear hvg hgv
  obtain⟨wsv,hwsv⟩: ∃v,Value.slice (some ⟨wb,wo,none⟩) 2 wc=v:=⟨_,rfl⟩
  rw[hwsv]at HNA
  have HWSV:=Lh hwsv
  clear hwsv
  go_upto_region 3 with(go_at_call 61;(with_reducible refine(HNA.out).mono ?_);rintro e w3 ⟨rfl,v3,f3⟩;have HV3:=Lh v3;have HF3:=Lh f3;clear v3 f3)
  clear HNA HIV HIC hW2 HN1 HN2 HVG
  have HZ3:Hid (W.heap.size≤w3.heap.size):=Lh (Kz HB2.out.size HF3.out.size)
  have HVG3:=Lh (HF3.out.var HV2.out (fun e=>by have:=HV.out.s;have:=HGV.out;omega))
  have HKW:Hid (∀b,b<W.heap.size→b≠ib→w3.heap[b]?=W.heap[b]?):=Lh (fun b hb hne=>(HF3.out.keep b (Kx hb HB2.out.size) hne).trans (HB2.out.block b hb))
  have HM3:Hid (M1 base fpv X gb nm cs F O w3):=Lh ((M1.ctx HX.out cs).keep _ _ _ _ HM.out (fun b hb=>HKW.out b (HOL.out b hb) (fun e=>HIO.out (by rw[←e];exact hb))))
  obtain⟨lg,hg3,hg30⟩:=HM3.out.var0
  have HG3:=Lh hg3
  have HG30:=Lh hg30
  have HMM:Hid (M2 (M1 base fpv X gb nm cs) gv t.s pg [] F (fun i=>O i∨i=gv) w3):=Lh ⟨O,HM3.out,fun e=>by have:=HOL.out gv e;have:=HGV.out;omega,fun i=>Iff.rfl,HVG3.out⟩
  have HKD3:=Lh (HKD.out.keep (w':=w3) (fun _ h=>h) (fun b hb=>HKW.out b (HSL.out b hb) (fun e=>HSI.out (by rw[←e];exact hb))))
  clear hg3 hg30
  refine wp_region_mixv 26 (TRMap fpv kv gb ib gv w3.heap.size) (JMap tabR 9 25 w3) (by kernel_rfl) (by kernel_rfl) (JMap.start tabR 9 25 w3) ?_ ?_
  ·simp only[Kj,Jh]
   refine(Mh ?_ (Mh ?_ (Mh ?_ (Mh ?_ (Mh ?_ (Mh ?_ (Mh ?_ (Mh ?_ (Mh ?_ (Mh ?_ (Mh ?_ (Mh ?_ (Mh ?_ (Mh ?_ (Mh ?_ (Mh ?_ (Mh ?_ (Mh ?_ (Mh ?_ (Mh ?_ (Mh ?_ (Mh ?_ (Mh ?_ (Mh ?_ (Mh ?_ (Mh ?_ StepsU.nil))))))))))))))))))))))))))
   all_goals(intro u0 W9 L hL hj hd;simp only[putAll,Mq,Lq,Lk,Lj,Ly,Lx])
   ·have hj1:=fun v=>hj.light 0 (by decide) (by decide) (by decide) hL (Mj _ _) v
    have hkp: ∀j v',j<26→L j=true→TRMap fpv kv gb ib gv w3.heap.size j v' W9→TRMap fpv kv gb ib gv w3.heap.size j v' W9:=fun j v' _ _ h=>TRMap.ck j v' W9 W9 h (fun _ _ h=>h)
    go_wp2
    first|exact rfl|exact hj1 _|exact⟨⟨undef,trivial⟩,hkp⟩|exact⟨hj1 _,hkp⟩|exact⟨rfl,hj1 _,hkp⟩|exact⟨_,rfl,rfl,hj1 _,hkp⟩|exact⟨_,rfl,trivial,hj1 _,hkp⟩|exact⟨trivial,hj1 _,hkp⟩|exact⟨hj1 _,k4⟩
   ·have e0:u0 0= .pointer (some ⟨gb,0,none⟩):=(hd.1 rfl (by decide)).2
    rw[e0]
    have hj1:=fun v=>hj.light 1 (by decide) (by decide) (by decide) hL (Mj _ _) v
    have hkp: ∀j v',j<26→L j=true→TRMap fpv kv gb ib gv w3.heap.size j v' W9→TRMap fpv kv gb ib gv w3.heap.size j v' W9:=fun j v' _ _ h=>TRMap.ck j v' W9 W9 h (fun _ _ h=>h)
    go_wp2
    first|exact rfl|exact hj1 _|exact⟨⟨undef,trivial⟩,hkp⟩|exact⟨hj1 _,hkp⟩|exact⟨rfl,hj1 _,hkp⟩|exact⟨_,rfl,rfl,hj1 _,hkp⟩|exact⟨_,rfl,trivial,hj1 _,hkp⟩|exact⟨trivial,hj1 _,hkp⟩|exact⟨hj1 _,k4⟩
   ·have e1:u0 1= .pointer (some ⟨gb,0,none⟩):=(hd.1 rfl (by decide)).2
    rw[e1]
    have hj1:=fun v=>hj.light 2 (by decide) (by decide) (by decide) hL (Mj _ _) v
    have hkp: ∀j v',j<26→L j=true→TRMap fpv kv gb ib gv w3.heap.size j v' W9→TRMap fpv kv gb ib gv w3.heap.size j v' W9:=fun j v' _ _ h=>TRMap.ck j v' W9 W9 h (fun _ _ h=>h)
    go_wp2
    first|exact rfl|exact hj1 _|exact⟨⟨undef,trivial⟩,hkp⟩|exact⟨hj1 _,hkp⟩|exact⟨rfl,hj1 _,hkp⟩|exact⟨_,rfl,rfl,hj1 _,hkp⟩|exact⟨_,rfl,trivial,hj1 _,hkp⟩|exact⟨trivial,hj1 _,hkp⟩|exact⟨hj1 _,k4⟩
   ·have e2:u0 2= .pointer (some ⟨gb,0,none⟩):=(hd.1 rfl (by decide)).2
    have c0:=(HG3.out.after hj.bel).c 0 HG30.out
    rw[e2]
    have hj1:=fun v=>hj.light 3 (by decide) (by decide) (by decide) hL (Mj _ _) v
    have hkp: ∀j v',j<26→L j=true→TRMap fpv kv gb ib gv w3.heap.size j v' W9→TRMap fpv kv gb ib gv w3.heap.size j v' W9:=fun j v' _ _ h=>TRMap.ck j v' W9 W9 h (fun _ _ h=>h)
    go_wp2
    first|exact rfl|exact hj1 _|exact⟨⟨undef,trivial⟩,hkp⟩|exact⟨hj1 _,hkp⟩|exact⟨rfl,hj1 _,hkp⟩|exact⟨_,rfl,rfl,hj1 _,hkp⟩|exact⟨_,rfl,trivial,hj1 _,hkp⟩|exact⟨trivial,hj1 _,hkp⟩|exact⟨hj1 _,k4⟩
   ·have hj1:=fun v=>hj.light 4 (by decide) (by decide) (by decide) hL (Mj _ _) v
    have hkp: ∀j v',j<26→L j=true→TRMap fpv kv gb ib gv w3.heap.size j v' W9→TRMap fpv kv gb ib gv w3.heap.size j v' W9:=fun j v' _ _ h=>TRMap.ck j v' W9 W9 h (fun _ _ h=>h)
    go_wp2
    first|exact rfl|exact hj1 _|exact⟨⟨undef,trivial⟩,hkp⟩|exact⟨hj1 _,hkp⟩|exact⟨rfl,hj1 _,hkp⟩|exact⟨_,rfl,rfl,hj1 _,hkp⟩|exact⟨_,rfl,trivial,hj1 _,hkp⟩|exact⟨trivial,hj1 _,hkp⟩|exact⟨hj1 _,k4⟩
   ·have e4:u0 4= .pointer (some ⟨ib,0,none⟩):=(hd.1 rfl (by decide)).2
    rw[e4]
    have hj1:=fun v=>hj.light 5 (by decide) (by decide) (by decide) hL (Mj _ _) v
    have hkp: ∀j v',j<26→L j=true→TRMap fpv kv gb ib gv w3.heap.size j v' W9→TRMap fpv kv gb ib gv w3.heap.size j v' W9:=fun j v' _ _ h=>TRMap.ck j v' W9 W9 h (fun _ _ h=>h)
    go_wp2
    first|exact rfl|exact hj1 _|exact⟨⟨undef,trivial⟩,hkp⟩|exact⟨hj1 _,hkp⟩|exact⟨rfl,hj1 _,hkp⟩|exact⟨_,rfl,rfl,hj1 _,hkp⟩|exact⟨_,rfl,trivial,hj1 _,hkp⟩|exact⟨trivial,hj1 _,hkp⟩|exact⟨hj1 _,k4⟩
   ·have e5:u0 5= .pointer (some ⟨ib,0,none⟩):=(hd.1 rfl (by decide)).2
    rw[e5]
    have hj1:=fun v=>hj.light 6 (by decide) (by decide) (by decide) hL (Mj _ _) v
    have hkp: ∀j v',j<26→L j=true→TRMap fpv kv gb ib gv w3.heap.size j v' W9→TRMap fpv kv gb ib gv w3.heap.size j v' W9:=fun j v' _ _ h=>TRMap.ck j v' W9 W9 h (fun _ _ h=>h)
    go_wp2
    first|exact rfl|exact hj1 _|exact⟨⟨undef,trivial⟩,hkp⟩|exact⟨hj1 _,hkp⟩|exact⟨rfl,hj1 _,hkp⟩|exact⟨_,rfl,rfl,hj1 _,hkp⟩|exact⟨_,rfl,trivial,hj1 _,hkp⟩|exact⟨trivial,hj1 _,hkp⟩|exact⟨hj1 _,k4⟩
   ·have e6:u0 6= .pointer (some ⟨ib,0,none⟩):=(hd.1 rfl (by decide)).2
    rw[e6]
    have hj1:=fun v=>hj.light 7 (by decide) (by decide) (by decide) hL (Mj _ _) v
    have hkp: ∀j v',j<26→L j=true→TRMap fpv kv gb ib gv w3.heap.size j v' W9→TRMap fpv kv gb ib gv w3.heap.size j v' W9:=fun j v' _ _ h=>TRMap.ck j v' W9 W9 h (fun _ _ h=>h)
    go_wp2
    first|exact rfl|exact hj1 _|exact⟨⟨undef,trivial⟩,hkp⟩|exact⟨hj1 _,hkp⟩|exact⟨rfl,hj1 _,hkp⟩|exact⟨_,rfl,rfl,hj1 _,hkp⟩|exact⟨_,rfl,trivial,hj1 _,hkp⟩|exact⟨trivial,hj1 _,hkp⟩|exact⟨hj1 _,k4⟩
   ·have e7:u0 7= .pointer (some ⟨ib,3,none⟩):=(hd.1 rfl (by decide)).2
    have c3:=(HV3.out.after hj.bel).c 3 rfl
    rw[e7]
    have hj1:=fun v=>hj.light 8 (by decide) (by decide) (by decide) hL (Mj _ _) v
    have hkp: ∀j v',j<26→L j=true→TRMap fpv kv gb ib gv w3.heap.size j v' W9→TRMap fpv kv gb ib gv w3.heap.size j v' W9:=fun j v' _ _ h=>TRMap.ck j v' W9 W9 h (fun _ _ h=>h)
    go_wp2
    first|exact rfl|exact hj1 _|exact⟨⟨undef,trivial⟩,hkp⟩|exact⟨hj1 _,hkp⟩|exact⟨rfl,hj1 _,hkp⟩|exact⟨_,rfl,rfl,hj1 _,hkp⟩|exact⟨_,rfl,trivial,hj1 _,hkp⟩|exact⟨trivial,hj1 _,hkp⟩|exact⟨hj1 _,k4⟩
   ·have hmm:= @run_makeMap Tryz.prog
    have hb2:Below W9.heap.size W9 (W9.alloc (.map #[] 0)):=(Mj _ _).alloc (Mz _) _
    have hj2:=hj.made (by decide) (by decide) hL
    have hj1: ∀_:Unit,_:=fun _=>hj2
    have hkp: ∀j v',j<26→L j=true→TRMap fpv kv gb ib gv w3.heap.size j v' W9→TRMap fpv kv gb ib gv w3.heap.size j v' (W9.alloc (.map #[] 0)):=fun j v' _ _ h=>TRMap.ck j v' W9 (W9.alloc (.map #[] 0)) h (CK.of hb2)
    go_wp2
    first|exact hkp|exact⟨trivial,hkp⟩|exact⟨trivial,hj2,hkp⟩|exact⟨hj2,hkp⟩|exact⟨_,rfl,trivial,hj2,hkp⟩
   ·have hj1:=fun v=>hj.light 10 (by decide) (by decide) (by decide) hL (Mj _ _) v
    have hkp: ∀j v',j<26→L j=true→TRMap fpv kv gb ib gv w3.heap.size j v' W9→TRMap fpv kv gb ib gv w3.heap.size j v' W9:=fun j v' _ _ h=>TRMap.ck j v' W9 W9 h (fun _ _ h=>h)
    go_wp2
    first|exact rfl|exact hj1 _|exact⟨⟨undef,trivial⟩,hkp⟩|exact⟨hj1 _,hkp⟩|exact⟨rfl,hj1 _,hkp⟩|exact⟨_,rfl,rfl,hj1 _,hkp⟩|exact⟨_,rfl,trivial,hj1 _,hkp⟩|exact⟨trivial,hj1 _,hkp⟩|exact⟨hj1 _,k4⟩
   ·have e10:u0 10= .pointer (some ⟨gv,2,none⟩):=(hd.1 rfl (by decide)).2
    rw[e10]
    go_wp2_with (go_at_call 65;(with_reducible refine(cspan_any 1 34560000 gv 2 W9).mono ?_);rintro e W2 ⟨bx,B,rfl,q1,q2,q3,q4,q5,q6⟩)
    have hj1:=hj.light 11 (by decide) (by decide) (by decide) hL q6
    have hkp: ∀j v',j<26→L j=true→TRMap fpv kv gb ib gv w3.heap.size j v' W9→TRMap fpv kv gb ib gv w3.heap.size j v' W2:=fun j v' _ _ h=>TRMap.ck j v' W9 W2 h (CK.of q6)
    first|exact⟨⟨bx,B,rfl,Kz hj.bel.size q1,by have:=hj.bel.size;omega,q4,q5⟩,hj1 _,hkp⟩|exact⟨_,rfl,⟨bx,B,rfl,Kz hj.bel.size q1,by have:=hj.bel.size;omega,q4,q5⟩,hj1 _,hkp⟩
   ·obtain⟨B,w2,eB,hr,hck,hjj⟩:=hj.ins (s:=nLong) (k:=12) (kv:=11) rfl (by decide) (by decide) (by decide) (by decide) hL (hd.2.1 rfl (by decide)).1 (hd.1 rfl (by decide)).1
    have hj1:=hjj
    have hkp: ∀j v',j<26→L j=true→TRMap fpv kv gb ib gv w3.heap.size j v' W9→TRMap fpv kv gb ib gv w3.heap.size j v' w2:=fun j v' _ _ h=>TRMap.ck j v' W9 w2 h (hck)
    rw[eB]
    obtain⟨vv,hvv⟩: ∃vv,u0 11=vv:=⟨_,rfl⟩
    rw[hvv]at hr ⊢
    go_wp2
    first|exact rfl|exact hj1 _|exact⟨⟨undef,trivial⟩,hkp⟩|exact⟨hj1 _,hkp⟩|exact⟨rfl,hj1 _,hkp⟩|exact⟨_,rfl,rfl,hj1 _,hkp⟩|exact⟨_,rfl,trivial,hj1 _,hkp⟩|exact⟨trivial,hj1 _,hkp⟩|exact⟨hj1 _,k4⟩
   ·have hj1:=fun v=>hj.light 13 (by decide) (by decide) (by decide) hL (Mj _ _) v
    have hkp: ∀j v',j<26→L j=true→TRMap fpv kv gb ib gv w3.heap.size j v' W9→TRMap fpv kv gb ib gv w3.heap.size j v' W9:=fun j v' _ _ h=>TRMap.ck j v' W9 W9 h (fun _ _ h=>h)
    go_wp2
    first|exact rfl|exact hj1 _|exact⟨⟨undef,trivial⟩,hkp⟩|exact⟨hj1 _,hkp⟩|exact⟨rfl,hj1 _,hkp⟩|exact⟨_,rfl,rfl,hj1 _,hkp⟩|exact⟨_,rfl,trivial,hj1 _,hkp⟩|exact⟨trivial,hj1 _,hkp⟩|exact⟨hj1 _,k4⟩
   ·have e13:u0 13= .pointer (some ⟨gv,3,none⟩):=(hd.1 rfl (by decide)).2
    rw[e13]
    go_wp2_with (go_at_call 65;(with_reducible refine(cspan_any 1 34560000 gv 3 W9).mono ?_);rintro e W2 ⟨bx,B,rfl,q1,q2,q3,q4,q5,q6⟩)
    have hj1:=hj.light 14 (by decide) (by decide) (by decide) hL q6
    have hkp: ∀j v',j<26→L j=true→TRMap fpv kv gb ib gv w3.heap.size j v' W9→TRMap fpv kv gb ib gv w3.heap.size j v' W2:=fun j v' _ _ h=>TRMap.ck j v' W9 W2 h (CK.of q6)
    first|exact⟨⟨bx,B,rfl,Kz hj.bel.size q1,by have:=hj.bel.size;omega,q4,q5⟩,hj1 _,hkp⟩|exact⟨_,rfl,⟨bx,B,rfl,Kz hj.bel.size q1,by have:=hj.bel.size;omega,q4,q5⟩,hj1 _,hkp⟩
   ·obtain⟨B,w2,eB,hr,hck,hjj⟩:=hj.ins (s:=nShort) (k:=15) (kv:=14) rfl (by decide) (by decide) (by decide) (by decide) hL (hd.2.1 rfl (by decide)).1 (hd.1 rfl (by decide)).1
    have hj1:=hjj
    have hkp: ∀j v',j<26→L j=true→TRMap fpv kv gb ib gv w3.heap.size j v' W9→TRMap fpv kv gb ib gv w3.heap.size j v' w2:=fun j v' _ _ h=>TRMap.ck j v' W9 w2 h (hck)
    rw[eB]
    obtain⟨vv,hvv⟩: ∃vv,u0 14=vv:=⟨_,rfl⟩
    rw[hvv]at hr ⊢
    go_wp2
    first|exact rfl|exact hj1 _|exact⟨⟨undef,trivial⟩,hkp⟩|exact⟨hj1 _,hkp⟩|exact⟨rfl,hj1 _,hkp⟩|exact⟨_,rfl,rfl,hj1 _,hkp⟩|exact⟨_,rfl,trivial,hj1 _,hkp⟩|exact⟨trivial,hj1 _,hkp⟩|exact⟨hj1 _,k4⟩
   ·have hj1:=fun v=>hj.light 16 (by decide) (by decide) (by decide) hL (Mj _ _) v
    have hkp: ∀j v',j<26→L j=true→TRMap fpv kv gb ib gv w3.heap.size j v' W9→TRMap fpv kv gb ib gv w3.heap.size j v' W9:=fun j v' _ _ h=>TRMap.ck j v' W9 W9 h (fun _ _ h=>h)
    go_wp2
    first|exact rfl|exact hj1 _|exact⟨⟨undef,trivial⟩,hkp⟩|exact⟨hj1 _,hkp⟩|exact⟨rfl,hj1 _,hkp⟩|exact⟨_,rfl,rfl,hj1 _,hkp⟩|exact⟨_,rfl,trivial,hj1 _,hkp⟩|exact⟨trivial,hj1 _,hkp⟩|exact⟨hj1 _,k4⟩
   ·have e16:u0 16= .func (.func 125) #[] #[.pointer (some ⟨gv,0,none⟩)]:=(hd.1 rfl (by decide)).2
    rw[e16]
    go_wp2_with (go_at_call 93;(with_reducible refine(number_any 124 1 1000000 125 #[] #[.pointer (some ⟨gv,0,none⟩)] W9).mono ?_);rintro e W2 ⟨B,rfl,q1,q3,q5,q6⟩)
    have hj1:=hj.light 17 (by decide) (by decide) (by decide) hL q6
    have hkp: ∀j v',j<26→L j=true→TRMap fpv kv gb ib gv w3.heap.size j v' W9→TRMap fpv kv gb ib gv w3.heap.size j v' W2:=fun j v' _ _ h=>TRMap.ck j v' W9 W2 h (CK.of q6)
    first|exact⟨⟨B,rfl,Kz hj.bel.size q1,q5⟩,hj1 _,hkp⟩|exact⟨_,rfl,⟨B,rfl,Kz hj.bel.size q1,q5⟩,hj1 _,hkp⟩
   ·obtain⟨B,w2,eB,hr,hck,hjj⟩:=hj.ins (s:=nFactor) (k:=18) (kv:=17) rfl (by decide) (by decide) (by decide) (by decide) hL (hd.2.1 rfl (by decide)).1 (hd.1 rfl (by decide)).1
    have hj1:=hjj
    have hkp: ∀j v',j<26→L j=true→TRMap fpv kv gb ib gv w3.heap.size j v' W9→TRMap fpv kv gb ib gv w3.heap.size j v' w2:=fun j v' _ _ h=>TRMap.ck j v' W9 w2 h (hck)
    rw[eB]
    obtain⟨vv,hvv⟩: ∃vv,u0 17=vv:=⟨_,rfl⟩
    rw[hvv]at hr ⊢
    go_wp2
    first|exact rfl|exact hj1 _|exact⟨⟨undef,trivial⟩,hkp⟩|exact⟨hj1 _,hkp⟩|exact⟨rfl,hj1 _,hkp⟩|exact⟨_,rfl,rfl,hj1 _,hkp⟩|exact⟨_,rfl,trivial,hj1 _,hkp⟩|exact⟨trivial,hj1 _,hkp⟩|exact⟨hj1 _,k4⟩
   ·have hj1:=fun v=>hj.light 19 (by decide) (by decide) (by decide) hL (Mj _ _) v
    have hkp: ∀j v',j<26→L j=true→TRMap fpv kv gb ib gv w3.heap.size j v' W9→TRMap fpv kv gb ib gv w3.heap.size j v' W9:=fun j v' _ _ h=>TRMap.ck j v' W9 W9 h (fun _ _ h=>h)
    go_wp2
    first|exact rfl|exact hj1 _|exact⟨⟨undef,trivial⟩,hkp⟩|exact⟨hj1 _,hkp⟩|exact⟨rfl,hj1 _,hkp⟩|exact⟨_,rfl,rfl,hj1 _,hkp⟩|exact⟨_,rfl,trivial,hj1 _,hkp⟩|exact⟨trivial,hj1 _,hkp⟩|exact⟨hj1 _,k4⟩
   ·have e19:u0 19= .pointer (some ⟨gv,5,none⟩):=(hd.1 rfl (by decide)).2
    rw[e19]
    go_wp2_with (go_at_call 65;(with_reducible refine(cspan_any 0 604800 gv 5 W9).mono ?_);rintro e W2 ⟨bx,B,rfl,q1,q2,q3,q4,q5,q6⟩)
    have hj1:=hj.light 20 (by decide) (by decide) (by decide) hL q6
    have hkp: ∀j v',j<26→L j=true→TRMap fpv kv gb ib gv w3.heap.size j v' W9→TRMap fpv kv gb ib gv w3.heap.size j v' W2:=fun j v' _ _ h=>TRMap.ck j v' W9 W2 h (CK.of q6)
    first|exact⟨⟨bx,B,rfl,Kz hj.bel.size q1,by have:=hj.bel.size;omega,q4,q5⟩,hj1 _,hkp⟩|exact⟨_,rfl,⟨bx,B,rfl,Kz hj.bel.size q1,by have:=hj.bel.size;omega,q4,q5⟩,hj1 _,hkp⟩
   ·obtain⟨B,w2,eB,hr,hck,hjj⟩:=hj.ins (s:=nFor) (k:=21) (kv:=20) rfl (by decide) (by decide) (by decide) (by decide) hL (hd.2.1 rfl (by decide)).1 (hd.1 rfl (by decide)).1
    have hj1:=hjj
    have hkp: ∀j v',j<26→L j=true→TRMap fpv kv gb ib gv w3.heap.size j v' W9→TRMap fpv kv gb ib gv w3.heap.size j v' w2:=fun j v' _ _ h=>TRMap.ck j v' W9 w2 h (hck)
    rw[eB]
    obtain⟨vv,hvv⟩: ∃vv,u0 20=vv:=⟨_,rfl⟩
    rw[hvv]at hr ⊢
    go_wp2
    first|exact rfl|exact hj1 _|exact⟨⟨undef,trivial⟩,hkp⟩|exact⟨hj1 _,hkp⟩|exact⟨rfl,hj1 _,hkp⟩|exact⟨_,rfl,rfl,hj1 _,hkp⟩|exact⟨_,rfl,trivial,hj1 _,hkp⟩|exact⟨trivial,hj1 _,hkp⟩|exact⟨hj1 _,k4⟩
   ·have hj1:=fun v=>hj.light 22 (by decide) (by decide) (by decide) hL (Mj _ _) v
    have hkp: ∀j v',j<26→L j=true→TRMap fpv kv gb ib gv w3.heap.size j v' W9→TRMap fpv kv gb ib gv w3.heap.size j v' W9:=fun j v' _ _ h=>TRMap.ck j v' W9 W9 h (fun _ _ h=>h)
    go_wp2
    first|exact rfl|exact hj1 _|exact⟨⟨undef,trivial⟩,hkp⟩|exact⟨hj1 _,hkp⟩|exact⟨rfl,hj1 _,hkp⟩|exact⟨_,rfl,rfl,hj1 _,hkp⟩|exact⟨_,rfl,trivial,hj1 _,hkp⟩|exact⟨trivial,hj1 _,hkp⟩|exact⟨hj1 _,k4⟩
   ·have e22:u0 22= .pointer (some ⟨gv,6,none⟩):=(hd.1 rfl (by decide)).2
    rw[e22]
    go_wp2_with (go_at_call 65;(with_reducible refine(cspan_any 0 604800 gv 6 W9).mono ?_);rintro e W2 ⟨bx,B,rfl,q1,q2,q3,q4,q5,q6⟩)
    have hj1:=hj.light 23 (by decide) (by decide) (by decide) hL q6
    have hkp: ∀j v',j<26→L j=true→TRMap fpv kv gb ib gv w3.heap.size j v' W9→TRMap fpv kv gb ib gv w3.heap.size j v' W2:=fun j v' _ _ h=>TRMap.ck j v' W9 W2 h (CK.of q6)
    first|exact⟨⟨bx,B,rfl,Kz hj.bel.size q1,by have:=hj.bel.size;omega,q4,q5⟩,hj1 _,hkp⟩|exact⟨_,rfl,⟨bx,B,rfl,Kz hj.bel.size q1,by have:=hj.bel.size;omega,q4,q5⟩,hj1 _,hkp⟩
   ·obtain⟨B,w2,eB,hr,hck,hjj⟩:=hj.ins (s:=nKeep) (k:=24) (kv:=23) rfl (by decide) (by decide) (by decide) (by decide) hL (hd.2.1 rfl (by decide)).1 (hd.1 rfl (by decide)).1
    have hj1:=hjj
    have hkp: ∀j v',j<26→L j=true→TRMap fpv kv gb ib gv w3.heap.size j v' W9→TRMap fpv kv gb ib gv w3.heap.size j v' w2:=fun j v' _ _ h=>TRMap.ck j v' W9 w2 h (hck)
    rw[eB]
    obtain⟨vv,hvv⟩: ∃vv,u0 23=vv:=⟨_,rfl⟩
    rw[hvv]at hr ⊢
    go_wp2
    first|exact rfl|exact hj1 _|exact⟨⟨undef,trivial⟩,hkp⟩|exact⟨hj1 _,hkp⟩|exact⟨rfl,hj1 _,hkp⟩|exact⟨_,rfl,rfl,hj1 _,hkp⟩|exact⟨_,rfl,trivial,hj1 _,hkp⟩|exact⟨trivial,hj1 _,hkp⟩|exact⟨hj1 _,k4⟩
   ·have hj2:=hj.copy (by decide) (by decide) hL (hd.1 rfl (by decide)).1
    go_wp2
    first|exact⟨trivial,hj2,k4⟩|exact⟨hj2,k4⟩|exact⟨_,rfl,trivial,hj2,k4⟩|exact hj2|exact trivial
  ·intro u0 W9 L hall hj ht
   have e3:u0 3=fpv:=ht 3 (by decide)
   have e8:u0 8=kv:=ht 8 (by decide)
   have t11:=ht 11 (by decide)
   have t14:=ht 14 (by decide)
   have t17:=ht 17 (by decide)
   have t20:=ht 20 (by decide)
   have t23:=ht 23 (by decide)
   obtain⟨HB,eHB,hHB1,hHB2⟩:=hj.map (hall 9 (by decide))
   have eC:=(hj.cpy (hall 25 (by decide))).2.trans eHB
   have hHM:HIs W9 HB (byTab tabR u0):=by
    have e:hOf tabR u0 L=byTab tabR u0:=by funext s;exact hOf_all (by intro t ht2;simp only[tabR,List.mem_cons,List.not_mem_nil,or_false]at ht2;rcases ht2 with rfl|rfl|rfl|rfl|rfl<;>exact hall _ (by decide)) s
    rw[←e];exact hHB2
   have HB9:=Lh hj.bel
   have HEA:=Lh (each_map (M2.doing (M1.ctx HX.out cs) gv t.s pg) (k:=1) (Mz 1) (by decide) sub2_le HMM.out HB9.out hHM hHB1 HKD3.out (fun b hb=>Kx (HSL.out b hb) HZ3.out) (fun b hb ho=>ho.elim (HSO.out b hb) (fun e=>by have:=HSL.out b hb;have:=HGV.out;omega)) HFEW.out (fun y hy=>rule_handles (M1.ctx HX.out cs) ⟨t11,t14,t17,t20,t23⟩ (fun b h1 h2=>Mx ⟨h1,h2⟩) (fun b h=>h.elim (fun h=>Kx (HSL.out b h) (Kz HZ3.out HB9.out.size)) (fun h=>h.2)) (fun b h=>My h) y (HWK.out y hy)))
   clear hHM hHB1 hHB2 t11 t14 t17 t20 t23 hj hall ht HG3 HG30
   simp only[Kj,Jh,Jj,Jk,putAll,Mq,Lq,Lk,Lj,Ly,Lx]
   rw[e3,e8,eC]
   clear eHB eC e3 e8
   go_upto_block 0 with(go_at_call 33;(with_reducible refine(HEA.out).mono ?_);rintro e w5 ⟨rfl,O5,hm5,hf5,hg5⟩;have HM5:=Lh hm5;have HF5:=Lh hf5;have HG5':=Lh hg5;clear hm5 hf5 hg5)
   clear HEA HMM HB9 HKD3
   have HV5:=Lh (HF5.out.var HV3.out (fun e=>e.elim (fun e=>HIO.out e) (fun e=>by have:=HV.out.s;have:=HGV.out;omega)))
   have HM5a:Hid (∃l,VarL w5 gb l∧l[0]?=some fpv):=Lh (by obtain⟨O1,h1,h2,h3,h4⟩:=HM5.out;exact h1.var0)
   obtain⟨lg5,hg5,hg50⟩:=HM5a.out
   have HG5:=Lh hg5
   have HG50:=Lh hg50
   clear hg5 hg50 HM5a
   have HR5:=Lh (SepV.var HM5.out).2
   have HFL:Hid ((F++(lookS 2 sub2 x.kids).2).length≤1000000):=Lh (by have h1:=look_faults (wh:=2) (k:=1) (Mz 1) sub2_le x.kids;have h2:=HFEW.out;rw[Kq];omega)
   obtain⟨l2,hl2⟩: ∃l,getS (ruleK x) nLong 0=l:=⟨_,rfl⟩
   obtain⟨l3,hl3⟩: ∃l,getS (ruleK x) nShort 0=l:=⟨_,rfl⟩
   obtain⟨l4,hl4⟩: ∃l,getS (ruleK x) nFactor 0=l:=⟨_,rfl⟩
   obtain⟨l5,hl5⟩: ∃l,getS (ruleK x) nFor 0=l:=⟨_,rfl⟩
   obtain⟨l6,hl6⟩: ∃l,getS (ruleK x) nKeep 0=l:=⟨_,rfl⟩
   have HLL:=Lh (And.intro hl2 (And.intro hl3 (And.intro hl4 (And.intro hl5 hl6))))
   have HRU:Hid (ruleL t.s pg (ruleK x)= [.string t.s, .bool pg, .int .i64 l2, .int .i64 l3, .int .u64 l4, .int .i64 l5, .int .i64 l6]):=Lh (by unfold ruleL;rw[hl2,hl3,hl4,hl5,hl6])
   have HMI:=Lh (rule_miss x)
   rw[hl2,hl3,hl4]at HMI
   have HWR:Hid (wholeR x (ruleK x)=if(l2=0∨l3=0∨l4=0)then [(6,x.a,x.b)]else if l2<l3 then [(8,x.a,x.b)]else []):=Lh (by
    unfold wholeR
    by_cases hc:l2=0∨l3=0∨l4=0
    ·rw[if_pos (HMI.out.mpr hc),if_pos hc]
    ·rw[if_neg (fun e=>hc (HMI.out.mp e)),if_neg hc,hl2,hl3])
   have HSG:Hid (subG x=(lookS 2 sub2 x.kids).2++wholeR x (ruleK x)):=Lh (by unfold subG;rw[if_pos HN.out])
   have HV5L:Hid (VarL w5 gv [.string t.s, .bool pg, .int .i64 l2, .int .i64 l3, .int .u64 l4, .int .i64 l5, .int .i64 l6]):=Lh (by rw[←HRU.out];exact HR5.out)
   clear hl2 hl3 hl4 hl5 hl6 HMI HR5
   have z2:=HV5L.out.c 2 rfl
   have z3:=HV5L.out.c 3 rfl
   have z4:=HV5L.out.c 4 rfl
   obtain⟨bq,hbq⟩: ∃b,decide (l2=0∨l3=0∨l4=0)=b:=⟨_,rfl⟩
   have HBQ:=Lh hbq
   clear hbq
   go_cut [] from 50 to 89 (fun wx=> ∃O',M2 (M1 base fpv X gb nm cs) gv t.s pg (ruleK x) (F++subG x) O' wx∧Frm (fun i=>O i∨i=gv) w3 wx∧Grown (fun i=>O i∨i=gv) O' w3.heap.size)
   case first=>
    go_upto_region 4 with fail
    go_cut [50] from 50 to 63 (fun v50 wx=>v50= .bool bq∧w5=wx)
    case first=>
     by_cases h2:l2=0
     ·have b2:(l2==0)=true:=by simpa using h2
      have bd:decide (l2=0∨l3=0∨l4=0)=true:=decide_eq_true (My h2)
      clear h2
      go_wp2_with fail
      go_meet
      exact⟨by rw[←HBQ.out,bd],rfl⟩
     ·have b2:(l2==0)=false:=by simpa using h2
      by_cases h3:l3=0
      ·have b3:(l3==0)=true:=by simpa using h3
       have bd:decide (l2=0∨l3=0∨l4=0)=true:=decide_eq_true (Mx (My h3))
       clear h2 h3
       go_wp2_with fail
       go_meet
       exact⟨by rw[←HBQ.out,bd],rfl⟩
      ·have b3:(l3==0)=false:=by simpa using h3
       by_cases h4:l4=0
       ·have b4:(l4==0)=true:=by simpa using h4
        have bd:decide (l2=0∨l3=0∨l4=0)=true:=decide_eq_true (Mx (Mx h4))
        clear h2 h3 h4
        go_wp2_with fail
        go_meet
        exact⟨by rw[←HBQ.out,bd],rfl⟩
       ·have b4:(l4==0)=false:=by simpa using h4
        have bd:decide (l2=0∨l3=0∨l4=0)=false:=decide_eq_false (by rintro(e|e|e);exact h2 e;exact h3 e;exact h4 e)
        clear h2 h3 h4
        go_wp2_with fail
        go_meet
        exact⟨by rw[←HBQ.out,bd],rfl⟩
    obtain⟨rfl,hw5⟩:=hcut
    subst hw5
    cases bq with
    |true=>
     have hc:(l2=0∨l3=0∨l4=0):=of_decide_eq_true HBQ.out
     have HWS:Hid (wholeR x (ruleK x)= [(6,x.a,x.b)]):=Lh (by rw[HWR.out,if_pos hc])
     clear hc
     go_wp2_with fail
     refine wp_region_mixj 9 (TLst [.pointer (some ⟨gb,0,none⟩), .pointer (some ⟨gb,0,none⟩), .pointer (some ⟨gb,0,none⟩),fpv, .pointer (some ⟨ib,0,none⟩), .pointer (some ⟨ib,0,none⟩), .pointer (some ⟨ib,0,none⟩), .pointer (some ⟨ib,4,none⟩), .agg #[.int .i64 x.a, .int .i64 x.b]]) (fun _ V=>Below w5.heap.size w5 V) (by kernel_rfl) (by kernel_rfl) (Mj _ _).drew ?_ ?_
     ·simp only[Kj,Jh]
      refine(Lz ?_ (Lz ?_ (Lz ?_ (Lz ?_ (Lz ?_ (Lz ?_ (Lz ?_ (Lz ?_ (Lz ?_ StepsJ.nil)))))))))
      all_goals(intro u0 W8 L hL hj hd;simp only[putAll,Mq,Lq,Lk,Lj,Ly,Lx])
      ·have hj1:=hj
       go_wp2
       first|exact hj1|exact rfl|exact⟨rfl,hj1⟩|exact⟨rfl,hj1,k4⟩|exact⟨_,rfl,rfl,hj1,k4⟩
      ·have e0:u0 0= .pointer (some ⟨gb,0,none⟩):=(hd.1 rfl (by decide)).2
       rw[e0]
       have hj1:=hj
       go_wp2
       first|exact hj1|exact rfl|exact⟨rfl,hj1⟩|exact⟨rfl,hj1,k4⟩|exact⟨_,rfl,rfl,hj1,k4⟩
      ·have e1:u0 1= .pointer (some ⟨gb,0,none⟩):=(hd.1 rfl (by decide)).2
       rw[e1]
       have hj1:=hj
       go_wp2
       first|exact hj1|exact rfl|exact⟨rfl,hj1⟩|exact⟨rfl,hj1,k4⟩|exact⟨_,rfl,rfl,hj1,k4⟩
      ·have e2:u0 2= .pointer (some ⟨gb,0,none⟩):=(hd.1 rfl (by decide)).2
       have c0:=(HG5.out.after hj).c 0 HG50.out
       rw[e2]
       have hj1:=hj
       go_wp2
       first|exact hj1|exact rfl|exact⟨rfl,hj1⟩|exact⟨rfl,hj1,k4⟩|exact⟨_,rfl,rfl,hj1,k4⟩
      ·have hj1:=hj
       go_wp2
       first|exact hj1|exact rfl|exact⟨rfl,hj1⟩|exact⟨rfl,hj1,k4⟩|exact⟨_,rfl,rfl,hj1,k4⟩
      ·have e4:u0 4= .pointer (some ⟨ib,0,none⟩):=(hd.1 rfl (by decide)).2
       rw[e4]
       have hj1:=hj
       go_wp2
       first|exact hj1|exact rfl|exact⟨rfl,hj1⟩|exact⟨rfl,hj1,k4⟩|exact⟨_,rfl,rfl,hj1,k4⟩
      ·have e5:u0 5= .pointer (some ⟨ib,0,none⟩):=(hd.1 rfl (by decide)).2
       rw[e5]
       have hj1:=hj
       go_wp2
       first|exact hj1|exact rfl|exact⟨rfl,hj1⟩|exact⟨rfl,hj1,k4⟩|exact⟨_,rfl,rfl,hj1,k4⟩
      ·have e6:u0 6= .pointer (some ⟨ib,0,none⟩):=(hd.1 rfl (by decide)).2
       rw[e6]
       have hj1:=hj
       go_wp2
       first|exact hj1|exact rfl|exact⟨rfl,hj1⟩|exact⟨rfl,hj1,k4⟩|exact⟨_,rfl,rfl,hj1,k4⟩
      ·have e7:u0 7= .pointer (some ⟨ib,4,none⟩):=(hd.1 rfl (by decide)).2
       have c4:=(HV5.out.after hj).c 4 rfl
       have c5:=(HV5.out.after hj).c 5 rfl
       rw[e7]
       have hj1:=hj
       go_wp2
       first|exact hj1|exact rfl|exact⟨rfl,hj1⟩|exact⟨rfl,hj1,k4⟩|exact⟨_,rfl,rfl,hj1,k4⟩
     ·intro u0 W8 L hall hb ht
      have e3:u0 3=fpv:=ht 3 (by decide)
      have e8:u0 8= .agg #[.int .i64 x.a, .int .i64 x.b]:=ht 8 (by decide)
      have HBW:=Lh hb
      clear hb ht hall
      simp only[Kj,Jh,Jj,Jk,putAll,Mq,Lq,Lk,Lj,Ly,Lx]
      rw[e3,e8]
      have HM8:=Lh ((M2.doing (M1.ctx HX.out cs) gv t.s pg).keep _ _ _ _ _ HM5.out (fun b h=>HBW.out.block b ((M2.doing (M1.ctx HX.out cs) gv t.s pg).lt _ _ _ _ HM5.out b h)))
      have HAD:=Lh ((M2.doing (M1.ctx HX.out cs) gv t.s pg).add _ _ _ W8 6 x.a x.b HM8.out HFL.out)
      go_wp2_with (go_at_call 57;(with_reducible refine(HAD.out).mono ?_);rintro e w9 ⟨rfl,O9,hm9,hf9,hg9⟩;have HM9:=Lh hm9;have HF9:=Lh hf9;have HG9:=Lh hg9;clear hm9 hf9 hg9)
      go_meet
      refine⟨O9,by rw[HSG.out,HWS.out,←List.append_assoc];exact HM9.out,(HF5.out.trans (Frm.of HBW.out) (HG5'.out)).trans (HF9.out) (HG5'.out),fun i hi=>?_⟩
      rcases HG9.out i hi with h|h
      ·exact HG5'.out i h
      ·exact Mx (by have:=HF5.out.size;have:=HBW.out.size;omega)
    |false=>
     have hc: ¬(l2=0∨l3=0∨l4=0):=of_decide_eq_false HBQ.out
     by_cases h5:l2<l3
     ·have b5:decide (l3>l2)=true:=by simpa using h5
      have HWS:Hid (wholeR x (ruleK x)= [(8,x.a,x.b)]):=Lh (by rw[HWR.out,if_neg hc,if_pos h5])
      clear hc h5
      go_wp2_with fail
      refine wp_region_mixj 9 (TLst [.pointer (some ⟨gb,0,none⟩), .pointer (some ⟨gb,0,none⟩), .pointer (some ⟨gb,0,none⟩),fpv, .pointer (some ⟨ib,0,none⟩), .pointer (some ⟨ib,0,none⟩), .pointer (some ⟨ib,0,none⟩), .pointer (some ⟨ib,4,none⟩), .agg #[.int .i64 x.a, .int .i64 x.b]]) (fun _ V=>Below w5.heap.size w5 V) (by kernel_rfl) (by kernel_rfl) (Mj _ _).drew ?_ ?_
      ·simp only[Kj,Jh]
       refine(Lz ?_ (Lz ?_ (Lz ?_ (Lz ?_ (Lz ?_ (Lz ?_ (Lz ?_ (Lz ?_ (Lz ?_ StepsJ.nil)))))))))
       all_goals(intro u0 W8 L hL hj hd;simp only[putAll,Mq,Lq,Lk,Lj,Ly,Lx])
       ·have hj1:=hj
        go_wp2
        first|exact hj1|exact rfl|exact⟨rfl,hj1⟩|exact⟨rfl,hj1,k4⟩|exact⟨_,rfl,rfl,hj1,k4⟩
       ·have e0:u0 0= .pointer (some ⟨gb,0,none⟩):=(hd.1 rfl (by decide)).2
        rw[e0]
        have hj1:=hj
        go_wp2
        first|exact hj1|exact rfl|exact⟨rfl,hj1⟩|exact⟨rfl,hj1,k4⟩|exact⟨_,rfl,rfl,hj1,k4⟩
       ·have e1:u0 1= .pointer (some ⟨gb,0,none⟩):=(hd.1 rfl (by decide)).2
        rw[e1]
        have hj1:=hj
        go_wp2
        first|exact hj1|exact rfl|exact⟨rfl,hj1⟩|exact⟨rfl,hj1,k4⟩|exact⟨_,rfl,rfl,hj1,k4⟩
       ·have e2:u0 2= .pointer (some ⟨gb,0,none⟩):=(hd.1 rfl (by decide)).2
        have c0:=(HG5.out.after hj).c 0 HG50.out
        rw[e2]
        have hj1:=hj
        go_wp2
        first|exact hj1|exact rfl|exact⟨rfl,hj1⟩|exact⟨rfl,hj1,k4⟩|exact⟨_,rfl,rfl,hj1,k4⟩
       ·have hj1:=hj
        go_wp2
        first|exact hj1|exact rfl|exact⟨rfl,hj1⟩|exact⟨rfl,hj1,k4⟩|exact⟨_,rfl,rfl,hj1,k4⟩
       ·have e4:u0 4= .pointer (some ⟨ib,0,none⟩):=(hd.1 rfl (by decide)).2
        rw[e4]
        have hj1:=hj
        go_wp2
        first|exact hj1|exact rfl|exact⟨rfl,hj1⟩|exact⟨rfl,hj1,k4⟩|exact⟨_,rfl,rfl,hj1,k4⟩
       ·have e5:u0 5= .pointer (some ⟨ib,0,none⟩):=(hd.1 rfl (by decide)).2
        rw[e5]
        have hj1:=hj
        go_wp2
        first|exact hj1|exact rfl|exact⟨rfl,hj1⟩|exact⟨rfl,hj1,k4⟩|exact⟨_,rfl,rfl,hj1,k4⟩
       ·have e6:u0 6= .pointer (some ⟨ib,0,none⟩):=(hd.1 rfl (by decide)).2
        rw[e6]
        have hj1:=hj
        go_wp2
        first|exact hj1|exact rfl|exact⟨rfl,hj1⟩|exact⟨rfl,hj1,k4⟩|exact⟨_,rfl,rfl,hj1,k4⟩
       ·have e7:u0 7= .pointer (some ⟨ib,4,none⟩):=(hd.1 rfl (by decide)).2
        have c4:=(HV5.out.after hj).c 4 rfl
        have c5:=(HV5.out.after hj).c 5 rfl
        rw[e7]
        have hj1:=hj
        go_wp2
        first|exact hj1|exact rfl|exact⟨rfl,hj1⟩|exact⟨rfl,hj1,k4⟩|exact⟨_,rfl,rfl,hj1,k4⟩
      ·intro u0 W8 L hall hb ht
       have e3:u0 3=fpv:=ht 3 (by decide)
       have e8:u0 8= .agg #[.int .i64 x.a, .int .i64 x.b]:=ht 8 (by decide)
       have HBW:=Lh hb
       clear hb ht hall
       simp only[Kj,Jh,Jj,Jk,putAll,Mq,Lq,Lk,Lj,Ly,Lx]
       rw[e3,e8]
       have HM8:=Lh ((M2.doing (M1.ctx HX.out cs) gv t.s pg).keep _ _ _ _ _ HM5.out (fun b h=>HBW.out.block b ((M2.doing (M1.ctx HX.out cs) gv t.s pg).lt _ _ _ _ HM5.out b h)))
       have HAD:=Lh ((M2.doing (M1.ctx HX.out cs) gv t.s pg).add _ _ _ W8 8 x.a x.b HM8.out HFL.out)
       go_wp2_with (go_at_call 57;(with_reducible refine(HAD.out).mono ?_);rintro e w9 ⟨rfl,O9,hm9,hf9,hg9⟩;have HM9:=Lh hm9;have HF9:=Lh hf9;have HG9:=Lh hg9;clear hm9 hf9 hg9)
       go_meet
       refine⟨O9,by rw[HSG.out,HWS.out,←List.append_assoc];exact HM9.out,(HF5.out.trans (Frm.of HBW.out) (HG5'.out)).trans (HF9.out) (HG5'.out),fun i hi=>?_⟩
       rcases HG9.out i hi with h|h
       ·exact HG5'.out i h
       ·exact Mx (by have:=HF5.out.size;have:=HBW.out.size;omega)
     ·have b5:decide (l3>l2)=false:=by simpa using h5
      have HWS:Hid (wholeR x (ruleK x)= []):=Lh (by rw[HWR.out,if_neg hc,if_neg h5])
      clear hc h5
      go_wp2_with fail
      go_meet
      exact⟨O5,by rw[HSG.out,HWS.out,List.append_nil];exact HM5.out,HF5.out,HG5'.out⟩
   case rest=>
    rename World=>w6
    obtain⟨O6,hm6,hf6,hg6⟩:=hcut
    obtain⟨OA,hm1,hgx,hOA,hvr⟩:=hm6
    obtain⟨OB,lv,rv,pv,hat,hOB⟩:=hm1
    obtain⟨vs,hvs⟩: ∃vs,(rulC cs).map rulV=vs:=⟨_,rfl⟩
    obtain⟨us,hus⟩: ∃us,(plcC cs).map plcV=us:=⟨_,rfl⟩
    have hr0:=hat.rul
    have hp0:=hat.plc
    rw[hvs]at hr0
    rw[hus]at hp0
    obtain⟨ra,rc,hrv⟩:=hr0.size
    obtain⟨pa,pc,hpv⟩:=hp0.size
    subst hrv hpv
    obtain⟨own1,hown1⟩: ∃o,(Value.slice ra vs.length rc).ownBlock=o:=⟨_,rfl⟩
    obtain⟨own2,hown2⟩: ∃o,(Value.slice pa us.length pc).ownBlock=o:=⟨_,rfl⟩
    have HOWN1:=Lh hown1
    have HOWN2:=Lh hown2
    have HNI:Hid (¬O6 ib):=Lh (fun e=>by
     rcases hg6 ib e with(h|h)|h
     ·exact HIO.out h
     ·have:=HV.out.s;have:=HGV.out;omega
     ·have:=HV.out.s;have:=HZ3.out;omega)
    have HO6:Hid (∀i,OB i∨ownG gb lv (.slice ra vs.length rc) (.slice pa us.length pc) i→O6 i):=Lh (fun i h=>(hOA i).mpr (My ((hOB i).mpr h)))
    have HRG:Hid (∀b,own1=some b→b≠gb):=Lh (fun b e=>(hat.rx b (hown1.trans e)).1)
    have HRR:Hid (∀b,own1=some b→b≠gv):=Lh (fun b e e2=>hgx ((hOB gv).mpr (Mx (Mx (Mx (My (by rw[←e2];exact(hown1.trans e).symm)))))))
    have HRI:Hid (∀b,own1=some b→b≠ib):=Lh (fun b e e2=>HNI.out (HO6.out ib (Mx (Mx (Mx (My (by rw[←e2];exact(hown1.trans e).symm)))))))
    have HPI:Hid (∀b,own2=some b→b≠ib):=Lh (fun b e e2=>HNI.out (HO6.out ib (Mx (Mx (Mx (Mx (by rw[←e2];exact(hown2.trans e).symm)))))))
    have HPB:Hid (∀b,own2=some b→b≠gb):=Lh (fun b e=>(hat.px b (hown2.trans e)).1)
    have HRP:Hid (∀b,own1=some b→own2≠some b):=Lh (fun b e e2=>hat.rp b (hown1.trans e) (hown2.trans e2))
    have HROW:=Lh hr0
    have HROWP:=Lh hp0
    have HGV6:=Lh hat.var
    have HRV6:Hid (VarL w6 gv [.string t.s, .bool pg, .int .i64 l2, .int .i64 l3, .int .u64 l4, .int .i64 l5, .int .i64 l6]):=Lh (by rw[←HRU.out];exact hvr)
    have HLT1:Hid (∀b,own1=some b→b<w6.heap.size):=Lh (fun b e=>(hr0.lt (hown1.trans e)).2)
    have HLT2a:Hid (∀b,own2=some b→b<w6.heap.size):=Lh (fun b e=>(hp0.lt (hown2.trans e)).2)
    have HBS:Hid (base≤w6.heap.size):=Lh (Kz hat.bg (Nat.le_of_lt hat.var.s))
    have HLEN:Hid (vs.length≤1000000):=Lh (by rw[←hvs,Ky];have:=rulC_le cs;have:=HCS1.out;omega)
    have HLEN2:Hid (us.length≤1000000):=Lh (by rw[←hus,Ky,plcC_len];have:=rulC_le cs;have:=HCS1.out;omega)
    have HPO:Hid (∀u'∈([.string t.s, .bool pg, .int .i64 l2, .int .i64 l3, .int .u64 l4, .int .i64 l5, .int .i64 l6]:List Value),u'.oneCell'=true):=Lh (by intro u' hu;simp only[List.mem_cons,List.not_mem_nil,or_false]at hu;rcases hu with rfl|rfl|rfl|rfl|rfl|rfl|rfl<;>rfl)
    have HPO2:Hid (∀u'∈([.int .i64 x.a, .int .i64 x.b]:List Value),u'.oneCell'=true):=Lh (by intro u' hu;simp only[List.mem_cons,List.not_mem_nil,or_false]at hu;rcases hu with rfl|rfl<;>rfl)
    have HAT:=Lh hat
    have HIV6:=Lh (hf6.var HV3.out (fun e=>e.elim HIO.out (fun e=>by have:=HV.out.s;have:=HGV.out;omega)))
    have HF6:=Lh hf6
    have HG6:=Lh hg6
    have HVS:=Lh hvs
    have HUS:=Lh hus
    have HRV:Hid (rulV (ruleC x)= [.string t.s, .bool pg, .int .i64 l2, .int .i64 l3, .int .u64 l4, .int .i64 l5, .int .i64 l6]):=Lh (by
     have e0:x.w0=t:=by unfold It.w0;rw[HXW.out];rfl
     have e1:x.w1=u:=by unfold It.w1;rw[HXW.out];rfl
     unfold rulV ruleC ruleB
     simp only
     rw[e0,e1,HPG.out,HLL.out.1,HLL.out.2.1,HLL.out.2.2.1,HLL.out.2.2.2.1,HLL.out.2.2.2.2])
    clear hat hr0 hp0 hvr hf6 hg6 hvs hus hown1 hown2 hgx hOA hOB HM5 HF5 HG5' z2 z3 z4
    go_wp2
    refine wp_region_mixj 9 (TApp [.pointer (some ⟨gb,0,none⟩), .pointer (some ⟨gb,0,none⟩), .pointer (some ⟨gb,0,none⟩), .pointer (some ⟨gb,1,none⟩), .pointer (some ⟨gb,8,none⟩), .slice ra vs.length rc, .agg #[.string t.s, .bool pg, .int .i64 l2, .int .i64 l3, .int .u64 l4, .int .i64 l5, .int .i64 l6],undef,undef] 7 8 w6.heap.size [.string t.s, .bool pg, .int .i64 l2, .int .i64 l3, .int .u64 l4, .int .i64 l5, .int .i64 l6] 58 7 base vs own1) (JApp own1 8 w6) (by kernel_rfl) (by kernel_rfl) (JApp.start w6) ?_ ?_
    ·simp only[Kj,Jh]
     refine(Lz ?_ (Lz ?_ (Lz ?_ (Lz ?_ (Lz ?_ (Lz ?_ (Lz ?_ (Lz ?_ (Lz ?_ StepsJ.nil)))))))))
     all_goals(intro u0 W8 L hL hj hd;simp only[putAll,Mq,Lq,Lk,Lj,Ly,Lx])
     ·have hj1:=hj.light 0 (by decide) (Mj _ _)
      go_wp2
      first|exact hj1|exact rfl|exact⟨rfl,hj1⟩|exact⟨rfl,hj1,k4⟩|exact⟨_,rfl,rfl,hj1,k4⟩
     ·have hj1:=hj.light 1 (by decide) (Mj _ _)
      go_wp2
      first|exact hj1|exact rfl|exact⟨rfl,hj1⟩|exact⟨rfl,hj1,k4⟩|exact⟨_,rfl,rfl,hj1,k4⟩
     ·have e1:u0 1= .pointer (some ⟨gb,0,none⟩):=(hd.1 rfl (by decide)).2
      rw[e1]
      have hj1:=hj.light 2 (by decide) (Mj _ _)
      go_wp2
      first|exact hj1|exact rfl|exact⟨rfl,hj1⟩|exact⟨rfl,hj1,k4⟩|exact⟨_,rfl,rfl,hj1,k4⟩
     ·have e2:u0 2= .pointer (some ⟨gb,0,none⟩):=(hd.1 rfl (by decide)).2
      rw[e2]
      have hj1:=hj.light 3 (by decide) (Mj _ _)
      go_wp2
      first|exact hj1|exact rfl|exact⟨rfl,hj1⟩|exact⟨rfl,hj1,k4⟩|exact⟨_,rfl,rfl,hj1,k4⟩
     ·have e3:u0 3= .pointer (some ⟨gb,1,none⟩):=(hd.1 rfl (by decide)).2
      rw[e3]
      have hj1:=hj.light 4 (by decide) (Mj _ _)
      go_wp2
      first|exact hj1|exact rfl|exact⟨rfl,hj1⟩|exact⟨rfl,hj1,k4⟩|exact⟨_,rfl,rfl,hj1,k4⟩
     ·have e4:u0 4= .pointer (some ⟨gb,8,none⟩):=(hd.1 rfl (by decide)).2
      have c8:=(hj.var HGV6.out HRG.out).c 8 rfl
      rw[e4]
      have hj1:=hj.light 5 (by decide) (Mj _ _)
      go_wp2
      first|exact hj1|exact rfl|exact⟨rfl,hj1⟩|exact⟨rfl,hj1,k4⟩|exact⟨_,rfl,rfl,hj1,k4⟩
     ·have d0:=(hj.var HRV6.out HRR.out).c 0 rfl
      have d1:=(hj.var HRV6.out HRR.out).c 1 rfl
      have d2:=(hj.var HRV6.out HRR.out).c 2 rfl
      have d3:=(hj.var HRV6.out HRR.out).c 3 rfl
      have d4:=(hj.var HRV6.out HRR.out).c 4 rfl
      have d5:=(hj.var HRV6.out HRR.out).c 5 rfl
      have d6:=(hj.var HRV6.out HRR.out).c 6 rfl
      have hj1:=hj.light 6 (by decide) (Mj _ _)
      go_wp2
      first|exact hj1|exact rfl|exact⟨rfl,hj1⟩|exact⟨rfl,hj1,k4⟩|exact⟨_,rfl,rfl,hj1,k4⟩
     ·have e6:u0 6= .agg #[.string t.s, .bool pg, .int .i64 l2, .int .i64 l3, .int .u64 l4, .int .i64 l5, .int .i64 l6]:=(hd.1 rfl (by decide)).2
      have hsz:=hj.frm.size
      rw[e6]
      have hj1:=hj.light (w':=W8.alloc (.cells ([.string t.s, .bool pg, .int .i64 l2, .int .i64 l3, .int .u64 l4, .int .i64 l5, .int .i64 l6]:List Value).toArray 58)) 7 (by decide) ((Mj _ _).alloc (Mz _) _)
      go_wp2
      have hkp: ∀j v',j<9→L j=true→TApp [.pointer (some ⟨gb,0,none⟩), .pointer (some ⟨gb,0,none⟩), .pointer (some ⟨gb,0,none⟩), .pointer (some ⟨gb,1,none⟩), .pointer (some ⟨gb,8,none⟩), .slice ra vs.length rc, .agg #[.string t.s, .bool pg, .int .i64 l2, .int .i64 l3, .int .u64 l4, .int .i64 l5, .int .i64 l6],undef,undef] 7 8 w6.heap.size [.string t.s, .bool pg, .int .i64 l2, .int .i64 l3, .int .u64 l4, .int .i64 l5, .int .i64 l6] 58 7 base vs own1 j v' W8→TApp [.pointer (some ⟨gb,0,none⟩), .pointer (some ⟨gb,0,none⟩), .pointer (some ⟨gb,0,none⟩), .pointer (some ⟨gb,1,none⟩), .pointer (some ⟨gb,8,none⟩), .slice ra vs.length rc, .agg #[.string t.s, .bool pg, .int .i64 l2, .int .i64 l3, .int .u64 l4, .int .i64 l5, .int .i64 l6],undef,undef] 7 8 w6.heap.size [.string t.s, .bool pg, .int .i64 l2, .int .i64 l3, .int .u64 l4, .int .i64 l5, .int .i64 l6] 58 7 base vs own1 j v' (W8.alloc (.cells ([.string t.s, .bool pg, .int .i64 l2, .int .i64 l3, .int .u64 l4, .int .i64 l5, .int .i64 l6]:List Value).toArray 58)):=fun j v' _ _ h=>TApp.keep j v' h ((Mj _ _).alloc (Mz _) _)
      have hcn: ∃g,Value.slice (some ⟨W8.heap.size,0,none⟩) 1 1= .slice (some ⟨g,0,none⟩) 1 1∧w6.heap.size≤g∧g<(W8.alloc (.cells ([.string t.s, .bool pg, .int .i64 l2, .int .i64 l3, .int .u64 l4, .int .i64 l5, .int .i64 l6]:List Value).toArray 58)).heap.size∧∀j,j<7→(W8.alloc (.cells ([.string t.s, .bool pg, .int .i64 l2, .int .i64 l3, .int .u64 l4, .int .i64 l5, .int .i64 l6]:List Value).toArray 58)).cell? ⟨g,j,none⟩=some (([.string t.s, .bool pg, .int .i64 l2, .int .i64 l3, .int .u64 l4, .int .i64 l5, .int .i64 l6]:List Value).getD j undef):=⟨W8.heap.size,rfl,hsz,by simp,cells_new W8 [.string t.s, .bool pg, .int .i64 l2, .int .i64 l3, .int .u64 l4, .int .i64 l5, .int .i64 l6] 58⟩
      first|exact⟨hcn,hkp⟩|exact⟨hcn,hj1,hkp⟩|exact⟨_,rfl,hcn,hj1,hkp⟩|exact hcn
     ·have e5:u0 5= .slice ra vs.length rc:=(hd.1 rfl (by decide)).2
      obtain⟨g,e7,hg1,hg2,hg3⟩:=TApp.kb_ rfl (hd.2.1 rfl (by decide)).2
      have HG3:=Lh hg3
      have HRW:=Lh (hj.row hL HROW.out)
      have HSZ:Hid (base≤W8.heap.size):=Lh (Kz HBS.out hj.frm.size)
      rw[e5,e7]
      go_wp2_with (at_builtin;(refine wp_rowK (T:=52) (t:=58) (sz:=7) rfl _ _ rfl Tryz.underlying52 info_rul rfl (by decide) (by decide) base _ _ rfl HRW.out g [.string t.s, .bool pg, .int .i64 l2, .int .i64 l3, .int .u64 l4, .int .i64 l5, .int .i64 l6] rfl rfl HG3.out HPO.out HLEN.out HSZ.out ?_))
      intro v' w' hr' ho' hob'
      have hj1:=hj.app (own:=own1) (by rw[←HOWN1.out];exact ho')
      have hnew:v'.ownBlock=own1∨∃b,v'.ownBlock=some b∧w6.heap.size≤b:=(by rw[←HOWN1.out];exact hob':v'.ownBlock=own1∨v'.ownBlock=some W8.heap.size).imp id (fun e=>⟨_,e,hj.frm.size⟩)
      have hkp: ∀j v2,j<9→L j=true→TApp [.pointer (some ⟨gb,0,none⟩), .pointer (some ⟨gb,0,none⟩), .pointer (some ⟨gb,0,none⟩), .pointer (some ⟨gb,1,none⟩), .pointer (some ⟨gb,8,none⟩), .slice ra vs.length rc, .agg #[.string t.s, .bool pg, .int .i64 l2, .int .i64 l3, .int .u64 l4, .int .i64 l5, .int .i64 l6],undef,undef] 7 8 w6.heap.size [.string t.s, .bool pg, .int .i64 l2, .int .i64 l3, .int .u64 l4, .int .i64 l5, .int .i64 l6] 58 7 base vs own1 j v2 W8→TApp [.pointer (some ⟨gb,0,none⟩), .pointer (some ⟨gb,0,none⟩), .pointer (some ⟨gb,0,none⟩), .pointer (some ⟨gb,1,none⟩), .pointer (some ⟨gb,8,none⟩), .slice ra vs.length rc, .agg #[.string t.s, .bool pg, .int .i64 l2, .int .i64 l3, .int .u64 l4, .int .i64 l5, .int .i64 l6],undef,undef] 7 8 w6.heap.size [.string t.s, .bool pg, .int .i64 l2, .int .i64 l3, .int .u64 l4, .int .i64 l5, .int .i64 l6] 58 7 base vs own1 j v2 w':=fun j v2 _ hl h=>TApp.grow (by rw[←HOWN1.out];exact ho') HLT1.out hL j v2 hl h
      go_wp2
      first|exact⟨⟨hr',hnew⟩,hkp⟩|exact⟨⟨hr',hnew⟩,hj1,hkp⟩|exact⟨_,rfl,⟨hr',hnew⟩,hj1,hkp⟩|exact⟨hr',hnew⟩|exact⟨v',rfl,⟨hr',hnew⟩,hj1,hkp⟩
    ·intro u0 W8 L hall hj ht
     have e0:u0 0= .pointer (some ⟨gb,0,none⟩):=ht 0 (by decide)
     obtain⟨hrw,how⟩:=TApp.ka_ (by decide) (ht 8 (by decide))
     simp only[Kj,Jh,Jj,Jk,putAll,Mq,Lq,Lk,Lj,Ly,Lx]
     rw[e0]
     have HFR:=Lh hj.end_
     obtain⟨a8,c8,h8⟩:=hrw.size
     rw[Kq,List.length_singleton]at h8
     rw[h8]at hrw how ⊢
     have V2:=HFR.out.var HGV6.out (fun e=>HRG.out gb e.symm rfl)
     have HV8:=Lh V2
     have HRW:=Lh hrw
     have HHW:=Lh how
     have c0:=V2.c 8 rfl
     have q0':=V2.q 8 rfl
     obtain⟨w7,hw7⟩: ∃w7,W8.setCell ⟨gb,8,none⟩ (.slice a8 (vs.length+1) c8)=w7:=⟨_,rfl⟩
     have HW7:=Lh hw7
     have HZ7:Hid (w7.heap.size=W8.heap.size):=Lh (by rw[←hw7];simp)
     have HZ8:=Lh HFR.out.size
     have HGV7:Hid (VarL w7 gb ((goalL fpv nm cs lv (.slice ra vs.length rc) (.slice pa us.length pc)).set 8 (.slice a8 (vs.length+1) c8))):=Lh (by rw[←hw7];exact HV8.out.set 8 _ (by simp[goalL]))
     have HIV7:=Lh (show VarL w7 ib (itemL x wsv kv mb t.s) by rw[←hw7];exact(HFR.out.var HIV6.out (fun e=>HRI.out ib e.symm rfl)).stay (lset_else _ _ _ _ _ (Ne.symm HGI.out)))
     have HROW2:Hid (RowK 39 2 w7 base (.slice pa us.length pc) us):=Lh (by rw[←hw7];exact(HROWP.out.kept (fun b e=>HFR.out.keep b (HLT2a.out b (HOWN2.out.symm.trans e)) (fun e2=>HRP.out b e2.symm (HOWN2.out.symm.trans e)))).kept (fun b e=>lset_else _ _ _ _ _ (HPB.out b (HOWN2.out.symm.trans e))))
     have HBS2:Hid (base≤w7.heap.size):=Lh (by have:=HBS.out;have:=HZ7.out;have:=HZ8.out;omega)
     have HLT2:Hid (∀b,own2=some b→b<w7.heap.size):=Lh (fun b e=>by have:=HLT2a.out b e;have:=HZ7.out;have:=HZ8.out;omega)
     clear hrw how V2 hj hall ht h8 hw7
     go_upto_region 9 with fail
     rw[HW7.out]
     clear c0 q0'
     refine wp_region_mixj 12 (TApp [.pointer (some ⟨gb,0,none⟩), .pointer (some ⟨gb,0,none⟩), .pointer (some ⟨gb,0,none⟩), .pointer (some ⟨gb,9,none⟩), .slice pa us.length pc, .pointer (some ⟨ib,0,none⟩), .pointer (some ⟨ib,0,none⟩), .pointer (some ⟨ib,0,none⟩), .pointer (some ⟨ib,4,none⟩), .agg #[.int .i64 x.a, .int .i64 x.b],undef,undef] 10 11 w7.heap.size [.int .i64 x.a, .int .i64 x.b] 39 2 base us own2) (JApp own2 11 w7) (by kernel_rfl) (by kernel_rfl) (JApp.start w7) ?_ ?_
     ·simp only[Kj,Jh]
      refine(Lz ?_ (Lz ?_ (Lz ?_ (Lz ?_ (Lz ?_ (Lz ?_ (Lz ?_ (Lz ?_ (Lz ?_ (Lz ?_ (Lz ?_ (Lz ?_ StepsJ.nil))))))))))))
      all_goals(intro u0 V9 L hL hj hd;simp only[putAll,Mq,Lq,Lk,Lj,Ly,Lx])
      ·have hj1:=hj.light 0 (by decide) (Mj _ _)
       go_wp2
       first|exact hj1|exact rfl|exact⟨rfl,hj1⟩|exact⟨rfl,hj1,k4⟩|exact⟨_,rfl,rfl,hj1,k4⟩
      ·have hj1:=hj.light 1 (by decide) (Mj _ _)
       go_wp2
       first|exact hj1|exact rfl|exact⟨rfl,hj1⟩|exact⟨rfl,hj1,k4⟩|exact⟨_,rfl,rfl,hj1,k4⟩
      ·have e1:u0 1= .pointer (some ⟨gb,0,none⟩):=(hd.1 rfl (by decide)).2
       rw[e1]
       have hj1:=hj.light 2 (by decide) (Mj _ _)
       go_wp2
       first|exact hj1|exact rfl|exact⟨rfl,hj1⟩|exact⟨rfl,hj1,k4⟩|exact⟨_,rfl,rfl,hj1,k4⟩
      ·have e2:u0 2= .pointer (some ⟨gb,0,none⟩):=(hd.1 rfl (by decide)).2
       rw[e2]
       have hj1:=hj.light 3 (by decide) (Mj _ _)
       go_wp2
       first|exact hj1|exact rfl|exact⟨rfl,hj1⟩|exact⟨rfl,hj1,k4⟩|exact⟨_,rfl,rfl,hj1,k4⟩
      ·have e3:u0 3= .pointer (some ⟨gb,9,none⟩):=(hd.1 rfl (by decide)).2
       have c9:=(hj.var HGV7.out HPB.out).c 9 rfl
       rw[e3]
       have hj1:=hj.light 4 (by decide) (Mj _ _)
       go_wp2
       first|exact hj1|exact rfl|exact⟨rfl,hj1⟩|exact⟨rfl,hj1,k4⟩|exact⟨_,rfl,rfl,hj1,k4⟩
      ·have hj1:=hj.light 5 (by decide) (Mj _ _)
       go_wp2
       first|exact hj1|exact rfl|exact⟨rfl,hj1⟩|exact⟨rfl,hj1,k4⟩|exact⟨_,rfl,rfl,hj1,k4⟩
      ·have e5:u0 5= .pointer (some ⟨ib,0,none⟩):=(hd.1 rfl (by decide)).2
       rw[e5]
       have hj1:=hj.light 6 (by decide) (Mj _ _)
       go_wp2
       first|exact hj1|exact rfl|exact⟨rfl,hj1⟩|exact⟨rfl,hj1,k4⟩|exact⟨_,rfl,rfl,hj1,k4⟩
      ·have e6:u0 6= .pointer (some ⟨ib,0,none⟩):=(hd.1 rfl (by decide)).2
       rw[e6]
       have hj1:=hj.light 7 (by decide) (Mj _ _)
       go_wp2
       first|exact hj1|exact rfl|exact⟨rfl,hj1⟩|exact⟨rfl,hj1,k4⟩|exact⟨_,rfl,rfl,hj1,k4⟩
      ·have e7:u0 7= .pointer (some ⟨ib,0,none⟩):=(hd.1 rfl (by decide)).2
       rw[e7]
       have hj1:=hj.light 8 (by decide) (Mj _ _)
       go_wp2
       first|exact hj1|exact rfl|exact⟨rfl,hj1⟩|exact⟨rfl,hj1,k4⟩|exact⟨_,rfl,rfl,hj1,k4⟩
      ·have e8:u0 8= .pointer (some ⟨ib,4,none⟩):=(hd.1 rfl (by decide)).2
       have c4:=(hj.var HIV7.out HPI.out).c 4 rfl
       have c5:=(hj.var HIV7.out HPI.out).c 5 rfl
       rw[e8]
       have hj1:=hj.light 9 (by decide) (Mj _ _)
       go_wp2
       first|exact hj1|exact rfl|exact⟨rfl,hj1⟩|exact⟨rfl,hj1,k4⟩|exact⟨_,rfl,rfl,hj1,k4⟩
      ·have e9:u0 9= .agg #[.int .i64 x.a, .int .i64 x.b]:=(hd.1 rfl (by decide)).2
       have hsz:=hj.frm.size
       rw[e9]
       have hj1:=hj.light (w':=V9.alloc (.cells ([.int .i64 x.a, .int .i64 x.b]:List Value).toArray 39)) 10 (by decide) ((Mj _ _).alloc (Mz _) _)
       go_wp2
       have hkp: ∀j v',j<12→L j=true→TApp [.pointer (some ⟨gb,0,none⟩), .pointer (some ⟨gb,0,none⟩), .pointer (some ⟨gb,0,none⟩), .pointer (some ⟨gb,9,none⟩), .slice pa us.length pc, .pointer (some ⟨ib,0,none⟩), .pointer (some ⟨ib,0,none⟩), .pointer (some ⟨ib,0,none⟩), .pointer (some ⟨ib,4,none⟩), .agg #[.int .i64 x.a, .int .i64 x.b],undef,undef] 10 11 w7.heap.size [.int .i64 x.a, .int .i64 x.b] 39 2 base us own2 j v' V9→TApp [.pointer (some ⟨gb,0,none⟩), .pointer (some ⟨gb,0,none⟩), .pointer (some ⟨gb,0,none⟩), .pointer (some ⟨gb,9,none⟩), .slice pa us.length pc, .pointer (some ⟨ib,0,none⟩), .pointer (some ⟨ib,0,none⟩), .pointer (some ⟨ib,0,none⟩), .pointer (some ⟨ib,4,none⟩), .agg #[.int .i64 x.a, .int .i64 x.b],undef,undef] 10 11 w7.heap.size [.int .i64 x.a, .int .i64 x.b] 39 2 base us own2 j v' (V9.alloc (.cells ([.int .i64 x.a, .int .i64 x.b]:List Value).toArray 39)):=fun j v' _ _ h=>TApp.keep j v' h ((Mj _ _).alloc (Mz _) _)
       have hcn: ∃g,Value.slice (some ⟨V9.heap.size,0,none⟩) 1 1= .slice (some ⟨g,0,none⟩) 1 1∧w7.heap.size≤g∧g<(V9.alloc (.cells ([.int .i64 x.a, .int .i64 x.b]:List Value).toArray 39)).heap.size∧∀j,j<2→(V9.alloc (.cells ([.int .i64 x.a, .int .i64 x.b]:List Value).toArray 39)).cell? ⟨g,j,none⟩=some (([.int .i64 x.a, .int .i64 x.b]:List Value).getD j undef):=⟨V9.heap.size,rfl,hsz,by simp,cells_new V9 [.int .i64 x.a, .int .i64 x.b] 39⟩
       first|exact⟨hcn,hkp⟩|exact⟨hcn,hj1,hkp⟩|exact⟨_,rfl,hcn,hj1,hkp⟩|exact hcn
      ·have e4:u0 4= .slice pa us.length pc:=(hd.1 rfl (by decide)).2
       obtain⟨g,e10,hg1,hg2,hg3⟩:=TApp.kb_ rfl (hd.2.1 rfl (by decide)).2
       have HG3:=Lh hg3
       have HRW:=Lh (hj.row hL HROW2.out)
       have HSZ:Hid (base≤V9.heap.size):=Lh (Kz HBS2.out hj.frm.size)
       rw[e4,e10]
       go_wp2_with (at_builtin;(refine wp_rowK (T:=103) (t:=39) (sz:=2) rfl _ _ rfl Tryz.underlying103 info_plc rfl (by decide) (by decide) base _ _ rfl HRW.out g [.int .i64 x.a, .int .i64 x.b] rfl rfl HG3.out HPO2.out HLEN2.out HSZ.out ?_))
       intro v' w' hr' ho' hob'
       have hj1:=hj.app (own:=own2) (by rw[←HOWN2.out];exact ho')
       have hnew:v'.ownBlock=own2∨∃b,v'.ownBlock=some b∧w7.heap.size≤b:=(by rw[←HOWN2.out];exact hob':v'.ownBlock=own2∨v'.ownBlock=some V9.heap.size).imp id (fun e=>⟨_,e,hj.frm.size⟩)
       have hkp: ∀j v2,j<12→L j=true→TApp [.pointer (some ⟨gb,0,none⟩), .pointer (some ⟨gb,0,none⟩), .pointer (some ⟨gb,0,none⟩), .pointer (some ⟨gb,9,none⟩), .slice pa us.length pc, .pointer (some ⟨ib,0,none⟩), .pointer (some ⟨ib,0,none⟩), .pointer (some ⟨ib,0,none⟩), .pointer (some ⟨ib,4,none⟩), .agg #[.int .i64 x.a, .int .i64 x.b],undef,undef] 10 11 w7.heap.size [.int .i64 x.a, .int .i64 x.b] 39 2 base us own2 j v2 V9→TApp [.pointer (some ⟨gb,0,none⟩), .pointer (some ⟨gb,0,none⟩), .pointer (some ⟨gb,0,none⟩), .pointer (some ⟨gb,9,none⟩), .slice pa us.length pc, .pointer (some ⟨ib,0,none⟩), .pointer (some ⟨ib,0,none⟩), .pointer (some ⟨ib,0,none⟩), .pointer (some ⟨ib,4,none⟩), .agg #[.int .i64 x.a, .int .i64 x.b],undef,undef] 10 11 w7.heap.size [.int .i64 x.a, .int .i64 x.b] 39 2 base us own2 j v2 w':=fun j v2 _ hl h=>TApp.grow (by rw[←HOWN2.out];exact ho') HLT2.out hL j v2 hl h
       go_wp2
       first|exact⟨⟨hr',hnew⟩,hkp⟩|exact⟨⟨hr',hnew⟩,hj1,hkp⟩|exact⟨_,rfl,⟨hr',hnew⟩,hj1,hkp⟩|exact⟨hr',hnew⟩|exact⟨v',rfl,⟨hr',hnew⟩,hj1,hkp⟩
     ·intro u0 V9 L hall hj ht
      have e0:u0 0= .pointer (some ⟨gb,0,none⟩):=ht 0 (by decide)
      obtain⟨hrw,how⟩:=TApp.ka_ (by decide) (ht 11 (by decide))
      simp only[Kj,Jh,Jj,Jk,putAll,Mq,Lq,Lk,Lj,Ly,Lx]
      rw[e0]
      have HFR2:=Lh hj.end_
      obtain⟨a9,c9,h9⟩:=hrw.size
      rw[Kq,List.length_singleton]at h9
      rw[h9]at hrw how ⊢
      have V2:=HFR2.out.var HGV7.out (fun e=>HPB.out gb e.symm rfl)
      have HRW2:=Lh hrw
      have HHW2:=Lh how
      have HV9:=Lh (HFR2.out.var HIV7.out (fun e=>HPI.out ib e.symm rfl))
      have c0:=V2.c 9 rfl
      have q0':=V2.q 9 rfl
      clear hrw how V2 hj hall ht h9
      go_wp2
      first|go_end0|refine bodyPost_ret (results_none rfl _ _ _) rfl ?_
      obtain⟨hfin,hfr,hgr⟩:=HAT.out.ruled HX.out HN.out (rv':= .slice a8 (vs.length+1) c8) (pv':= .slice a9 (us.length+1) c9) (w1:=W8) (w2:=V9) (by rw[HVS.out,HRV.out];exact HRW.out) (by rw[HOWN1.out];exact HHW.out) (by rw[HOWN1.out];exact HFR.out) (by rw[HUS.out];exact HRW2.out) (by rw[HOWN2.out];refine HHW2.out.imp id (fun⟨b,h1,h2⟩=>⟨b,h1,by have:=HZ7.out;omega⟩)) (by rw[HOWN2.out,HW7.out];exact HFR2.out)
      have hz:W.heap.size≤w6.heap.size:=Kz HZ3.out HF6.out.size
      have hG3:Grown (fun i=>O i∨i=ib) (fun i=>O i∨i=gv) W.heap.size:=fun i hi=>hi.elim (fun h=>My (My h)) (fun h=>Mx (by rw[h];exact HGV.out))
      have hO6:Grown O O6 W.heap.size:=fun i hi=>by
       rcases HG6.out i hi with(h|h)|h
       ·exact My h
       ·exact Mx (by rw[h];exact HGV.out)
       ·exact Mx (Kz HZ3.out h)
      refine⟨rfl,fun i=>OB i∨ownG gb lv (.slice a8 (vs.length+1) c8) (.slice a9 (us.length+1) c9) i,⟨OB,lv,_,_,hfin,fun i=>Iff.rfl⟩,?_,fun i hi=>?_,?_⟩
      ·have h1:Frm (fun i=>O i∨i=ib) W w3:=(Frm.of HB2.out).trans (HF3.out.wider (O':=fun i=>O i∨i=ib) (fun i e=>Mx e)) (Grown.refl _ _)
       exact(h1.trans HF6.out hG3).trans hfr (fun i hi=>(hO6 i (HO6.out i (Mx hi))).imp My id)
      ·rcases hi with hi|hi
       ·exact hO6 i (HO6.out i (My hi))
       ·rcases hgr i hi with h|h
        ·exact hO6 i (HO6.out i (Mx h))
        ·exact Mx (Kz hz h)
      ·rw[HWSV.out]
       exact HV9.out.stay (lset_else _ _ _ _ _ (Ne.symm HGI.out))
end
end Go.Proofs.YtalcagmhdppdjaaGreatDoor
