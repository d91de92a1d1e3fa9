/-
  The document's code (an item's fault, behind those that count): walked.
-/
import Derived.Test.YtalcagmhdppdjaaGreatDoorPkCompileTurns24
set_option maxRecDepth 100000
set_option maxHeartbeats 8000000
namespace Go.Proofs.YtalcagmhdppdjaaGreatDoor
open Lib renaming hid→Lh
open List renaming setIfInBounds_toArray→Lq,set_cons_zero→Lj,set_cons_succ→Lk,take_succ_cons→Kj,take_zero→Jh,drop_succ_cons→Jj,drop_zero→Jk
open Nat renaming reduceAdd→Lx,zero_add→Ly,le_refl→Mz,lt_of_lt_of_le→Kx,le_trans→Kz
open StepsJ renaming cons→Lz
open StepsU renaming cons→Mh
open Go.RowKit.Below renaming refl→Mj
open Or renaming inr→Mx,inl→My
section
open Go.RowKit
theorem not_form (x:It) (W:World) (sb ib mb:Nat) (wa:Option Addr) (wc:Nat) (kv:Value) (sec:ByteArray) (h:VarL W ib (itemL x (.slice wa x.words.length wc) kv mb sec)) (hno: ¬(x.words.length=0∧x.block=true)):
  Calls Tryz.prog 35 #[.pointer (some ⟨sb,0,none⟩), .pointer (some ⟨ib,0,none⟩)] W fun e w'=>e=up 6∧Below W.heap.size W w':=by
 have HF:Hid (Calls Tryz.prog 59 #[.pointer (some ⟨ib,0,none⟩), .int .i64 0, .bool true] W fun e w'=>e=up 6∧w'=W):=Lh (form_no x 0 true W ib mb wa wc kv sec h hno)
 clear h hno
 go_enter Tryz.func35,Tryz.ntmps35
 go_wp2_with (go_at_call 59;(with_reducible refine(HF.out).mono ?_);rintro e w1 ⟨rfl,rfl⟩)
 first|exact⟨rfl,Mj _ _⟩|exact⟨rfl,rfl,Mj _ _⟩
theorem not_known (x:It) (W:World) (sb ib mb:Nat) (wa:Option Addr) (wc:Nat) (kv:Value) (sec:ByteArray) (h:VarL W ib (itemL x (.slice wa x.words.length wc) kv mb sec)) (hfo:x.words.length=0∧x.block=true) (f:ByteArray→ByteArray→Nat) (hc:CntIs W mb f) (hf:f x.name ⟨#[]⟩≠0):Calls Tryz.prog 35 #[.pointer (some ⟨sb,0,none⟩), .pointer (some ⟨ib,0,none⟩)] W fun e w'=>e=up 18∧Below W.heap.size W w':=by
 obtain⟨wv,hwv⟩: ∃v,Value.slice wa x.words.length wc=v:=⟨_,rfl⟩
 have HF:Hid (Calls Tryz.prog 59 #[.pointer (some ⟨ib,0,none⟩), .int .i64 0, .bool true] W fun e w'=>e= .returned (.tuple #[])∧w'=W):=Lh (form_yes x 0 true W ib mb wa wc kv sec h hfo)
 rw[hwv]at h
 have HV:=Lh h
 have HO:=Lh (once_no x W ib mb wv kv sec f h hc hf)
 clear h hfo hc hf hwv HV
 go_enter Tryz.func35,Tryz.ntmps35
 go_wp2_with (first
  |(go_at_call 59;(with_reducible refine(HF.out).mono ?_);rintro e w1' ⟨rfl,hw1⟩;rw[hw1];clear hw1 w1')
  |(go_at_call 63;(with_reducible refine(HO.out).mono ?_);rintro e w2 ⟨rfl,g2⟩;have G2:=Lh g2;clear g2))
 first|exact⟨rfl,G2.out⟩|exact⟨rfl,rfl,G2.out⟩
def TNMap (kv:Value) (sb ib b1:Nat):Nat→Value→World→Prop
 |0,v,_=>v= .pointer (some ⟨sb,0,none⟩)
 |1,v,_=>v= .pointer (some ⟨sb,0,none⟩)
 |2,v,_=>v= .pointer (some ⟨sb,0,none⟩)
 |3,v,_=>v= .pointer (some ⟨ib,0,none⟩)
 |4,v,_=>v= .pointer (some ⟨ib,0,none⟩)
 |5,v,_=>v= .pointer (some ⟨ib,0,none⟩)
 |6,v,_=>v= .pointer (some ⟨ib,3,none⟩)
 |7,v,_=>v=kv
 |9,v,_=>v= .pointer (some ⟨sb,2,none⟩)
 |10,v,_=>v= .pointer (some ⟨sb,2,none⟩)
 |11,v,_=>v= .pointer (some ⟨sb,2,none⟩)
 |12,v,w=>SpanV b1 99 100 1 64 sb 2 v w
 |14,v,_=>v= .pointer (some ⟨sb,2,none⟩)
 |15,v,_=>v= .pointer (some ⟨sb,2,none⟩)
 |16,v,_=>v= .pointer (some ⟨sb,3,none⟩)
 |17,v,w=>SpanV b1 99 100 0 64 sb 3 v w
 |19,v,_=>v= .pointer (some ⟨sb,2,none⟩)
 |20,v,_=>v= .pointer (some ⟨sb,2,none⟩)
 |21,v,_=>v= .pointer (some ⟨sb,4,none⟩)
 |22,v,w=>SpanV b1 101 102 1 86400 sb 4 v w
 |24,v,_=>v= .pointer (some ⟨sb,2,none⟩)
 |25,v,_=>v= .pointer (some ⟨sb,2,none⟩)
 |26,v,_=>v= .pointer (some ⟨sb,5,none⟩)
 |27,v,w=>SpanV b1 101 102 1 604800 sb 5 v w
 |29,v,_=>v= .pointer (some ⟨sb,2,none⟩)
 |30,v,_=>v= .pointer (some ⟨sb,2,none⟩)
 |31,v,_=>v= .pointer (some ⟨sb,6,none⟩)
 |32,v,w=>SpanV b1 101 102 0 2592000 sb 6 v w
 |_,_,_=>True
theorem TNMap.ck {kv:Value} {sb ib b1:Nat} (i:Nat) (v:Value) (w w':World) (h:TNMap kv sb ib b1 i v w) (hb:CK w w'):TNMap kv sb ib b1 i v w':=by
 match i,h with
 |0,h=>exact h
 |1,h=>exact h
 |2,h=>exact h
 |3,h=>exact h
 |4,h=>exact h
 |5,h=>exact h
 |6,h=>exact h
 |7,h=>exact h
 |8,_=>exact trivial
 |9,h=>exact h
 |10,h=>exact h
 |11,h=>exact h
 |12,h=>exact SpanV.ck h hb
 |13,_=>exact trivial
 |14,h=>exact h
 |15,h=>exact h
 |16,h=>exact h
 |17,h=>exact SpanV.ck h hb
 |18,_=>exact trivial
 |19,h=>exact h
 |20,h=>exact h
 |21,h=>exact h
 |22,h=>exact SpanV.ck h hb
 |23,_=>exact trivial
 |24,h=>exact h
 |25,h=>exact h
 |26,h=>exact h
 |27,h=>exact SpanV.ck h hb
 |28,_=>exact trivial
 |29,h=>exact h
 |30,h=>exact h
 |31,h=>exact h
 |32,h=>exact SpanV.ck h hb
 |33,_=>exact trivial
 |34,_=>exact trivial
 |m+35,_=>exact trivial
theorem not_set (x:It) (W:World) (sb ib mb:Nat) (wa:Option Addr) (wc:Nat) (kv:Value) (sec:ByteArray) (h:VarL W ib (itemL x (.slice wa x.words.length wc) kv mb sec)) (hfo:x.words.length=0∧x.block=true) (f:ByteArray→ByteArray→Nat) (hc:CntIs W mb f) (hf:f x.name ⟨#[]⟩=0) (base:Nat) (cs:List It) (F:List Flt) (O:Foot) (hM:M0 base sb cs F O W) (hnm:x.name=nNotify) (hnn: ∀c∈cs,c.name≠nNotify) (hio: ¬O ib) (D:Nat) (S:Foot) (hkd:ItemsIs D W S kv x.kids) (hS: ∀b,S b→b<W.heap.size) (hSO: ∀b,S b→¬O b) (hwk: ∀y∈x.kids,WordsOk y.words) (hfew:F.length+4*cntL x.kids≤1000000):Calls Tryz.prog 35 #[.pointer (some ⟨sb,0,none⟩), .pointer (some ⟨ib,0,none⟩)] W fun e w'=>e= .returned (.tuple #[])∧∃O',M0 base sb (cs++ [x]) (F++subT x) O' w'∧Frm (fun i=>O i∨i=ib) W w'∧Grown O O' W.heap.size∧VarL w' ib (itemL x (.slice wa x.words.length wc) kv mb sec):=by
 obtain⟨wv,hwv⟩: ∃v,Value.slice wa x.words.length wc=v:=⟨_,rfl⟩
 have HF:Hid (Calls Tryz.prog 59 #[.pointer (some ⟨ib,0,none⟩), .int .i64 0, .bool true] W fun e w'=>e= .returned (.tuple #[])∧w'=W):=Lh (form_yes x 0 true W ib mb wa wc kv sec h hfo)
 rw[hwv]at h
 have HV:=Lh h
 have HO:=Lh (once_yes x W ib mb wv kv sec f h hc hf)
 have HM:Hid (M3 base sb (golC cs) [] F O W):=Lh (by
  have e:notC cs []= []:=by
   have: ∀l:List It,(∀c∈l,c∈cs)→notC l []= []:=fun l hl=>by
    induction l with
    |nil=>rfl
    |cons c l ih=>
     have hc:=hl c (List.mem_cons_self ..)
     rw[notC,if_pos ((hM.1 c hc).resolve_right (hnn c hc))]
     exact ih (fun d hd=>hl d (List.mem_cons_of_mem _ hd))
   exact this cs (fun c h=>h)
  have:=hM.2
  rw[e]at this
  exact this)
 have HM00:=Lh hM
 have HNM:=Lh hnm
 have HIO:=Lh hio
 have HKD:=Lh hkd
 have HSL:=Lh hS
 have HSO:=Lh hSO
 have HWK:=Lh hwk
 have HFEW:=Lh hfew
 have HWV:=Lh hwv
 have HOL:Hid (∀b,O b→b<W.heap.size):=Lh ((M0.doing base sb).lt _ _ _ _ hM)
 clear h hfo hc hf hwv hM hnm hnn hio hkd hS hSO hwk hfew
 go_enter Tryz.func35,Tryz.ntmps35
 go_upto_region 3 with(first
  |(go_at_call 59;(with_reducible refine(HF.out).mono ?_);rintro e w1' ⟨rfl,hw1⟩;rw[hw1];clear hw1 w1')
  |(go_at_call 63;(with_reducible refine(HO.out).mono ?_);rintro e w2 ⟨rfl,g2⟩;have G2:=Lh g2;clear g2))
 have HV2:=Lh (HV.out.after G2.out)
 have HM2:Hid (M3 base sb (golC cs) [] F O w2):=Lh ((M3.doing base sb (golC cs)).keep _ _ _ _ _ HM.out (fun b hb=>G2.out.block b (HOL.out b hb)))
 have HKD2:=Lh (HKD.out.keep (w':=w2) (fun _ h=>h) (fun b hb=>G2.out.block b (HSL.out b hb)))
 refine wp_region_mixv 35 (TNMap kv sb ib w2.heap.size) (JMap tabN 8 34 w2) (by kernel_rfl) (by kernel_rfl) (JMap.start tabN 8 34 w2) ?_ ?_
 ·simp only[Kj,Jh]
  refine(Mh ?_ (Mh ?_ (Mh ?_ (Mh ?_ (Mh ?_ (Mh ?_ (Mh ?_ (Mh ?_ (Mh ?_ (Mh ?_ (Mh ?_ (Mh ?_ (Mh ?_ (Mh ?_ (Mh ?_ (Mh ?_ (Mh ?_ (Mh ?_ (Mh ?_ (Mh ?_ (Mh ?_ (Mh ?_ (Mh ?_ (Mh ?_ (Mh ?_ (Mh ?_ (Mh ?_ (Mh ?_ (Mh ?_ (Mh ?_ (Mh ?_ (Mh ?_ (Mh ?_ (Mh ?_ (Mh ?_ StepsU.nil)))))))))))))))))))))))))))))))))))
  all_goals(intro u0 W9 L hL hj hd;simp only[putAll,Act.put,Lq,Lk,Lj,Ly,Lx])
  ·have hj1:=fun v=>hj.light 0 (by decide) (by decide) (by decide) hL (Mj _ _) v
   have hkp: ∀j v',j<35→L j=true→TNMap kv sb ib w2.heap.size j v' W9→TNMap kv sb ib w2.heap.size j v' W9:=fun j v' _ _ h=>TNMap.ck j v' W9 W9 h (fun _ _ h=>h)
   go_wp2
   first|exact rfl|exact hj1 _|exact⟨⟨undef,trivial⟩,hkp⟩|exact⟨hj1 _,hkp⟩|exact⟨rfl,hj1 _,hkp⟩|exact⟨_,rfl,rfl,hj1 _,hkp⟩|exact⟨_,rfl,trivial,hj1 _,hkp⟩|exact⟨trivial,hj1 _,hkp⟩|exact⟨hj1 _,k4⟩
  ·have e0:u0 0= .pointer (some ⟨sb,0,none⟩):=(hd.1 rfl (by decide)).2
   rw[e0]
   have hj1:=fun v=>hj.light 1 (by decide) (by decide) (by decide) hL (Mj _ _) v
   have hkp: ∀j v',j<35→L j=true→TNMap kv sb ib w2.heap.size j v' W9→TNMap kv sb ib w2.heap.size j v' W9:=fun j v' _ _ h=>TNMap.ck j v' W9 W9 h (fun _ _ h=>h)
   go_wp2
   first|exact rfl|exact hj1 _|exact⟨⟨undef,trivial⟩,hkp⟩|exact⟨hj1 _,hkp⟩|exact⟨rfl,hj1 _,hkp⟩|exact⟨_,rfl,rfl,hj1 _,hkp⟩|exact⟨_,rfl,trivial,hj1 _,hkp⟩|exact⟨trivial,hj1 _,hkp⟩|exact⟨hj1 _,k4⟩
  ·have e1:u0 1= .pointer (some ⟨sb,0,none⟩):=(hd.1 rfl (by decide)).2
   rw[e1]
   have hj1:=fun v=>hj.light 2 (by decide) (by decide) (by decide) hL (Mj _ _) v
   have hkp: ∀j v',j<35→L j=true→TNMap kv sb ib w2.heap.size j v' W9→TNMap kv sb ib w2.heap.size j v' W9:=fun j v' _ _ h=>TNMap.ck j v' W9 W9 h (fun _ _ h=>h)
   go_wp2
   first|exact rfl|exact hj1 _|exact⟨⟨undef,trivial⟩,hkp⟩|exact⟨hj1 _,hkp⟩|exact⟨rfl,hj1 _,hkp⟩|exact⟨_,rfl,rfl,hj1 _,hkp⟩|exact⟨_,rfl,trivial,hj1 _,hkp⟩|exact⟨trivial,hj1 _,hkp⟩|exact⟨hj1 _,k4⟩
  ·have hj1:=fun v=>hj.light 3 (by decide) (by decide) (by decide) hL (Mj _ _) v
   have hkp: ∀j v',j<35→L j=true→TNMap kv sb ib w2.heap.size j v' W9→TNMap kv sb ib w2.heap.size j v' W9:=fun j v' _ _ h=>TNMap.ck j v' W9 W9 h (fun _ _ h=>h)
   go_wp2
   first|exact rfl|exact hj1 _|exact⟨⟨undef,trivial⟩,hkp⟩|exact⟨hj1 _,hkp⟩|exact⟨rfl,hj1 _,hkp⟩|exact⟨_,rfl,rfl,hj1 _,hkp⟩|exact⟨_,rfl,trivial,hj1 _,hkp⟩|exact⟨trivial,hj1 _,hkp⟩|exact⟨hj1 _,k4⟩
  ·have e3:u0 3= .pointer (some ⟨ib,0,none⟩):=(hd.1 rfl (by decide)).2
   rw[e3]
   have hj1:=fun v=>hj.light 4 (by decide) (by decide) (by decide) hL (Mj _ _) v
   have hkp: ∀j v',j<35→L j=true→TNMap kv sb ib w2.heap.size j v' W9→TNMap kv sb ib w2.heap.size j v' W9:=fun j v' _ _ h=>TNMap.ck j v' W9 W9 h (fun _ _ h=>h)
   go_wp2
   first|exact rfl|exact hj1 _|exact⟨⟨undef,trivial⟩,hkp⟩|exact⟨hj1 _,hkp⟩|exact⟨rfl,hj1 _,hkp⟩|exact⟨_,rfl,rfl,hj1 _,hkp⟩|exact⟨_,rfl,trivial,hj1 _,hkp⟩|exact⟨trivial,hj1 _,hkp⟩|exact⟨hj1 _,k4⟩
  ·have e4:u0 4= .pointer (some ⟨ib,0,none⟩):=(hd.1 rfl (by decide)).2
   rw[e4]
   have hj1:=fun v=>hj.light 5 (by decide) (by decide) (by decide) hL (Mj _ _) v
   have hkp: ∀j v',j<35→L j=true→TNMap kv sb ib w2.heap.size j v' W9→TNMap kv sb ib w2.heap.size j v' W9:=fun j v' _ _ h=>TNMap.ck j v' W9 W9 h (fun _ _ h=>h)
   go_wp2
   first|exact rfl|exact hj1 _|exact⟨⟨undef,trivial⟩,hkp⟩|exact⟨hj1 _,hkp⟩|exact⟨rfl,hj1 _,hkp⟩|exact⟨_,rfl,rfl,hj1 _,hkp⟩|exact⟨_,rfl,trivial,hj1 _,hkp⟩|exact⟨trivial,hj1 _,hkp⟩|exact⟨hj1 _,k4⟩
  ·have e5:u0 5= .pointer (some ⟨ib,0,none⟩):=(hd.1 rfl (by decide)).2
   rw[e5]
   have hj1:=fun v=>hj.light 6 (by decide) (by decide) (by decide) hL (Mj _ _) v
   have hkp: ∀j v',j<35→L j=true→TNMap kv sb ib w2.heap.size j v' W9→TNMap kv sb ib w2.heap.size j v' W9:=fun j v' _ _ h=>TNMap.ck j v' W9 W9 h (fun _ _ h=>h)
   go_wp2
   first|exact rfl|exact hj1 _|exact⟨⟨undef,trivial⟩,hkp⟩|exact⟨hj1 _,hkp⟩|exact⟨rfl,hj1 _,hkp⟩|exact⟨_,rfl,rfl,hj1 _,hkp⟩|exact⟨_,rfl,trivial,hj1 _,hkp⟩|exact⟨trivial,hj1 _,hkp⟩|exact⟨hj1 _,k4⟩
  ·have e6:u0 6= .pointer (some ⟨ib,3,none⟩):=(hd.1 rfl (by decide)).2
   have c3:=(HV2.out.after hj.bel).c 3 rfl
   rw[e6]
   have hj1:=fun v=>hj.light 7 (by decide) (by decide) (by decide) hL (Mj _ _) v
   have hkp: ∀j v',j<35→L j=true→TNMap kv sb ib w2.heap.size j v' W9→TNMap kv sb ib w2.heap.size j v' W9:=fun j v' _ _ h=>TNMap.ck j v' W9 W9 h (fun _ _ h=>h)
   go_wp2
   first|exact rfl|exact hj1 _|exact⟨⟨undef,trivial⟩,hkp⟩|exact⟨hj1 _,hkp⟩|exact⟨rfl,hj1 _,hkp⟩|exact⟨_,rfl,rfl,hj1 _,hkp⟩|exact⟨_,rfl,trivial,hj1 _,hkp⟩|exact⟨trivial,hj1 _,hkp⟩|exact⟨hj1 _,k4⟩
  ·have hmm:= @run_makeMap Tryz.prog
   have hb2:Below W9.heap.size W9 (W9.alloc (.map #[] 0)):=(Mj _ _).alloc (Mz _) _
   have hj2:=hj.made (by decide) (by decide) hL
   have hj1: ∀_:Unit,_:=fun _=>hj2
   have hkp: ∀j v',j<35→L j=true→TNMap kv sb ib w2.heap.size j v' W9→TNMap kv sb ib w2.heap.size j v' (W9.alloc (.map #[] 0)):=fun j v' _ _ h=>TNMap.ck j v' W9 (W9.alloc (.map #[] 0)) h (CK.of hb2)
   go_wp2
   first|exact hkp|exact⟨trivial,hkp⟩|exact⟨trivial,hj2,hkp⟩|exact⟨hj2,hkp⟩|exact⟨_,rfl,trivial,hj2,hkp⟩
  ·have hj1:=fun v=>hj.light 9 (by decide) (by decide) (by decide) hL (Mj _ _) v
   have hkp: ∀j v',j<35→L j=true→TNMap kv sb ib w2.heap.size j v' W9→TNMap kv sb ib w2.heap.size j v' W9:=fun j v' _ _ h=>TNMap.ck j v' W9 W9 h (fun _ _ h=>h)
   go_wp2
   first|exact rfl|exact hj1 _|exact⟨⟨undef,trivial⟩,hkp⟩|exact⟨hj1 _,hkp⟩|exact⟨rfl,hj1 _,hkp⟩|exact⟨_,rfl,rfl,hj1 _,hkp⟩|exact⟨_,rfl,trivial,hj1 _,hkp⟩|exact⟨trivial,hj1 _,hkp⟩|exact⟨hj1 _,k4⟩
  ·have e9:u0 9= .pointer (some ⟨sb,2,none⟩):=(hd.1 rfl (by decide)).2
   rw[e9]
   have hj1:=fun v=>hj.light 10 (by decide) (by decide) (by decide) hL (Mj _ _) v
   have hkp: ∀j v',j<35→L j=true→TNMap kv sb ib w2.heap.size j v' W9→TNMap kv sb ib w2.heap.size j v' W9:=fun j v' _ _ h=>TNMap.ck j v' W9 W9 h (fun _ _ h=>h)
   go_wp2
   first|exact rfl|exact hj1 _|exact⟨⟨undef,trivial⟩,hkp⟩|exact⟨hj1 _,hkp⟩|exact⟨rfl,hj1 _,hkp⟩|exact⟨_,rfl,rfl,hj1 _,hkp⟩|exact⟨_,rfl,trivial,hj1 _,hkp⟩|exact⟨trivial,hj1 _,hkp⟩|exact⟨hj1 _,k4⟩
  ·have e10:u0 10= .pointer (some ⟨sb,2,none⟩):=(hd.1 rfl (by decide)).2
   rw[e10]
   have hj1:=fun v=>hj.light 11 (by decide) (by decide) (by decide) hL (Mj _ _) v
   have hkp: ∀j v',j<35→L j=true→TNMap kv sb ib w2.heap.size j v' W9→TNMap kv sb ib w2.heap.size j v' W9:=fun j v' _ _ h=>TNMap.ck j v' W9 W9 h (fun _ _ h=>h)
   go_wp2
   first|exact rfl|exact hj1 _|exact⟨⟨undef,trivial⟩,hkp⟩|exact⟨hj1 _,hkp⟩|exact⟨rfl,hj1 _,hkp⟩|exact⟨_,rfl,rfl,hj1 _,hkp⟩|exact⟨_,rfl,trivial,hj1 _,hkp⟩|exact⟨trivial,hj1 _,hkp⟩|exact⟨hj1 _,k4⟩
  ·have e11:u0 11= .pointer (some ⟨sb,2,none⟩):=(hd.1 rfl (by decide)).2
   rw[e11]
   go_wp2_with (go_at_call 64;(with_reducible refine(ccount_any 1 64 sb 2 W9).mono ?_);rintro e W2 ⟨bxq,B,rfl,q1,q2,q3,q4,q5,q6⟩)
   have hj1:=hj.light 12 (by decide) (by decide) (by decide) hL q6
   have hkp: ∀j v',j<35→L j=true→TNMap kv sb ib w2.heap.size j v' W9→TNMap kv sb ib w2.heap.size j v' W2:=fun j v' _ _ h=>TNMap.ck j v' W9 W2 h (CK.of q6)
   first|exact⟨⟨bxq,B,rfl,Kz hj.bel.size q1,by have:=hj.bel.size;omega,q4,q5⟩,hj1 _,hkp⟩|exact⟨_,rfl,⟨bxq,B,rfl,Kz hj.bel.size q1,by have:=hj.bel.size;omega,q4,q5⟩,hj1 _,hkp⟩
  ·obtain⟨B,wI,eB,hr,hck,hjj⟩:=hj.ins (s:=nRoom) (k:=13) (kv:=12) rfl (by decide) (by decide) (by decide) (by decide) hL (hd.2.1 rfl (by decide)).1 (hd.1 rfl (by decide)).1
   have hj1:=hjj
   have hkp: ∀j v',j<35→L j=true→TNMap kv sb ib w2.heap.size j v' W9→TNMap kv sb ib w2.heap.size j v' wI:=fun j v' _ _ h=>TNMap.ck j v' W9 wI h (hck)
   rw[eB]
   obtain⟨vv,hvv⟩: ∃vv,u0 12=vv:=⟨_,rfl⟩
   rw[hvv]at hr ⊢
   go_wp2
   first|exact rfl|exact hj1 _|exact⟨⟨undef,trivial⟩,hkp⟩|exact⟨hj1 _,hkp⟩|exact⟨rfl,hj1 _,hkp⟩|exact⟨_,rfl,rfl,hj1 _,hkp⟩|exact⟨_,rfl,trivial,hj1 _,hkp⟩|exact⟨trivial,hj1 _,hkp⟩|exact⟨hj1 _,k4⟩
  ·have hj1:=fun v=>hj.light 14 (by decide) (by decide) (by decide) hL (Mj _ _) v
   have hkp: ∀j v',j<35→L j=true→TNMap kv sb ib w2.heap.size j v' W9→TNMap kv sb ib w2.heap.size j v' W9:=fun j v' _ _ h=>TNMap.ck j v' W9 W9 h (fun _ _ h=>h)
   go_wp2
   first|exact rfl|exact hj1 _|exact⟨⟨undef,trivial⟩,hkp⟩|exact⟨hj1 _,hkp⟩|exact⟨rfl,hj1 _,hkp⟩|exact⟨_,rfl,rfl,hj1 _,hkp⟩|exact⟨_,rfl,trivial,hj1 _,hkp⟩|exact⟨trivial,hj1 _,hkp⟩|exact⟨hj1 _,k4⟩
  ·have e14:u0 14= .pointer (some ⟨sb,2,none⟩):=(hd.1 rfl (by decide)).2
   rw[e14]
   have hj1:=fun v=>hj.light 15 (by decide) (by decide) (by decide) hL (Mj _ _) v
   have hkp: ∀j v',j<35→L j=true→TNMap kv sb ib w2.heap.size j v' W9→TNMap kv sb ib w2.heap.size j v' W9:=fun j v' _ _ h=>TNMap.ck j v' W9 W9 h (fun _ _ h=>h)
   go_wp2
   first|exact rfl|exact hj1 _|exact⟨⟨undef,trivial⟩,hkp⟩|exact⟨hj1 _,hkp⟩|exact⟨rfl,hj1 _,hkp⟩|exact⟨_,rfl,rfl,hj1 _,hkp⟩|exact⟨_,rfl,trivial,hj1 _,hkp⟩|exact⟨trivial,hj1 _,hkp⟩|exact⟨hj1 _,k4⟩
  ·have e15:u0 15= .pointer (some ⟨sb,2,none⟩):=(hd.1 rfl (by decide)).2
   rw[e15]
   have hj1:=fun v=>hj.light 16 (by decide) (by decide) (by decide) hL (Mj _ _) v
   have hkp: ∀j v',j<35→L j=true→TNMap kv sb ib w2.heap.size j v' W9→TNMap kv sb ib w2.heap.size j v' W9:=fun j v' _ _ h=>TNMap.ck j v' W9 W9 h (fun _ _ h=>h)
   go_wp2
   first|exact rfl|exact hj1 _|exact⟨⟨undef,trivial⟩,hkp⟩|exact⟨hj1 _,hkp⟩|exact⟨rfl,hj1 _,hkp⟩|exact⟨_,rfl,rfl,hj1 _,hkp⟩|exact⟨_,rfl,trivial,hj1 _,hkp⟩|exact⟨trivial,hj1 _,hkp⟩|exact⟨hj1 _,k4⟩
  ·have e16:u0 16= .pointer (some ⟨sb,3,none⟩):=(hd.1 rfl (by decide)).2
   rw[e16]
   go_wp2_with (go_at_call 64;(with_reducible refine(ccount_any 0 64 sb 3 W9).mono ?_);rintro e W2 ⟨bxq,B,rfl,q1,q2,q3,q4,q5,q6⟩)
   have hj1:=hj.light 17 (by decide) (by decide) (by decide) hL q6
   have hkp: ∀j v',j<35→L j=true→TNMap kv sb ib w2.heap.size j v' W9→TNMap kv sb ib w2.heap.size j v' W2:=fun j v' _ _ h=>TNMap.ck j v' W9 W2 h (CK.of q6)
   first|exact⟨⟨bxq,B,rfl,Kz hj.bel.size q1,by have:=hj.bel.size;omega,q4,q5⟩,hj1 _,hkp⟩|exact⟨_,rfl,⟨bxq,B,rfl,Kz hj.bel.size q1,by have:=hj.bel.size;omega,q4,q5⟩,hj1 _,hkp⟩
  ·obtain⟨B,wI,eB,hr,hck,hjj⟩:=hj.ins (s:=nReserve) (k:=18) (kv:=17) rfl (by decide) (by decide) (by decide) (by decide) hL (hd.2.1 rfl (by decide)).1 (hd.1 rfl (by decide)).1
   have hj1:=hjj
   have hkp: ∀j v',j<35→L j=true→TNMap kv sb ib w2.heap.size j v' W9→TNMap kv sb ib w2.heap.size j v' wI:=fun j v' _ _ h=>TNMap.ck j v' W9 wI h (hck)
   rw[eB]
   obtain⟨vv,hvv⟩: ∃vv,u0 17=vv:=⟨_,rfl⟩
   rw[hvv]at hr ⊢
   go_wp2
   first|exact rfl|exact hj1 _|exact⟨⟨undef,trivial⟩,hkp⟩|exact⟨hj1 _,hkp⟩|exact⟨rfl,hj1 _,hkp⟩|exact⟨_,rfl,rfl,hj1 _,hkp⟩|exact⟨_,rfl,trivial,hj1 _,hkp⟩|exact⟨trivial,hj1 _,hkp⟩|exact⟨hj1 _,k4⟩
  ·have hj1:=fun v=>hj.light 19 (by decide) (by decide) (by decide) hL (Mj _ _) v
   have hkp: ∀j v',j<35→L j=true→TNMap kv sb ib w2.heap.size j v' W9→TNMap kv sb ib w2.heap.size j v' W9:=fun j v' _ _ h=>TNMap.ck j v' W9 W9 h (fun _ _ h=>h)
   go_wp2
   first|exact rfl|exact hj1 _|exact⟨⟨undef,trivial⟩,hkp⟩|exact⟨hj1 _,hkp⟩|exact⟨rfl,hj1 _,hkp⟩|exact⟨_,rfl,rfl,hj1 _,hkp⟩|exact⟨_,rfl,trivial,hj1 _,hkp⟩|exact⟨trivial,hj1 _,hkp⟩|exact⟨hj1 _,k4⟩
  ·have e19:u0 19= .pointer (some ⟨sb,2,none⟩):=(hd.1 rfl (by decide)).2
   rw[e19]
   have hj1:=fun v=>hj.light 20 (by decide) (by decide) (by decide) hL (Mj _ _) v
   have hkp: ∀j v',j<35→L j=true→TNMap kv sb ib w2.heap.size j v' W9→TNMap kv sb ib w2.heap.size j v' W9:=fun j v' _ _ h=>TNMap.ck j v' W9 W9 h (fun _ _ h=>h)
   go_wp2
   first|exact rfl|exact hj1 _|exact⟨⟨undef,trivial⟩,hkp⟩|exact⟨hj1 _,hkp⟩|exact⟨rfl,hj1 _,hkp⟩|exact⟨_,rfl,rfl,hj1 _,hkp⟩|exact⟨_,rfl,trivial,hj1 _,hkp⟩|exact⟨trivial,hj1 _,hkp⟩|exact⟨hj1 _,k4⟩
  ·have e20:u0 20= .pointer (some ⟨sb,2,none⟩):=(hd.1 rfl (by decide)).2
   rw[e20]
   have hj1:=fun v=>hj.light 21 (by decide) (by decide) (by decide) hL (Mj _ _) v
   have hkp: ∀j v',j<35→L j=true→TNMap kv sb ib w2.heap.size j v' W9→TNMap kv sb ib w2.heap.size j v' W9:=fun j v' _ _ h=>TNMap.ck j v' W9 W9 h (fun _ _ h=>h)
   go_wp2
   first|exact rfl|exact hj1 _|exact⟨⟨undef,trivial⟩,hkp⟩|exact⟨hj1 _,hkp⟩|exact⟨rfl,hj1 _,hkp⟩|exact⟨_,rfl,rfl,hj1 _,hkp⟩|exact⟨_,rfl,trivial,hj1 _,hkp⟩|exact⟨trivial,hj1 _,hkp⟩|exact⟨hj1 _,k4⟩
  ·have e21:u0 21= .pointer (some ⟨sb,4,none⟩):=(hd.1 rfl (by decide)).2
   rw[e21]
   go_wp2_with (go_at_call 65;(with_reducible refine(cspan_any 1 86400 sb 4 W9).mono ?_);rintro e W2 ⟨bxq,B,rfl,q1,q2,q3,q4,q5,q6⟩)
   have hj1:=hj.light 22 (by decide) (by decide) (by decide) hL q6
   have hkp: ∀j v',j<35→L j=true→TNMap kv sb ib w2.heap.size j v' W9→TNMap kv sb ib w2.heap.size j v' W2:=fun j v' _ _ h=>TNMap.ck j v' W9 W2 h (CK.of q6)
   first|exact⟨⟨bxq,B,rfl,Kz hj.bel.size q1,by have:=hj.bel.size;omega,q4,q5⟩,hj1 _,hkp⟩|exact⟨_,rfl,⟨bxq,B,rfl,Kz hj.bel.size q1,by have:=hj.bel.size;omega,q4,q5⟩,hj1 _,hkp⟩
  ·obtain⟨B,wI,eB,hr,hck,hjj⟩:=hj.ins (s:=nFirst) (k:=23) (kv:=22) rfl (by decide) (by decide) (by decide) (by decide) hL (hd.2.1 rfl (by decide)).1 (hd.1 rfl (by decide)).1
   have hj1:=hjj
   have hkp: ∀j v',j<35→L j=true→TNMap kv sb ib w2.heap.size j v' W9→TNMap kv sb ib w2.heap.size j v' wI:=fun j v' _ _ h=>TNMap.ck j v' W9 wI h (hck)
   rw[eB]
   obtain⟨vv,hvv⟩: ∃vv,u0 22=vv:=⟨_,rfl⟩
   rw[hvv]at hr ⊢
   go_wp2
   first|exact rfl|exact hj1 _|exact⟨⟨undef,trivial⟩,hkp⟩|exact⟨hj1 _,hkp⟩|exact⟨rfl,hj1 _,hkp⟩|exact⟨_,rfl,rfl,hj1 _,hkp⟩|exact⟨_,rfl,trivial,hj1 _,hkp⟩|exact⟨trivial,hj1 _,hkp⟩|exact⟨hj1 _,k4⟩
  ·have hj1:=fun v=>hj.light 24 (by decide) (by decide) (by decide) hL (Mj _ _) v
   have hkp: ∀j v',j<35→L j=true→TNMap kv sb ib w2.heap.size j v' W9→TNMap kv sb ib w2.heap.size j v' W9:=fun j v' _ _ h=>TNMap.ck j v' W9 W9 h (fun _ _ h=>h)
   go_wp2
   first|exact rfl|exact hj1 _|exact⟨⟨undef,trivial⟩,hkp⟩|exact⟨hj1 _,hkp⟩|exact⟨rfl,hj1 _,hkp⟩|exact⟨_,rfl,rfl,hj1 _,hkp⟩|exact⟨_,rfl,trivial,hj1 _,hkp⟩|exact⟨trivial,hj1 _,hkp⟩|exact⟨hj1 _,k4⟩
  ·have e24:u0 24= .pointer (some ⟨sb,2,none⟩):=(hd.1 rfl (by decide)).2
   rw[e24]
   have hj1:=fun v=>hj.light 25 (by decide) (by decide) (by decide) hL (Mj _ _) v
   have hkp: ∀j v',j<35→L j=true→TNMap kv sb ib w2.heap.size j v' W9→TNMap kv sb ib w2.heap.size j v' W9:=fun j v' _ _ h=>TNMap.ck j v' W9 W9 h (fun _ _ h=>h)
   go_wp2
   first|exact rfl|exact hj1 _|exact⟨⟨undef,trivial⟩,hkp⟩|exact⟨hj1 _,hkp⟩|exact⟨rfl,hj1 _,hkp⟩|exact⟨_,rfl,rfl,hj1 _,hkp⟩|exact⟨_,rfl,trivial,hj1 _,hkp⟩|exact⟨trivial,hj1 _,hkp⟩|exact⟨hj1 _,k4⟩
  ·have e25:u0 25= .pointer (some ⟨sb,2,none⟩):=(hd.1 rfl (by decide)).2
   rw[e25]
   have hj1:=fun v=>hj.light 26 (by decide) (by decide) (by decide) hL (Mj _ _) v
   have hkp: ∀j v',j<35→L j=true→TNMap kv sb ib w2.heap.size j v' W9→TNMap kv sb ib w2.heap.size j v' W9:=fun j v' _ _ h=>TNMap.ck j v' W9 W9 h (fun _ _ h=>h)
   go_wp2
   first|exact rfl|exact hj1 _|exact⟨⟨undef,trivial⟩,hkp⟩|exact⟨hj1 _,hkp⟩|exact⟨rfl,hj1 _,hkp⟩|exact⟨_,rfl,rfl,hj1 _,hkp⟩|exact⟨_,rfl,trivial,hj1 _,hkp⟩|exact⟨trivial,hj1 _,hkp⟩|exact⟨hj1 _,k4⟩
  ·have e26:u0 26= .pointer (some ⟨sb,5,none⟩):=(hd.1 rfl (by decide)).2
   rw[e26]
   go_wp2_with (go_at_call 65;(with_reducible refine(cspan_any 1 604800 sb 5 W9).mono ?_);rintro e W2 ⟨bxq,B,rfl,q1,q2,q3,q4,q5,q6⟩)
   have hj1:=hj.light 27 (by decide) (by decide) (by decide) hL q6
   have hkp: ∀j v',j<35→L j=true→TNMap kv sb ib w2.heap.size j v' W9→TNMap kv sb ib w2.heap.size j v' W2:=fun j v' _ _ h=>TNMap.ck j v' W9 W2 h (CK.of q6)
   first|exact⟨⟨bxq,B,rfl,Kz hj.bel.size q1,by have:=hj.bel.size;omega,q4,q5⟩,hj1 _,hkp⟩|exact⟨_,rfl,⟨bxq,B,rfl,Kz hj.bel.size q1,by have:=hj.bel.size;omega,q4,q5⟩,hj1 _,hkp⟩
  ·obtain⟨B,wI,eB,hr,hck,hjj⟩:=hj.ins (s:=nCap) (k:=28) (kv:=27) rfl (by decide) (by decide) (by decide) (by decide) hL (hd.2.1 rfl (by decide)).1 (hd.1 rfl (by decide)).1
   have hj1:=hjj
   have hkp: ∀j v',j<35→L j=true→TNMap kv sb ib w2.heap.size j v' W9→TNMap kv sb ib w2.heap.size j v' wI:=fun j v' _ _ h=>TNMap.ck j v' W9 wI h (hck)
   rw[eB]
   obtain⟨vv,hvv⟩: ∃vv,u0 27=vv:=⟨_,rfl⟩
   rw[hvv]at hr ⊢
   go_wp2
   first|exact rfl|exact hj1 _|exact⟨⟨undef,trivial⟩,hkp⟩|exact⟨hj1 _,hkp⟩|exact⟨rfl,hj1 _,hkp⟩|exact⟨_,rfl,rfl,hj1 _,hkp⟩|exact⟨_,rfl,trivial,hj1 _,hkp⟩|exact⟨trivial,hj1 _,hkp⟩|exact⟨hj1 _,k4⟩
  ·have hj1:=fun v=>hj.light 29 (by decide) (by decide) (by decide) hL (Mj _ _) v
   have hkp: ∀j v',j<35→L j=true→TNMap kv sb ib w2.heap.size j v' W9→TNMap kv sb ib w2.heap.size j v' W9:=fun j v' _ _ h=>TNMap.ck j v' W9 W9 h (fun _ _ h=>h)
   go_wp2
   first|exact rfl|exact hj1 _|exact⟨⟨undef,trivial⟩,hkp⟩|exact⟨hj1 _,hkp⟩|exact⟨rfl,hj1 _,hkp⟩|exact⟨_,rfl,rfl,hj1 _,hkp⟩|exact⟨_,rfl,trivial,hj1 _,hkp⟩|exact⟨trivial,hj1 _,hkp⟩|exact⟨hj1 _,k4⟩
  ·have e29:u0 29= .pointer (some ⟨sb,2,none⟩):=(hd.1 rfl (by decide)).2
   rw[e29]
   have hj1:=fun v=>hj.light 30 (by decide) (by decide) (by decide) hL (Mj _ _) v
   have hkp: ∀j v',j<35→L j=true→TNMap kv sb ib w2.heap.size j v' W9→TNMap kv sb ib w2.heap.size j v' W9:=fun j v' _ _ h=>TNMap.ck j v' W9 W9 h (fun _ _ h=>h)
   go_wp2
   first|exact rfl|exact hj1 _|exact⟨⟨undef,trivial⟩,hkp⟩|exact⟨hj1 _,hkp⟩|exact⟨rfl,hj1 _,hkp⟩|exact⟨_,rfl,rfl,hj1 _,hkp⟩|exact⟨_,rfl,trivial,hj1 _,hkp⟩|exact⟨trivial,hj1 _,hkp⟩|exact⟨hj1 _,k4⟩
  ·have e30:u0 30= .pointer (some ⟨sb,2,none⟩):=(hd.1 rfl (by decide)).2
   rw[e30]
   have hj1:=fun v=>hj.light 31 (by decide) (by decide) (by decide) hL (Mj _ _) v
   have hkp: ∀j v',j<35→L j=true→TNMap kv sb ib w2.heap.size j v' W9→TNMap kv sb ib w2.heap.size j v' W9:=fun j v' _ _ h=>TNMap.ck j v' W9 W9 h (fun _ _ h=>h)
   go_wp2
   first|exact rfl|exact hj1 _|exact⟨⟨undef,trivial⟩,hkp⟩|exact⟨hj1 _,hkp⟩|exact⟨rfl,hj1 _,hkp⟩|exact⟨_,rfl,rfl,hj1 _,hkp⟩|exact⟨_,rfl,trivial,hj1 _,hkp⟩|exact⟨trivial,hj1 _,hkp⟩|exact⟨hj1 _,k4⟩
  ·have e31:u0 31= .pointer (some ⟨sb,6,none⟩):=(hd.1 rfl (by decide)).2
   rw[e31]
   go_wp2_with (go_at_call 65;(with_reducible refine(cspan_any 0 2592000 sb 6 W9).mono ?_);rintro e W2 ⟨bxq,B,rfl,q1,q2,q3,q4,q5,q6⟩)
   have hj1:=hj.light 32 (by decide) (by decide) (by decide) hL q6
   have hkp: ∀j v',j<35→L j=true→TNMap kv sb ib w2.heap.size j v' W9→TNMap kv sb ib w2.heap.size j v' W2:=fun j v' _ _ h=>TNMap.ck j v' W9 W2 h (CK.of q6)
   first|exact⟨⟨bxq,B,rfl,Kz hj.bel.size q1,by have:=hj.bel.size;omega,q4,q5⟩,hj1 _,hkp⟩|exact⟨_,rfl,⟨bxq,B,rfl,Kz hj.bel.size q1,by have:=hj.bel.size;omega,q4,q5⟩,hj1 _,hkp⟩
  ·obtain⟨B,wI,eB,hr,hck,hjj⟩:=hj.ins (s:=nRepeat) (k:=33) (kv:=32) rfl (by decide) (by decide) (by decide) (by decide) hL (hd.2.1 rfl (by decide)).1 (hd.1 rfl (by decide)).1
   have hj1:=hjj
   have hkp: ∀j v',j<35→L j=true→TNMap kv sb ib w2.heap.size j v' W9→TNMap kv sb ib w2.heap.size j v' wI:=fun j v' _ _ h=>TNMap.ck j v' W9 wI h (hck)
   rw[eB]
   obtain⟨vv,hvv⟩: ∃vv,u0 32=vv:=⟨_,rfl⟩
   rw[hvv]at hr ⊢
   go_wp2
   first|exact rfl|exact hj1 _|exact⟨⟨undef,trivial⟩,hkp⟩|exact⟨hj1 _,hkp⟩|exact⟨rfl,hj1 _,hkp⟩|exact⟨_,rfl,rfl,hj1 _,hkp⟩|exact⟨_,rfl,trivial,hj1 _,hkp⟩|exact⟨trivial,hj1 _,hkp⟩|exact⟨hj1 _,k4⟩
  ·have hj2:=hj.copy (by decide) (by decide) hL (hd.1 rfl (by decide)).1
   go_wp2
   first|exact⟨trivial,hj2,k4⟩|exact⟨hj2,k4⟩|exact⟨_,rfl,trivial,hj2,k4⟩|exact hj2|exact trivial
 ·intro u0 W9 L hall hj ht
  have e2:u0 2= .pointer (some ⟨sb,0,none⟩):=ht 2 (by decide)
  have e7:u0 7=kv:=ht 7 (by decide)
  have t12:=ht 12 (by decide)
  have t17:=ht 17 (by decide)
  have t22:=ht 22 (by decide)
  have t27:=ht 27 (by decide)
  have t32:=ht 32 (by decide)
  obtain⟨HB,eHB,hHB1,hHB2⟩:=hj.map (hall 8 (by decide))
  have eC:=(hj.cpy (hall 34 (by decide))).2.trans eHB
  have hHM:HIs W9 HB (byTab tabN u0):=by
   have e:hOf tabN u0 L=byTab tabN u0:=by funext s;exact hOf_all (by intro t ht2;simp only[tabN,List.mem_cons,List.not_mem_nil,or_false]at ht2;rcases ht2 with rfl|rfl|rfl|rfl|rfl<;>exact hall _ (by decide)) s
   rw[←e];exact hHB2
  have HB9:=Lh hj.bel
  have HEA:=Lh (each_map2 (M3.doing base sb (golC cs)) (k:=1) (Mz 1) (by decide) sub2_le HM2.out HB9.out hHM hHB1 HKD2.out (fun b hb=>Kx (HSL.out b hb) G2.out.size) HSO.out HFEW.out (fun y hy=>not_handles ⟨t12,t17,t22,t27,t32⟩ (fun b h1 h2=>Mx ⟨h1,h2⟩) (fun b h=>h.elim (fun h=>Kx (HSL.out b h) (Kz G2.out.size HB9.out.size)) (fun h=>h.2)) (fun b h=>My h) y (HWK.out y hy)))
  have HV9:=Lh (HV2.out.after HB9.out)
  clear hHM hHB1 hHB2 t12 t17 t22 t27 t32 hj hall ht
  simp only[Kj,Jh,Jj,Jk,putAll,Act.put,Lq,Lk,Lj,Ly,Lx]
  rw[e2,e7,eC]
  clear eHB eC e2 e7
  go_upto_region 4 with(go_at_call 33;(with_reducible refine(HEA.out).mono ?_);rintro e w5 ⟨rfl,O5,hm5,hf5,hg5⟩;have HM5:Hid (M3 base sb (golC cs) (notK x) (F++(lookS 3 sub2 x.kids).2) O5 w5):=Lh hm5;have HF5:=Lh hf5;have HG5:=Lh hg5;clear hm5 hf5 hg5)
  clear HEA
  have HV5:=Lh (HF5.out.var HV9.out HIO.out)
  have HFL:Hid ((F++(lookS 3 sub2 x.kids).2).length≤1000000):=Lh (by have h1:=look_faults (wh:=3) (k:=1) (Mz 1) sub2_le x.kids;have h2:=HFEW.out;rw[List.length_append];omega)
  have HNI:Hid (¬O5 ib):=Lh (fun e=>(HG5.out ib e).elim HIO.out (fun h=>by have:=HV9.out.s;omega))
  have HEND2:Hid (Grown O O5 W.heap.size):=Lh (fun i hi=>(HG5.out i hi).imp id (fun h=>by have:=G2.out.size;have:=HB9.out.size;omega))
  have HEND:Hid (Frm (fun i=>O i∨i=ib) W w5∧(∀(Q:Foot) (V:World) (G:List Flt),G=(F++(lookS 3 sub2 x.kids).2)++wholeN x (notK x)→M3 base sb (golC cs) (notK x) G Q V→M0 base sb (cs++ [x]) (F++subT x) Q V)∧Grown (fun i=>O i∨i=ib) O5 W.heap.size):=Lh (by
   refine⟨((Frm.of (O:=fun i=>O i∨i=ib) (G2.out.trans (HB9.out.mono G2.out.size))).trans (HF5.out.wider (O':=fun i=>O i∨i=ib) (fun i e=>My e)) (Grown.refl _ _)),fun Q V G hG hm=>⟨fun c hc=>?_,?_⟩,fun i hi=>(HEND2.out i hi).imp My id⟩
   ·rcases List.mem_append.mp hc with hc|hc
    ·exact HM00.out.1 c hc
    ·rw[List.mem_singleton.mp hc];exact Mx HNM.out
   ·have hne:x.name≠nObjective:=by rw[HNM.out];decide
    have e1:golC (cs++ [x])=golC cs:=by rw[golC_app];simp only[golC];rw[if_neg hne];simp
    have e2:notC (cs++ [x]) []=notK x:=by rw[notC_app];simp only[notC];rw[if_neg hne]
    have e3:F++subT x=G:=by unfold subT;rw[if_neg hne,if_pos HNM.out,hG,List.append_assoc]
    rw[e1,e2,e3]
    exact hm)
  obtain⟨fv,gv,hsv⟩:=(Src.var HM5.out).2
  obtain⟨l0,hl0⟩: ∃l,getS (notK x) nRoom 16=l:=⟨_,rfl⟩
  obtain⟨l1,hl1⟩: ∃l,getS (notK x) nReserve 0=l:=⟨_,rfl⟩
  obtain⟨l2,hl2⟩: ∃l,getS (notK x) nFirst 10=l:=⟨_,rfl⟩
  obtain⟨l3,hl3⟩: ∃l,getS (notK x) nCap 300=l:=⟨_,rfl⟩
  have z2:=hsv.c 2 rfl
  have z3:=hsv.c 3 rfl
  have z4:=hsv.c 4 rfl
  have z5:=hsv.c 5 rfl
  rw[hl0]at z2
  rw[hl1]at z3
  rw[hl2]at z4
  rw[hl3]at z5
  clear hsv
  by_cases h1:l0<l1
  ·have b1:decide (l1>l0)=true:=by simpa using h1
   go_quiet (fail)
   have HB6:Hid (Below w5.heap.size w5 (w5.drewN nq)):=Lh (Go.below_drewN (Mj _ _) nq)
   generalize w5.drewN nq=W6 at HB6 ⊢
   have HWS:Hid (wholeN x (notK x)= [(8,x.a,x.b)]):=Lh (by unfold wholeN;rw[hl0,hl1,hl2,hl3,if_pos (My h1)])
   clear hl0 hl1 hl2 hl3 z2 z3 z4 z5
   have HV6:=Lh (HV5.out.after HB6.out)
   go_wp2_with fail
   refine wp_region_mixj 8 (TLst [.pointer (some ⟨sb,0,none⟩), .pointer (some ⟨sb,0,none⟩), .pointer (some ⟨sb,0,none⟩), .pointer (some ⟨ib,0,none⟩), .pointer (some ⟨ib,0,none⟩), .pointer (some ⟨ib,0,none⟩), .pointer (some ⟨ib,4,none⟩), .agg #[.int .i64 x.a, .int .i64 x.b]]) (fun _ V=>Below W6.heap.size W6 V) (by kernel_rfl) (by kernel_rfl) (Mj _ _).drew ?_ ?_
   ·simp only[Kj,Jh]
    refine(Lz ?_ (Lz ?_ (Lz ?_ (Lz ?_ (Lz ?_ (Lz ?_ (Lz ?_ (Lz ?_ StepsJ.nil))))))))
    all_goals(intro u0 W8 L hL hj hd;simp only[putAll,Act.put,Lq,Lk,Lj,Ly,Lx])
    ·have hj1:=hj
     go_wp2
     first|exact hj1|exact rfl|exact⟨rfl,hj1⟩|exact⟨rfl,hj1,k4⟩|exact⟨_,rfl,rfl,hj1,k4⟩
    ·have e0:u0 0= .pointer (some ⟨sb,0,none⟩):=(hd.1 rfl (by decide)).2
     rw[e0]
     have hj1:=hj
     go_wp2
     first|exact hj1|exact rfl|exact⟨rfl,hj1⟩|exact⟨rfl,hj1,k4⟩|exact⟨_,rfl,rfl,hj1,k4⟩
    ·have e1:u0 1= .pointer (some ⟨sb,0,none⟩):=(hd.1 rfl (by decide)).2
     rw[e1]
     have hj1:=hj
     go_wp2
     first|exact hj1|exact rfl|exact⟨rfl,hj1⟩|exact⟨rfl,hj1,k4⟩|exact⟨_,rfl,rfl,hj1,k4⟩
    ·have hj1:=hj
     go_wp2
     first|exact hj1|exact rfl|exact⟨rfl,hj1⟩|exact⟨rfl,hj1,k4⟩|exact⟨_,rfl,rfl,hj1,k4⟩
    ·have e3:u0 3= .pointer (some ⟨ib,0,none⟩):=(hd.1 rfl (by decide)).2
     rw[e3]
     have hj1:=hj
     go_wp2
     first|exact hj1|exact rfl|exact⟨rfl,hj1⟩|exact⟨rfl,hj1,k4⟩|exact⟨_,rfl,rfl,hj1,k4⟩
    ·have e4:u0 4= .pointer (some ⟨ib,0,none⟩):=(hd.1 rfl (by decide)).2
     rw[e4]
     have hj1:=hj
     go_wp2
     first|exact hj1|exact rfl|exact⟨rfl,hj1⟩|exact⟨rfl,hj1,k4⟩|exact⟨_,rfl,rfl,hj1,k4⟩
    ·have e5:u0 5= .pointer (some ⟨ib,0,none⟩):=(hd.1 rfl (by decide)).2
     rw[e5]
     have hj1:=hj
     go_wp2
     first|exact hj1|exact rfl|exact⟨rfl,hj1⟩|exact⟨rfl,hj1,k4⟩|exact⟨_,rfl,rfl,hj1,k4⟩
    ·have e6:u0 6= .pointer (some ⟨ib,4,none⟩):=(hd.1 rfl (by decide)).2
     have c4:=(HV6.out.after hj).c 4 rfl
     have c5:=(HV6.out.after hj).c 5 rfl
     rw[e6]
     have hj1:=hj
     go_wp2
     first|exact hj1|exact rfl|exact⟨rfl,hj1⟩|exact⟨rfl,hj1,k4⟩|exact⟨_,rfl,rfl,hj1,k4⟩
   ·intro u0 W8 L hall hb ht
    have e2:u0 2= .pointer (some ⟨sb,0,none⟩):=ht 2 (by decide)
    have e7:u0 7= .agg #[.int .i64 x.a, .int .i64 x.b]:=ht 7 (by decide)
    have HBW:=Lh hb
    clear hb ht hall
    simp only[Kj,Jh,Jj,Jk,putAll,Act.put,Lq,Lk,Lj,Ly,Lx]
    rw[e2,e7]
    clear e2 e7
    have HM8:=Lh ((M3.doing base sb (golC cs)).keep _ _ _ _ _ HM5.out (fun b h=>(HBW.out.block b (Kx ((M3.doing base sb (golC cs)).lt _ _ _ _ HM5.out b h) HB6.out.size)).trans (HB6.out.block b ((M3.doing base sb (golC cs)).lt _ _ _ _ HM5.out b h))))
    have HAD:=Lh ((M3.doing base sb (golC cs)).add _ _ _ W8 8 x.a x.b HM8.out HFL.out)
    go_wp2_with (go_at_call 57;(with_reducible refine(HAD.out).mono ?_);rintro e w9 ⟨rfl,O9,hm9,hf9,hg9⟩;have HM9:=Lh hm9;have HF9:=Lh hf9;have HG9:=Lh hg9;clear hm9 hf9 hg9)
    first|go_end0|refine bodyPost_ret (results_none rfl _ _ _) rfl ?_
    refine⟨rfl,O9,HEND.out.2.1 _ _ _ (by rw[HWS.out]) HM9.out,?_,fun i hi=>?_,?_⟩
    ·exact(HEND.out.1.trans (Frm.of (O:=fun i=>O i∨i=ib) (HB6.out.trans (HBW.out.mono HB6.out.size))) (Grown.refl _ _)).trans HF9.out HEND.out.2.2
    ·rcases HG9.out i hi with h|h
     ·exact HEND2.out i h
     ·exact Mx (by have:=HEND.out.1.size;have:=HB6.out.size;have:=HBW.out.size;omega)
    ·rw[HWV.out];exact HF9.out.var (HV6.out.after HBW.out) HNI.out
  ·have b1:decide (l1>l0)=false:=by simpa using h1
   by_cases h2:l3<l2
   ·have b2:decide (l3<l2)=true:=by simpa using h2
    go_quiet (fail)
    have HB6:Hid (Below w5.heap.size w5 (w5.drewN nq)):=Lh (Go.below_drewN (Mj _ _) nq)
    generalize w5.drewN nq=W6 at HB6 ⊢
    have HWS:Hid (wholeN x (notK x)= [(8,x.a,x.b)]):=Lh (by unfold wholeN;rw[hl0,hl1,hl2,hl3,if_pos (Mx h2)])
    clear hl0 hl1 hl2 hl3 z2 z3 z4 z5
    have HV6:=Lh (HV5.out.after HB6.out)
    go_wp2_with fail
    refine wp_region_mixj 8 (TLst [.pointer (some ⟨sb,0,none⟩), .pointer (some ⟨sb,0,none⟩), .pointer (some ⟨sb,0,none⟩), .pointer (some ⟨ib,0,none⟩), .pointer (some ⟨ib,0,none⟩), .pointer (some ⟨ib,0,none⟩), .pointer (some ⟨ib,4,none⟩), .agg #[.int .i64 x.a, .int .i64 x.b]]) (fun _ V=>Below W6.heap.size W6 V) (by kernel_rfl) (by kernel_rfl) (Mj _ _).drew ?_ ?_
    ·simp only[Kj,Jh]
     refine(Lz ?_ (Lz ?_ (Lz ?_ (Lz ?_ (Lz ?_ (Lz ?_ (Lz ?_ (Lz ?_ StepsJ.nil))))))))
     all_goals(intro u0 W8 L hL hj hd;simp only[putAll,Act.put,Lq,Lk,Lj,Ly,Lx])
     ·have hj1:=hj
      go_wp2
      first|exact hj1|exact rfl|exact⟨rfl,hj1⟩|exact⟨rfl,hj1,k4⟩|exact⟨_,rfl,rfl,hj1,k4⟩
     ·have e0:u0 0= .pointer (some ⟨sb,0,none⟩):=(hd.1 rfl (by decide)).2
      rw[e0]
      have hj1:=hj
      go_wp2
      first|exact hj1|exact rfl|exact⟨rfl,hj1⟩|exact⟨rfl,hj1,k4⟩|exact⟨_,rfl,rfl,hj1,k4⟩
     ·have e1:u0 1= .pointer (some ⟨sb,0,none⟩):=(hd.1 rfl (by decide)).2
      rw[e1]
      have hj1:=hj
      go_wp2
      first|exact hj1|exact rfl|exact⟨rfl,hj1⟩|exact⟨rfl,hj1,k4⟩|exact⟨_,rfl,rfl,hj1,k4⟩
     ·have hj1:=hj
      go_wp2
      first|exact hj1|exact rfl|exact⟨rfl,hj1⟩|exact⟨rfl,hj1,k4⟩|exact⟨_,rfl,rfl,hj1,k4⟩
     ·have e3:u0 3= .pointer (some ⟨ib,0,none⟩):=(hd.1 rfl (by decide)).2
      rw[e3]
      have hj1:=hj
      go_wp2
      first|exact hj1|exact rfl|exact⟨rfl,hj1⟩|exact⟨rfl,hj1,k4⟩|exact⟨_,rfl,rfl,hj1,k4⟩
     ·have e4:u0 4= .pointer (some ⟨ib,0,none⟩):=(hd.1 rfl (by decide)).2
      rw[e4]
      have hj1:=hj
      go_wp2
      first|exact hj1|exact rfl|exact⟨rfl,hj1⟩|exact⟨rfl,hj1,k4⟩|exact⟨_,rfl,rfl,hj1,k4⟩
     ·have e5:u0 5= .pointer (some ⟨ib,0,none⟩):=(hd.1 rfl (by decide)).2
      rw[e5]
      have hj1:=hj
      go_wp2
      first|exact hj1|exact rfl|exact⟨rfl,hj1⟩|exact⟨rfl,hj1,k4⟩|exact⟨_,rfl,rfl,hj1,k4⟩
     ·have e6:u0 6= .pointer (some ⟨ib,4,none⟩):=(hd.1 rfl (by decide)).2
      have c4:=(HV6.out.after hj).c 4 rfl
      have c5:=(HV6.out.after hj).c 5 rfl
      rw[e6]
      have hj1:=hj
      go_wp2
      first|exact hj1|exact rfl|exact⟨rfl,hj1⟩|exact⟨rfl,hj1,k4⟩|exact⟨_,rfl,rfl,hj1,k4⟩
    ·intro u0 W8 L hall hb ht
     have e2:u0 2= .pointer (some ⟨sb,0,none⟩):=ht 2 (by decide)
     have e7:u0 7= .agg #[.int .i64 x.a, .int .i64 x.b]:=ht 7 (by decide)
     have HBW:=Lh hb
     clear hb ht hall
     simp only[Kj,Jh,Jj,Jk,putAll,Act.put,Lq,Lk,Lj,Ly,Lx]
     rw[e2,e7]
     clear e2 e7
     have HM8:=Lh ((M3.doing base sb (golC cs)).keep _ _ _ _ _ HM5.out (fun b h=>(HBW.out.block b (Kx ((M3.doing base sb (golC cs)).lt _ _ _ _ HM5.out b h) HB6.out.size)).trans (HB6.out.block b ((M3.doing base sb (golC cs)).lt _ _ _ _ HM5.out b h))))
     have HAD:=Lh ((M3.doing base sb (golC cs)).add _ _ _ W8 8 x.a x.b HM8.out HFL.out)
     go_wp2_with (go_at_call 57;(with_reducible refine(HAD.out).mono ?_);rintro e w9 ⟨rfl,O9,hm9,hf9,hg9⟩;have HM9:=Lh hm9;have HF9:=Lh hf9;have HG9:=Lh hg9;clear hm9 hf9 hg9)
     first|go_end0|refine bodyPost_ret (results_none rfl _ _ _) rfl ?_
     refine⟨rfl,O9,HEND.out.2.1 _ _ _ (by rw[HWS.out]) HM9.out,?_,fun i hi=>?_,?_⟩
     ·exact(HEND.out.1.trans (Frm.of (O:=fun i=>O i∨i=ib) (HB6.out.trans (HBW.out.mono HB6.out.size))) (Grown.refl _ _)).trans HF9.out HEND.out.2.2
     ·rcases HG9.out i hi with h|h
      ·exact HEND2.out i h
      ·exact Mx (by have:=HEND.out.1.size;have:=HB6.out.size;have:=HBW.out.size;omega)
     ·rw[HWV.out];exact HF9.out.var (HV6.out.after HBW.out) HNI.out
   ·have b2:decide (l3<l2)=false:=by simpa using h2
    go_quiet (fail)
    have HB6:Hid (Below w5.heap.size w5 (w5.drewN nq)):=Lh (Go.below_drewN (Mj _ _) nq)
    generalize w5.drewN nq=W6 at HB6 ⊢
    have HWS:Hid (wholeN x (notK x)= []):=Lh (by unfold wholeN;rw[hl0,hl1,hl2,hl3,if_neg (by rintro(e|e)<;>omega)])
    clear hl0 hl1 hl2 hl3 z2 z3 z4 z5
    go_wp2_with fail
    first|go_end0|refine bodyPost_ret (results_none rfl _ _ _) rfl ?_
    refine⟨rfl,O5,HEND.out.2.1 _ _ _ (by rw[HWS.out,List.append_nil]) ((M3.doing base sb (golC cs)).keep _ _ _ _ _ HM5.out (fun b h=>HB6.out.block b ((M3.doing base sb (golC cs)).lt _ _ _ _ HM5.out b h))),?_,HEND2.out,by rw[HWV.out];exact HV5.out.after HB6.out⟩
    exact HEND.out.1.trans (Frm.of (O:=fun i=>O i∨i=ib) HB6.out) (Grown.refl _ _)
end
section
open Go.RowKit
section
variable {base sb:Nat}
theorem notify_handler {K S:Foot} {w0:World} {x:It} {D:Nat} {wv kv:Value} (hn:x.name=nNotify) (hwd:WordsIs w0 S wv x.words) (hkd:ItemsIs D w0 S kv x.kids) (hSK: ∀b,S b→K b) (hKl: ∀b,K b→b<w0.heap.size) (hwk: ∀y∈x.kids,WordsOk y.words):HandlerC 0 subT (M0 base sb) K w0 x wv kv 35 #[.pointer (some ⟨sb,0,none⟩)] #[]:=by
 intro W cs F O ib mb hin
 have hp:=find_not hn
 have hWsz:w0.heap.size≤W.heap.size:=Kz hin.isz (Nat.le_of_lt hin.item.s)
 have hkW:ItemsIs D W S kv x.kids:=hkd.keep (fun _ h=>h) (fun b hb=>hin.kept b (hSK b hb))
 have hSl: ∀b,S b→b<W.heap.size:=fun b hb=>Kx (hKl b (hSK b hb)) hWsz
 have hsec:secS x=⟨#[]⟩:=sec_none (by rw[hn];decide)
 obtain⟨wa,wc,hwv⟩:=hwd.size
 subst hwv
 show Calls Tryz.prog 35 #[.pointer (some ⟨sb,0,none⟩), .pointer (some ⟨ib,0,none⟩)] W _
 by_cases hf1:x.words.length=0∧x.block=true
 ·have hF:FormS spNot x:=form_not.mpr hf1
  by_cases hf:cntF cs x.name ⟨#[]⟩=0
  ·have hm0:manyS cs x.name=0:=by rw[←cntF_many];exact hf
   have hc0:codeS 0 cs x=0:=code_fine hp hF (fun h=>(known_one (p:=spNot) rfl).mp h hm0) (by rw[hm0];decide) (by
    have e:numS x=0:=by unfold numS;rw[if_pos hf1.1]
    rw[e];decide)
   have hnn: ∀c∈cs,c.name≠nNotify:=fun c hc e=>manyS_pos.mpr ⟨c,hc,e.trans hn.symm⟩ hm0
   have hfew:=hin.few
   rw[cntL_unit]at hfew
   refine(not_set x W sb ib mb wa wc kv ⟨#[]⟩ hin.item hf1 (cntF cs) hin.cnt hf base cs F O hin.m hn hnn hin.io D S hkW hSl (fun b hb=>hin.apart b (hSK b hb)) hwk (by omega)).mono ?_
   rintro e W' ⟨rfl,h⟩
   rw[hsec]
   exact Mx ⟨hc0,rfl,h⟩
  ·have hc18:codeS 0 cs x=18:=code_known hp hF ((known_one (p:=spNot) rfl).mpr (by rw[←cntF_many];exact hf))
   refine(not_known x W sb ib mb wa wc kv ⟨#[]⟩ hin.item hf1 (cntF cs) hin.cnt hf).mono ?_
   rintro e W' ⟨rfl,hb⟩
   exact My ⟨by rw[hc18];decide,by rw[hc18],hb⟩
 ·have hc6:codeS 0 cs x=6:=code_form hp (fun h=>hf1 (form_not.mp h))
  refine(not_form x W sb ib mb wa wc kv ⟨#[]⟩ hin.item hf1).mono ?_
  rintro e W' ⟨rfl,hb⟩
  exact My ⟨by rw[hc6];decide,by rw[hc6],hb⟩
theorem ok_words: ∀ {L:List It},EachR L→LightL L→∀x∈L,WordsOk x.words∧EachR x.kids∧LightL x.kids
 | .mk n w k kids a b::l,h,hl,x,hx=>by
  rw[EachR]at h
  rw[LightL]at hl
  rcases List.mem_cons.mp hx with rfl|hx
  ·exact⟨fun t ht=>⟨h.2.2.2.1 t ht,(hl.1.2.2 t ht).2⟩,h.2.2.2.2.1,hl.2.1⟩
  ·exact ok_words h.2.2.2.2.2 hl.2.2 x hx
theorem ok_three {L:List It} (h:EachR L) (hl:LightL L): ∀x∈L,WordsOk x.words∧∀y∈x.kids,WordsOk y.words∧∀z∈y.kids,WordsOk z.words:=fun x hx=>by
 obtain⟨h1,h2,h3⟩:=ok_words h hl x hx
 refine⟨h1,fun y hy=>?_⟩
 obtain⟨h4,h5,h6⟩:=ok_words h2 h3 y hy
 exact⟨h4,fun z hz=>(ok_words h5 h6 z hz).1⟩
def hmS (sb:Nat) (s:ByteArray):Option Value:=if s=nNotify then some (.func (.func 35) #[.pointer (some ⟨sb,0,none⟩)] #[])else if s=nObjective then some (.func (.func 34) #[.pointer (some ⟨sb,0,none⟩)] #[])else none
theorem src_handles {K S:Foot} {w:World} {x:It} (hSK: ∀b,S b→K b) (hKl: ∀b,K b→b<w.heap.size) (hw:WordsOk x.words∧∀y∈x.kids,WordsOk y.words∧∀z∈y.kids,WordsOk z.words):HandlesC 0 subT (M0 base sb) K w (hmS sb) S x:=by
 by_cases e1:x.name=nObjective
 ·exact Mx ⟨spObj,_,_,_,find_obj e1,by unfold hmS;rw[if_neg (by rw[e1];decide),if_pos e1],obj_enters,fun D wv kv hwd hk=>objective_handler e1 hwd hk hSK hKl hw.1 hw.2⟩
 by_cases e2:x.name=nNotify
 ·exact Mx ⟨spNot,_,_,_,find_not e2,by unfold hmS;rw[if_pos e2],not_enters,fun D wv kv hwd hk=>notify_handler e2 hwd hk hSK hKl (fun y hy=>(hw.2 y hy).1)⟩
 refine My ⟨by unfold hmS;rw[if_neg e2,if_neg e1],?_⟩
 unfold findS
 rw[List.find?_eq_none.mpr (fun t ht=>by
  simp only[specsL,List.mem_cons,List.not_mem_nil,or_false]at ht
  rcases ht with rfl|rfl<;>simp only[decide_eq_true_eq]<;>exact fun e=>by first|exact e1 e.symm|exact e2 e.symm)]
theorem sread_any (L:List It) (D:Nat) (S:Nat→Prop) (v:Value) (w:World) (hV:VarL w sb [.slice none 0 0, .slice none 0 0, .int .i64 0, .int .i64 0, .int .i64 0, .int .i64 0, .int .i64 0]) (hbs:base≤sb) (hT:ItemsIs D w S v L) (hSl: ∀b,S b→b<w.heap.size) (hSs: ¬S sb) (hwo: ∀x∈L,WordsOk x.words∧∀y∈x.kids,WordsOk y.words∧∀z∈y.kids,WordsOk z.words) (hfew:4*cntL L≤1000000):
  Calls Tryz.prog 22 #[.pointer (some ⟨sb,0,none⟩),v] w fun e w'=>e= .returned (.tuple #[])∧∃O',M0 base sb (lookS 0 subT L).1 (lookS 0 subT L).2 O' w'∧Frm (fun i=>i=sb) w w'∧Grown (fun i=>i=sb) O' w.heap.size:=by
 have hmf: ∀(fn:Fn) (first cap:Array Value) (w:World),(Instr.makeFunc fn first cap).run Tryz.prog w= .ok (.func fn first cap) w:=fun _ _ _ _=>rfl
 have hmm:= @run_makeMap Tryz.prog
 obtain⟨Wd,hWd⟩: ∃Wd,putL sb 2 [.int .i64 16, .int .i64 0, .int .i64 10, .int .i64 300, .int .i64 0] w=Wd:=⟨_,rfl⟩
 have hVd:VarL Wd sb [.slice none 0 0, .slice none 0 0, .int .i64 16, .int .i64 0, .int .i64 10, .int .i64 300, .int .i64 0]:=by
  rw[←hWd]
  exact putL_var [.int .i64 16, .int .i64 0, .int .i64 10, .int .i64 300, .int .i64 0] [.slice none 0 0, .slice none 0 0] [.int .i64 0, .int .i64 0, .int .i64 0, .int .i64 0, .int .i64 0] w hV rfl
 have hFd:Frm (fun i=>i=sb) w Wd:=by
  rw[←hWd]
  exact(((((Frm.refl (fun i=>i=sb) w).set rfl 2 _).set rfl 3 _).set rfl 4 _).set rfl 5 _).set rfl 6 _
 obtain⟨Wm,hWm⟩: ∃Wm,Wd.alloc (.map #[] 0)=Wm:=⟨_,rfl⟩
 obtain⟨hB,hhB⟩: ∃n,Wd.heap.size=n:=⟨_,rfl⟩
 have hi0:=HIs.made Wd
 rw[hWm,hhB]at hi0
 obtain⟨W1,hr1,hi1,hg1⟩:=hi0.insert (s:=nObjective) rfl (.func (.func 34) #[.pointer (some ⟨sb,0,none⟩)] #[])
 obtain⟨W2,hr2,hi2,hg2⟩:=hi1.insert (s:=nNotify) (by rw[if_neg (by decide)]) (.func (.func 35) #[.pointer (some ⟨sb,0,none⟩)] #[])
 have hbm:Below Wd.heap.size Wd Wm:=by rw[←hWm];exact(Mj _ _).alloc (Mz _) _
 have hb2:Below Wd.heap.size Wd W2:=by
  have q1:=hg1.size
  have q2:=hg2.size
  refine⟨hg2.os.trans (hg1.os.trans hbm.os),hg2.tape.trans (hg1.tape.trans hbm.tape),hg2.output.trans (hg1.output.trans hbm.output),Kz hbm.size (Kz q1 q2),fun i hi=>?_⟩
  have hl:=hbm.size
  exact(hg2.block i (by omega) (fun e=>by injection e with e;omega)).trans ((hg1.block i (by omega) (fun e=>by injection e with e;omega)).trans (hbm.block i hi))
 have hst:M0 base sb [] [] (fun i=>i=sb) Wd:=⟨fun c hc=>(by cases hc), .slice none 0 0, .slice none 0 0,[],⟨⟨hVd,RowK.nil _ _ _ _,fun b e=>(by cases e)⟩,RowK.nil _ _ _ _,rfl,fun i u g hu=>(by cases hu),fun b e=>(by cases e),fun u hu=>(by cases hu),hbs⟩,fun i=>⟨My,fun h=>by
  rcases h with h|h|h|⟨u,hu,_⟩
  ·exact h
  ·cases h
  ·cases h
  ·cases hu⟩⟩
 have hTd:ItemsIs D Wd S v L:=hT.keep (fun _ h=>h) (fun b hb=>hFd.keep b (hSl b hb) (fun e=>hSs (by rw[←e];exact hb)))
 have hz:=hFd.size
 have HEA:=Lh (each_map2 (M0.doing base sb) (k:=2) (by decide) (by decide) subT_le hst hb2 (hm:=hmS sb) hi2 (by omega) hTd (fun b hb=>Kx (hSl b hb) hz) (fun b hb e=>hSs (by rw[←e];exact hb)) (by simpa using hfew) (fun x hx=>src_handles (fun b h=>My h) (fun b h=>h.elim (fun h=>Kx (hSl b h) (Kz hz hb2.size)) (fun h=>h.2)) (hwo x hx)))
 have HFD:=Lh hFd
 have HB2:=Lh hb2
 have z2:=hV.c 2 rfl
 have zq2:=hV.q 2 rfl
 have z3:=hV.c 3 rfl
 have zq3:=hV.q 3 rfl
 have z4:=hV.c 4 rfl
 have zq4:=hV.q 4 rfl
 have z5:=hV.c 5 rfl
 have zq5:=hV.q 5 rfl
 have z6:=hV.c 6 rfl
 have zq6:=hV.q 6 rfl
 simp only[putL,Lx]at hWd
 clear hV hbs hT hSl hSs hwo hfew hVd hFd hi0 hi1 hi2 hg1 hg2 hbm hb2 hst hTd hz
 go_enter Tryz.func22,Tryz.ntmps22
 go_wp2_with (go_at_call 33;(with_reducible refine(HEA.out).mono ?_);rintro e w5 ⟨rfl,O5,hm5,hf5,hg5⟩;have HM5:=Lh hm5;have HF5:=Lh hf5;have HG5:=Lh hg5;clear hm5 hf5 hg5)
 first|go_end0|refine bodyPost_ret (results_none rfl _ _ _) rfl ?_
 refine⟨rfl,O5,by simpa using HM5.out,(HFD.out.trans (Frm.of (O:=fun i=>i=sb) HB2.out) (Grown.refl _ _)).trans HF5.out (Grown.refl _ _),fun i hi=>(HG5.out i hi).imp id (fun h=>by have h1:=HFD.out.size;have h2:=HB2.out.size;omega)⟩
end
end
section
open Go.RowKit
theorem RowK.one_new (t:TypeId) (sz:Nat) (w:World) (base:Nat) (y:List Value) (hy:y.length=sz) (ho: ∀v∈y,v.oneCell'=true) (h:base≤w.heap.size):RowK t sz (w.alloc (.cells y.toArray t)) base (.slice (some ⟨w.heap.size,0,none⟩) 1 1) [y]:=by
 subst hy
 refine⟨⟨by simp, .inr ⟨w.heap.size,1,y.toArray,rfl,h,heap_alloc_new w _,Mz _,by decide,by simp,by simp⟩⟩,fun u hu=>?_,fun u hu=>?_⟩
 ·rw[List.mem_singleton.mp hu]
 ·rw[List.mem_singleton.mp hu];exact ho
def confL (gv:Value) (c:CfC):List Value:= [gv, .int .i64 c.room, .int .i64 c.reserve, .int .i64 c.first, .int .i64 c.cap, .int .i64 c.again]
def zeroC:CfC:=⟨[],0,0,0,0,0⟩
structure ConfV (w:World) (base:Nat) (cv:Value) (c:CfC):Prop where
 is: ∃gv us,cv= .agg (confL gv c).toArray∧RowK 54 8 w base gv us∧us.length=c.goals.length∧∀(i:Nat) u g,us[i]?=some u→c.goals[i]?=some g→GolV w base u g
abbrev FltsV (w:World) (base:Nat) (fv:Value) (F:List Flt):Prop:=RowK 41 3 w base fv (F.map fltV)
theorem ConfV.zero (w:World) (base:Nat):ConfV w base (.agg #[.slice none 0 0, .int .i64 0, .int .i64 0, .int .i64 0, .int .i64 0, .int .i64 0]) zeroC:=⟨.slice none 0 0,[],rfl,RowK.nil _ _ _ _,rfl,fun i u g hu=>(by cases hu)⟩
def CompS (L:List It) (c:CfC) (F:List Flt):Prop:=(¬RightL L∧c=zeroC∧F= [(6,0,0)])∨(RightL L∧(lookS 0 subT L).2≠ []∧c=zeroC∧F=(lookS 0 subT L).2)∨(RightL L∧(lookS 0 subT L).2= []∧c=confC L∧F= [])
theorem comp_results {W:World} {g:Nat} {x0 x1 x2 x3 x4 x5 u:Value} {tmps:Array Value} (h:VarL W g [x0,x1,x2,x3,x4,x5]) (h4:tmps.getD 2 undef= .pointer (some ⟨g,0,none⟩)) (h5:tmps.getD 3 undef=u):(results Tryz.f13 tmps).run Tryz.prog W= .ok (.tuple #[.agg #[x0,x1,x2,x3,x4,x5],u]) W:=by
 rw[results_cell_tmp rfl,h4,h5]
 have e:(asAddr (Value.pointer (some ⟨g,0,none⟩))).run Tryz.prog W= .ok ⟨g,0,none⟩ W:=rfl
 rw[e]
 show((loadVar 27 ⟨g,0,none⟩).run Tryz.prog W).andThen _=_
 have e2:(loadVar 27 ⟨g,0,none⟩).run Tryz.prog W= .ok (.agg #[x0,x1,x2,x3,x4,x5]) W:=by
  have c0:=h.c 0 rfl
  have c1:=h.c 1 rfl
  have c2:=h.c 2 rfl
  have c3:=h.c 3 rfl
  have c4:=h.c 4 rfl
  have c5:=h.c 5 rfl
  clear h
  go_simp
 rw[e2];rfl
theorem read_results {W:World} {g:Nat} {x0 x1 x2 x3 x4 x5 u:Value} {tmps:Array Value} (h:VarL W g [x0,x1,x2,x3,x4,x5]) (h4:tmps.getD 2 undef= .pointer (some ⟨g,0,none⟩)) (h5:tmps.getD 3 undef=u):(results Tryz.f8 tmps).run Tryz.prog W= .ok (.tuple #[.agg #[x0,x1,x2,x3,x4,x5],u]) W:=by
 rw[results_cell_tmp rfl,h4,h5]
 have e:(asAddr (Value.pointer (some ⟨g,0,none⟩))).run Tryz.prog W= .ok ⟨g,0,none⟩ W:=rfl
 rw[e]
 show((loadVar 27 ⟨g,0,none⟩).run Tryz.prog W).andThen _=_
 have e2:(loadVar 27 ⟨g,0,none⟩).run Tryz.prog W= .ok (.agg #[x0,x1,x2,x3,x4,x5]) W:=by
  have c0:=h.c 0 rfl
  have c1:=h.c 1 rfl
  have c2:=h.c 2 rfl
  have c3:=h.c 3 rfl
  have c4:=h.c 4 rfl
  have c5:=h.c 5 rfl
  clear h
  go_simp
 rw[e2];rfl
theorem comp_no (D:Nat) (S:Nat→Prop) (v:Value) (L:List It) (w:World) (env:Env w) (h:ItemsIs D w S v L) (hS: ∀b,S b→b<w.heap.size) (hm:cntL L≤1000000) (hd:depL L≤900000) (hl:LightL L) (hr: ¬RightL L):
  Calls Tryz.prog 13 #[v] w fun e w'=> ∃cv fv,e= .returned (.tuple #[cv,fv])∧ConfV w' w.heap.size cv zeroC∧FltsV w' w.heap.size fv [(6,0,0)]∧Below w.heap.size w w':=by
 obtain⟨rb,W1,hrb,hW1,V1,b1,z1⟩:=boxL w [.slice none 0 0, .int .i64 0, .int .i64 0, .int .i64 0, .int .i64 0, .int .i64 0] 27
 have HR:=Lh (lright_any D S v L W1 (env.step b1) (h.belowS hS b1) (fun b hb=>Kx (hS b hb) b1.size) hm hd hl)
 have HNR:=Lh hr
 have HB1:=Lh b1
 have HRB:Hid (w.heap.size≤rb):=Lh (by omega)
 have HFA:Hid (∀w2,Below W1.heap.size W1 w2→∃gb W3,w2.heap.size=gb∧w2.alloc (.cells #[.int .i64 6, .int .i64 0, .int .i64 0] 41)=W3∧RowK 41 3 W3 w.heap.size (.slice (some ⟨gb,0,none⟩) 1 1) [[.int .i64 6, .int .i64 0, .int .i64 0]]∧Below w.heap.size w W3∧gb≠rb∧VarL W3 rb [.slice none 0 0, .int .i64 0, .int .i64 0, .int .i64 0, .int .i64 0, .int .i64 0]):=Lh (fun w2 g2=>by
  obtain⟨gb,W3,hgb,hW3,V3,b3,z3⟩:=boxL w2 [.int .i64 6, .int .i64 0, .int .i64 0] 41
  have hb2:=below_step b1 g2
  have:=RowK.one_new 41 3 w2 w.heap.size [.int .i64 6, .int .i64 0, .int .i64 0] rfl (by intro u hu;simp only[List.mem_cons,List.not_mem_nil,or_false]at hu;rcases hu with rfl|rfl|rfl<;>rfl) hb2.size
  rw[hW3,hgb]at this
  exact⟨gb,W3,hgb,hW3,this,below_step hb2 b3,by have:=(V1.after g2).s;omega,(V1.after g2).after b3⟩)
 clear env h hS hm hd hl hr V1 b1 z1
 go_enter Tryz.func13,Tryz.ntmps13
 go_wp2_with (go_at_call 21;(with_reducible refine(HR.out).mono ?_);rintro e w2 ⟨q,rfl,hq,g2⟩;have hqf:q=false:=(by cases q with|false=>rfl|true=>exact(HNR.out (hq.mp rfl)).elim);subst hqf;obtain⟨gb,W3,hgb,hW3,hw3,hb3,hgr,hv3⟩:=HFA.out w2 g2;have HW3:=Lh hw3;have HB3:=Lh hb3;have HGR:=Lh hgr;have HV3:=Lh hv3;have z0:=hv3.c 0 rfl;have z1:=hv3.c 1 rfl;have z2:=hv3.c 2 rfl;have z3:=hv3.c 3 rfl;have z4:=hv3.c 4 rfl;have z5:=hv3.c 5 rfl;have y0:=hv3.q 0 rfl;have y1:=hv3.q 1 rfl;have y2:=hv3.q 2 rfl;have y3:=hv3.q 3 rfl;have y4:=hv3.q 4 rfl;have y5:=hv3.q 5 rfl;clear hw3 hb3 hgr hv3 g2 hq)
 have v4:=putL_var [.slice none 0 0, .int .i64 0, .int .i64 0, .int .i64 0, .int .i64 0, .int .i64 0] [] [.slice none 0 0, .int .i64 0, .int .i64 0, .int .i64 0, .int .i64 0, .int .i64 0] W3 HV3.out rfl
 have b4:=putL_below rb HRB.out [.slice none 0 0, .int .i64 0, .int .i64 0, .int .i64 0, .int .i64 0, .int .i64 0] 0 HB3.out
 have r4:=HW3.out.kept (w':=putL rb 0 [.slice none 0 0, .int .i64 0, .int .i64 0, .int .i64 0, .int .i64 0, .int .i64 0] W3) (fun b e=>putL_else rb _ _ _ _ (fun e2=>by injection e with e;exact HGR.out (e.trans e2)))
 obtain⟨W4,hW4⟩: ∃W4,putL rb 0 [.slice none 0 0, .int .i64 0, .int .i64 0, .int .i64 0, .int .i64 0, .int .i64 0] W3=W4:=⟨_,rfl⟩
 rw[List.length_nil,hW4]at v4
 rw[hW4]at b4 r4
 have HB4:=Lh b4
 have HR4:=Lh r4
 have HV4:=Lh v4
 simp only[putL,Ly,Lx]at hW4
 rw[hW4]
 clear v4 b4 r4 z0 z1 z2 z3 z4 z5 y0 y1 y2 y3 y4 y5 hW4 hW3 hgb
 (try simp only[Exit.inBlock,Exit.then])
 refine bodyPost_ret (comp_results HV4.out rfl rfl) rfl ?_
 exact⟨_,_,rfl,ConfV.zero _ _,HR4.out,HB4.out⟩
end
section
open Go.RowKit
def spcV (p:Spc) (kv:Value):List Value:= [.string p.name,kv, .bool p.block, .int .i64 (p.most:Int), .int .u64 p.lo, .int .u64 p.hi]
def SpecsIs (w:World) (base:Nat) (v:Value) (l:List Spc):Prop:= ∃g c,v= .slice (some ⟨g,0,none⟩) l.length c∧∀i p,l[i]?=some p→∃kv,(∀j,j<6→w.cell? ⟨g,i*6+j,none⟩=some ((spcV p kv).getD j undef))∧KindsIs w kv p.kinds∧∀a n c,kv= .slice (some a) n c→base≤a.block
theorem six {j:Nat} (h:j<6):j=0∨j=1∨j=2∨j=3∨j=4∨j=5:=by omega
def GivesFd (wh:Nat) (n:ByteArray) (w:World) (e:Ending) (w':World):Prop:=Below w.heap.size w w'∧((findS wh n=none∧e= .returned (.tuple #[.agg #[.string ⟨#[]⟩, .slice none 0 0, .bool false, .int .i64 0, .int .u64 0, .int .u64 0], .bool false]))∨∃p kv,findS wh n=some p∧e= .returned (.tuple #[.agg (spcV p kv).toArray, .bool true])∧KindsIs w' kv p.kinds)
end
section
open Go.RowKit
end
end Go.Proofs.YtalcagmhdppdjaaGreatDoor
