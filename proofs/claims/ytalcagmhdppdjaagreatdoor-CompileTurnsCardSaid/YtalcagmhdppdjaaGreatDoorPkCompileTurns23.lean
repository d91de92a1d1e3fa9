/-
  Package compile's objective: read.
-/
import Derived.Test.YtalcagmhdppdjaaGreatDoorPkCompileTurns22
set_option maxRecDepth 100000
set_option maxHeartbeats 8000000
namespace Go.Proofs.YtalcagmhdppdjaaGreatDoor
open Lib renaming hid→Lh
open List renaming setIfInBounds_toArray→Lq,set_cons_zero→Lj,set_cons_succ→Lk,getD_eq_getElem?_getD→Mk,length_append→Kq,take_succ_cons→Kj,length_map→Ky,take_zero→Jh,drop_succ_cons→Jj,drop_zero→Jk
open Nat renaming reduceAdd→Lx,zero_add→Ly,le_refl→Mz,lt_of_lt_of_le→Kx,le_trans→Kz
open StepsJ renaming cons→Lz
open StepsU renaming cons→Mh
open Act renaming put→Mq
open Go.RowKit.Below renaming refl→Mj
open Or renaming inr→Mx,inl→My
section
open Go.RowKit
def TGMap (fpv kv:Value) (gb ib bx b1:Nat):Nat→Value→World→Prop
 |0,v,_=>v= .pointer (some ⟨gb,0,none⟩)
 |1,v,_=>v= .pointer (some ⟨gb,0,none⟩)
 |2,v,_=>v= .pointer (some ⟨gb,0,none⟩)
 |3,v,_=>v=fpv
 |4,v,_=>v= .pointer (some ⟨ib,0,none⟩)
 |5,v,_=>v= .pointer (some ⟨ib,0,none⟩)
 |6,v,_=>v= .pointer (some ⟨ib,0,none⟩)
 |7,v,_=>v= .pointer (some ⟨ib,3,none⟩)
 |8,v,_=>v=kv
 |10,v,_=>v= .func (.func 95) #[] #[.pointer (some ⟨bx,0,none⟩)]
 |11,v,w=>PlainV b1 94 1 999999 (.func (.func 95) #[] #[.pointer (some ⟨bx,0,none⟩)]) v w
 |13,v,_=>v= .pointer (some ⟨gb,0,none⟩)
 |14,v,_=>v= .pointer (some ⟨gb,0,none⟩)
 |15,v,_=>v= .pointer (some ⟨gb,1,none⟩)
 |16,v,_=>v= .pointer (some ⟨gb,3,none⟩)
 |17,v,w=>SpanV b1 101 102 1 86400 gb 3 v w
 |19,v,_=>v= .pointer (some ⟨gb,0,none⟩)
 |20,v,_=>v= .pointer (some ⟨gb,0,none⟩)
 |21,v,_=>v= .pointer (some ⟨gb,1,none⟩)
 |22,v,_=>v= .pointer (some ⟨gb,4,none⟩)
 |23,v,w=>SpanV b1 101 102 0 86400 gb 4 v w
 |25,v,_=>v= .pointer (some ⟨gb,0,none⟩)
 |26,v,_=>v= .pointer (some ⟨gb,0,none⟩)
 |27,v,_=>v= .pointer (some ⟨gb,1,none⟩)
 |28,v,_=>v= .pointer (some ⟨gb,5,none⟩)
 |29,v,w=>SpanV b1 101 102 1 34560000 gb 5 v w
 |31,v,_=>v= .pointer (some ⟨gb,0,none⟩)
 |32,v,_=>v= .func (.func 96) #[.pointer (some ⟨gb,0,none⟩)] #[]
 |34,v,_=>v= .pointer (some ⟨gb,0,none⟩)
 |35,v,_=>v= .func (.func 97) #[.pointer (some ⟨gb,0,none⟩)] #[]
 |37,v,_=>v= .pointer (some ⟨gb,0,none⟩)
 |38,v,_=>v= .func (.func 98) #[.pointer (some ⟨gb,0,none⟩)] #[]
 |_,_,_=>True
theorem TGMap.ck {fpv kv:Value} {gb ib bx b1:Nat} (i:Nat) (v:Value) (w w':World) (h:TGMap fpv kv gb ib bx b1 i v w) (hb:CK w w'):TGMap fpv kv gb ib bx b1 i v w':=by
 match i,h with
 |0,h=>exact h
 |1,h=>exact h
 |2,h=>exact h
 |3,h=>exact h
 |4,h=>exact h
 |5,h=>exact h
 |6,h=>exact h
 |7,h=>exact h
 |8,h=>exact h
 |9,_=>exact trivial
 |10,h=>exact h
 |11,h=>exact PlainV.ck h hb
 |12,_=>exact trivial
 |13,h=>exact h
 |14,h=>exact h
 |15,h=>exact h
 |16,h=>exact h
 |17,h=>exact SpanV.ck h hb
 |18,_=>exact trivial
 |19,h=>exact h
 |20,h=>exact h
 |21,h=>exact h
 |22,h=>exact h
 |23,h=>exact SpanV.ck h hb
 |24,_=>exact trivial
 |25,h=>exact h
 |26,h=>exact h
 |27,h=>exact h
 |28,h=>exact h
 |29,h=>exact SpanV.ck h hb
 |30,_=>exact trivial
 |31,h=>exact h
 |32,h=>exact h
 |33,_=>exact trivial
 |34,h=>exact h
 |35,h=>exact h
 |36,_=>exact trivial
 |37,h=>exact h
 |38,h=>exact h
 |39,_=>exact trivial
 |40,_=>exact trivial
 |m+41,_=>exact trivial
section
variable {base:Nat} {fpv:Value} {X:List Flt→Foot→World→Prop} {gb:Nat} {nm:ByteArray}
theorem read_any (hX:CtxC fpv X) (x:It) (F:List Flt) (O:Foot) (w:World) (ib mb:Nat) (wv kv:Value) (sec:ByteArray) (hM:M1 base fpv X gb nm [] F O w) (hi:VarL w ib (itemL x wv kv mb sec)) (hio: ¬O ib) (D:Nat) (S:Foot) (hkd:ItemsIs D w S kv x.kids) (hSl: ∀b,S b→b<w.heap.size) (hSO: ∀b,S b→¬O b) (hwk: ∀y∈x.kids,WordsOk y.words∧∀z∈y.kids,WordsOk z.words) (hfew:F.length+4*cntL x.kids+4≤1000000):Calls Tryz.prog 62 #[.pointer (some ⟨gb,0,none⟩), .pointer (some ⟨ib,0,none⟩)] w fun e w'=>e= .returned (.tuple #[])∧∃O',M1 base fpv X gb nm (goalK x) (F++((lookS 1 subG x.kids).2++wholeG x (goalK x))) O' w'∧Frm O w w'∧Grown O O' w.heap.size:=by
 have hmf: ∀(fn:Fn) (first cap:Array Value) (w:World),(Instr.makeFunc fn first cap).run Tryz.prog w= .ok (.func fn first cap) w:=fun _ _ _ _=>rfl
 obtain⟨bx,W1,hbx,hW1,VB,b1,z1⟩:=boxL w [.pointer (some ⟨gb,0,none⟩)] 153
 have HX:=Lh hX
 have HM:=Lh hM
 have HOL:Hid (∀b,O b→b<w.heap.size):=Lh ((M1.ctx hX []).lt _ _ _ hM)
 have HIO:=Lh hio
 have HI:=Lh hi
 have HKD:=Lh hkd
 have HSL:=Lh hSl
 have HSO:=Lh hSO
 have HWK:=Lh hwk
 have HFEW:=Lh hfew
 have HVB:=Lh VB
 have HB1:=Lh b1
 have HBX:=Lh hbx
 have HZ1:=Lh z1
 have HV1:=Lh (hi.after b1)
 have HGa:Hid (∃l,VarL W1 gb l∧l[0]?=some fpv):=Lh (by
  obtain⟨O1,lv,rv,pv,h,ho⟩:=hM
  exact⟨_,h.var.after b1,rfl⟩)
 obtain⟨lg,hg1,hg10⟩:=HGa.out
 have HG1:=Lh hg1
 have HG10:=Lh hg10
 clear hX hM hio hi hkd hSl hSO hwk hfew VB b1 z1 HGa hg1 hg10
 go_enter Tryz.func62,Tryz.ntmps62
 go_upto_region 1 with fail
 clear hW1 hbx
 refine wp_region_mixv 41 (TGMap fpv kv gb ib bx W1.heap.size) (JMap tabG 9 40 W1) (by kernel_rfl) (by kernel_rfl) (JMap.start tabG 9 40 W1) ?_ ?_
 ·simp only[Kj,Jh]
  refine(Mh ?_ (Mh ?_ (Mh ?_ (Mh ?_ (Mh ?_ (Mh ?_ (Mh ?_ (Mh ?_ (Mh ?_ (Mh ?_ (Mh ?_ (Mh ?_ (Mh ?_ (Mh ?_ (Mh ?_ (Mh ?_ (Mh ?_ (Mh ?_ (Mh ?_ (Mh ?_ (Mh ?_ (Mh ?_ (Mh ?_ (Mh ?_ (Mh ?_ (Mh ?_ (Mh ?_ (Mh ?_ (Mh ?_ (Mh ?_ (Mh ?_ (Mh ?_ (Mh ?_ (Mh ?_ (Mh ?_ (Mh ?_ (Mh ?_ (Mh ?_ (Mh ?_ (Mh ?_ (Mh ?_ StepsU.nil)))))))))))))))))))))))))))))))))))))))))
  all_goals(intro u0 W9 L hL hj hd;simp only[putAll,Mq,Lq,Lk,Lj,Ly,Lx])
  ·have cb:=(HVB.out.after hj.bel).c 0 rfl
   have hj1:=fun v=>hj.light 0 (by decide) (by decide) (by decide) hL (Mj _ _) v
   have hkp: ∀j v',j<41→L j=true→TGMap fpv kv gb ib bx W1.heap.size j v' W9→TGMap fpv kv gb ib bx W1.heap.size j v' W9:=fun j v' _ _ h=>TGMap.ck j v' W9 W9 h (fun _ _ h=>h)
   go_wp2
   first|exact rfl|exact hj1 _|exact⟨⟨undef,trivial⟩,hkp⟩|exact⟨hj1 _,hkp⟩|exact⟨rfl,hj1 _,hkp⟩|exact⟨_,rfl,rfl,hj1 _,hkp⟩|exact⟨_,rfl,trivial,hj1 _,hkp⟩|exact⟨trivial,hj1 _,hkp⟩|exact⟨hj1 _,k4⟩
  ·have e0:u0 0= .pointer (some ⟨gb,0,none⟩):=(hd.1 rfl (by decide)).2
   rw[e0]
   have hj1:=fun v=>hj.light 1 (by decide) (by decide) (by decide) hL (Mj _ _) v
   have hkp: ∀j v',j<41→L j=true→TGMap fpv kv gb ib bx W1.heap.size j v' W9→TGMap fpv kv gb ib bx W1.heap.size j v' W9:=fun j v' _ _ h=>TGMap.ck j v' W9 W9 h (fun _ _ h=>h)
   go_wp2
   first|exact rfl|exact hj1 _|exact⟨⟨undef,trivial⟩,hkp⟩|exact⟨hj1 _,hkp⟩|exact⟨rfl,hj1 _,hkp⟩|exact⟨_,rfl,rfl,hj1 _,hkp⟩|exact⟨_,rfl,trivial,hj1 _,hkp⟩|exact⟨trivial,hj1 _,hkp⟩|exact⟨hj1 _,k4⟩
  ·have e1:u0 1= .pointer (some ⟨gb,0,none⟩):=(hd.1 rfl (by decide)).2
   rw[e1]
   have hj1:=fun v=>hj.light 2 (by decide) (by decide) (by decide) hL (Mj _ _) v
   have hkp: ∀j v',j<41→L j=true→TGMap fpv kv gb ib bx W1.heap.size j v' W9→TGMap fpv kv gb ib bx W1.heap.size j v' W9:=fun j v' _ _ h=>TGMap.ck j v' W9 W9 h (fun _ _ h=>h)
   go_wp2
   first|exact rfl|exact hj1 _|exact⟨⟨undef,trivial⟩,hkp⟩|exact⟨hj1 _,hkp⟩|exact⟨rfl,hj1 _,hkp⟩|exact⟨_,rfl,rfl,hj1 _,hkp⟩|exact⟨_,rfl,trivial,hj1 _,hkp⟩|exact⟨trivial,hj1 _,hkp⟩|exact⟨hj1 _,k4⟩
  ·have e2:u0 2= .pointer (some ⟨gb,0,none⟩):=(hd.1 rfl (by decide)).2
   have c0:=(HG1.out.after hj.bel).c 0 HG10.out
   rw[e2]
   have hj1:=fun v=>hj.light 3 (by decide) (by decide) (by decide) hL (Mj _ _) v
   have hkp: ∀j v',j<41→L j=true→TGMap fpv kv gb ib bx W1.heap.size j v' W9→TGMap fpv kv gb ib bx W1.heap.size j v' W9:=fun j v' _ _ h=>TGMap.ck j v' W9 W9 h (fun _ _ h=>h)
   go_wp2
   first|exact rfl|exact hj1 _|exact⟨⟨undef,trivial⟩,hkp⟩|exact⟨hj1 _,hkp⟩|exact⟨rfl,hj1 _,hkp⟩|exact⟨_,rfl,rfl,hj1 _,hkp⟩|exact⟨_,rfl,trivial,hj1 _,hkp⟩|exact⟨trivial,hj1 _,hkp⟩|exact⟨hj1 _,k4⟩
  ·have hj1:=fun v=>hj.light 4 (by decide) (by decide) (by decide) hL (Mj _ _) v
   have hkp: ∀j v',j<41→L j=true→TGMap fpv kv gb ib bx W1.heap.size j v' W9→TGMap fpv kv gb ib bx W1.heap.size j v' W9:=fun j v' _ _ h=>TGMap.ck j v' W9 W9 h (fun _ _ h=>h)
   go_wp2
   first|exact rfl|exact hj1 _|exact⟨⟨undef,trivial⟩,hkp⟩|exact⟨hj1 _,hkp⟩|exact⟨rfl,hj1 _,hkp⟩|exact⟨_,rfl,rfl,hj1 _,hkp⟩|exact⟨_,rfl,trivial,hj1 _,hkp⟩|exact⟨trivial,hj1 _,hkp⟩|exact⟨hj1 _,k4⟩
  ·have e4:u0 4= .pointer (some ⟨ib,0,none⟩):=(hd.1 rfl (by decide)).2
   rw[e4]
   have hj1:=fun v=>hj.light 5 (by decide) (by decide) (by decide) hL (Mj _ _) v
   have hkp: ∀j v',j<41→L j=true→TGMap fpv kv gb ib bx W1.heap.size j v' W9→TGMap fpv kv gb ib bx W1.heap.size j v' W9:=fun j v' _ _ h=>TGMap.ck j v' W9 W9 h (fun _ _ h=>h)
   go_wp2
   first|exact rfl|exact hj1 _|exact⟨⟨undef,trivial⟩,hkp⟩|exact⟨hj1 _,hkp⟩|exact⟨rfl,hj1 _,hkp⟩|exact⟨_,rfl,rfl,hj1 _,hkp⟩|exact⟨_,rfl,trivial,hj1 _,hkp⟩|exact⟨trivial,hj1 _,hkp⟩|exact⟨hj1 _,k4⟩
  ·have e5:u0 5= .pointer (some ⟨ib,0,none⟩):=(hd.1 rfl (by decide)).2
   rw[e5]
   have hj1:=fun v=>hj.light 6 (by decide) (by decide) (by decide) hL (Mj _ _) v
   have hkp: ∀j v',j<41→L j=true→TGMap fpv kv gb ib bx W1.heap.size j v' W9→TGMap fpv kv gb ib bx W1.heap.size j v' W9:=fun j v' _ _ h=>TGMap.ck j v' W9 W9 h (fun _ _ h=>h)
   go_wp2
   first|exact rfl|exact hj1 _|exact⟨⟨undef,trivial⟩,hkp⟩|exact⟨hj1 _,hkp⟩|exact⟨rfl,hj1 _,hkp⟩|exact⟨_,rfl,rfl,hj1 _,hkp⟩|exact⟨_,rfl,trivial,hj1 _,hkp⟩|exact⟨trivial,hj1 _,hkp⟩|exact⟨hj1 _,k4⟩
  ·have e6:u0 6= .pointer (some ⟨ib,0,none⟩):=(hd.1 rfl (by decide)).2
   rw[e6]
   have hj1:=fun v=>hj.light 7 (by decide) (by decide) (by decide) hL (Mj _ _) v
   have hkp: ∀j v',j<41→L j=true→TGMap fpv kv gb ib bx W1.heap.size j v' W9→TGMap fpv kv gb ib bx W1.heap.size j v' W9:=fun j v' _ _ h=>TGMap.ck j v' W9 W9 h (fun _ _ h=>h)
   go_wp2
   first|exact rfl|exact hj1 _|exact⟨⟨undef,trivial⟩,hkp⟩|exact⟨hj1 _,hkp⟩|exact⟨rfl,hj1 _,hkp⟩|exact⟨_,rfl,rfl,hj1 _,hkp⟩|exact⟨_,rfl,trivial,hj1 _,hkp⟩|exact⟨trivial,hj1 _,hkp⟩|exact⟨hj1 _,k4⟩
  ·have e7:u0 7= .pointer (some ⟨ib,3,none⟩):=(hd.1 rfl (by decide)).2
   have c3:=(HV1.out.after hj.bel).c 3 rfl
   rw[e7]
   have hj1:=fun v=>hj.light 8 (by decide) (by decide) (by decide) hL (Mj _ _) v
   have hkp: ∀j v',j<41→L j=true→TGMap fpv kv gb ib bx W1.heap.size j v' W9→TGMap fpv kv gb ib bx W1.heap.size j v' W9:=fun j v' _ _ h=>TGMap.ck j v' W9 W9 h (fun _ _ h=>h)
   go_wp2
   first|exact rfl|exact hj1 _|exact⟨⟨undef,trivial⟩,hkp⟩|exact⟨hj1 _,hkp⟩|exact⟨rfl,hj1 _,hkp⟩|exact⟨_,rfl,rfl,hj1 _,hkp⟩|exact⟨_,rfl,trivial,hj1 _,hkp⟩|exact⟨trivial,hj1 _,hkp⟩|exact⟨hj1 _,k4⟩
  ·have hmm:= @run_makeMap Tryz.prog
   have hb2:Below W9.heap.size W9 (W9.alloc (.map #[] 0)):=(Mj _ _).alloc (Mz _) _
   have hj2:=hj.made (by decide) (by decide) hL
   have hj1: ∀_:Unit,_:=fun _=>hj2
   have hkp: ∀j v',j<41→L j=true→TGMap fpv kv gb ib bx W1.heap.size j v' W9→TGMap fpv kv gb ib bx W1.heap.size j v' (W9.alloc (.map #[] 0)):=fun j v' _ _ h=>TGMap.ck j v' W9 (W9.alloc (.map #[] 0)) h (CK.of hb2)
   go_wp2
   first|exact hkp|exact⟨trivial,hkp⟩|exact⟨trivial,hj2,hkp⟩|exact⟨hj2,hkp⟩|exact⟨_,rfl,trivial,hj2,hkp⟩
  ·have hj1:=fun v=>hj.light 10 (by decide) (by decide) (by decide) hL (Mj _ _) v
   have hkp: ∀j v',j<41→L j=true→TGMap fpv kv gb ib bx W1.heap.size j v' W9→TGMap fpv kv gb ib bx W1.heap.size j v' W9:=fun j v' _ _ h=>TGMap.ck j v' W9 W9 h (fun _ _ h=>h)
   go_wp2
   first|exact rfl|exact hj1 _|exact⟨⟨undef,trivial⟩,hkp⟩|exact⟨hj1 _,hkp⟩|exact⟨rfl,hj1 _,hkp⟩|exact⟨_,rfl,rfl,hj1 _,hkp⟩|exact⟨_,rfl,trivial,hj1 _,hkp⟩|exact⟨trivial,hj1 _,hkp⟩|exact⟨hj1 _,k4⟩
  ·have e10:u0 10= .func (.func 95) #[] #[.pointer (some ⟨bx,0,none⟩)]:=(hd.1 rfl (by decide)).2
   rw[e10]
   go_wp2_with (go_at_call 93;(with_reducible refine(number_any 94 1 999999 95 #[] #[.pointer (some ⟨bx,0,none⟩)] W9).mono ?_);rintro e W2 ⟨B,rfl,q1,q3,q5,q6⟩)
   have hj1:=hj.light 11 (by decide) (by decide) (by decide) hL q6
   have hkp: ∀j v',j<41→L j=true→TGMap fpv kv gb ib bx W1.heap.size j v' W9→TGMap fpv kv gb ib bx W1.heap.size j v' W2:=fun j v' _ _ h=>TGMap.ck j v' W9 W2 h (CK.of q6)
   first|exact⟨⟨B,rfl,Kz hj.bel.size q1,q5⟩,hj1 _,hkp⟩|exact⟨_,rfl,⟨B,rfl,Kz hj.bel.size q1,q5⟩,hj1 _,hkp⟩
  ·obtain⟨B,w2,eB,hr,hck,hjj⟩:=hj.ins (s:=nTarget) (k:=12) (kv:=11) rfl (by decide) (by decide) (by decide) (by decide) hL (hd.2.1 rfl (by decide)).1 (hd.1 rfl (by decide)).1
   have hj1:=hjj
   have hkp: ∀j v',j<41→L j=true→TGMap fpv kv gb ib bx W1.heap.size j v' W9→TGMap fpv kv gb ib bx W1.heap.size j v' w2:=fun j v' _ _ h=>TGMap.ck j v' W9 w2 h (hck)
   rw[eB]
   obtain⟨vv,hvv⟩: ∃vv,u0 11=vv:=⟨_,rfl⟩
   rw[hvv]at hr ⊢
   go_wp2
   first|exact rfl|exact hj1 _|exact⟨⟨undef,trivial⟩,hkp⟩|exact⟨hj1 _,hkp⟩|exact⟨rfl,hj1 _,hkp⟩|exact⟨_,rfl,rfl,hj1 _,hkp⟩|exact⟨_,rfl,trivial,hj1 _,hkp⟩|exact⟨trivial,hj1 _,hkp⟩|exact⟨hj1 _,k4⟩
  ·have cb:=(HVB.out.after hj.bel).c 0 rfl
   have hj1:=fun v=>hj.light 13 (by decide) (by decide) (by decide) hL (Mj _ _) v
   have hkp: ∀j v',j<41→L j=true→TGMap fpv kv gb ib bx W1.heap.size j v' W9→TGMap fpv kv gb ib bx W1.heap.size j v' W9:=fun j v' _ _ h=>TGMap.ck j v' W9 W9 h (fun _ _ h=>h)
   go_wp2
   first|exact rfl|exact hj1 _|exact⟨⟨undef,trivial⟩,hkp⟩|exact⟨hj1 _,hkp⟩|exact⟨rfl,hj1 _,hkp⟩|exact⟨_,rfl,rfl,hj1 _,hkp⟩|exact⟨_,rfl,trivial,hj1 _,hkp⟩|exact⟨trivial,hj1 _,hkp⟩|exact⟨hj1 _,k4⟩
  ·have e13:u0 13= .pointer (some ⟨gb,0,none⟩):=(hd.1 rfl (by decide)).2
   rw[e13]
   have hj1:=fun v=>hj.light 14 (by decide) (by decide) (by decide) hL (Mj _ _) v
   have hkp: ∀j v',j<41→L j=true→TGMap fpv kv gb ib bx W1.heap.size j v' W9→TGMap fpv kv gb ib bx W1.heap.size j v' W9:=fun j v' _ _ h=>TGMap.ck j v' W9 W9 h (fun _ _ h=>h)
   go_wp2
   first|exact rfl|exact hj1 _|exact⟨⟨undef,trivial⟩,hkp⟩|exact⟨hj1 _,hkp⟩|exact⟨rfl,hj1 _,hkp⟩|exact⟨_,rfl,rfl,hj1 _,hkp⟩|exact⟨_,rfl,trivial,hj1 _,hkp⟩|exact⟨trivial,hj1 _,hkp⟩|exact⟨hj1 _,k4⟩
  ·have e14:u0 14= .pointer (some ⟨gb,0,none⟩):=(hd.1 rfl (by decide)).2
   rw[e14]
   have hj1:=fun v=>hj.light 15 (by decide) (by decide) (by decide) hL (Mj _ _) v
   have hkp: ∀j v',j<41→L j=true→TGMap fpv kv gb ib bx W1.heap.size j v' W9→TGMap fpv kv gb ib bx W1.heap.size j v' W9:=fun j v' _ _ h=>TGMap.ck j v' W9 W9 h (fun _ _ h=>h)
   go_wp2
   first|exact rfl|exact hj1 _|exact⟨⟨undef,trivial⟩,hkp⟩|exact⟨hj1 _,hkp⟩|exact⟨rfl,hj1 _,hkp⟩|exact⟨_,rfl,rfl,hj1 _,hkp⟩|exact⟨_,rfl,trivial,hj1 _,hkp⟩|exact⟨trivial,hj1 _,hkp⟩|exact⟨hj1 _,k4⟩
  ·have e15:u0 15= .pointer (some ⟨gb,1,none⟩):=(hd.1 rfl (by decide)).2
   rw[e15]
   have hj1:=fun v=>hj.light 16 (by decide) (by decide) (by decide) hL (Mj _ _) v
   have hkp: ∀j v',j<41→L j=true→TGMap fpv kv gb ib bx W1.heap.size j v' W9→TGMap fpv kv gb ib bx W1.heap.size j v' W9:=fun j v' _ _ h=>TGMap.ck j v' W9 W9 h (fun _ _ h=>h)
   go_wp2
   first|exact rfl|exact hj1 _|exact⟨⟨undef,trivial⟩,hkp⟩|exact⟨hj1 _,hkp⟩|exact⟨rfl,hj1 _,hkp⟩|exact⟨_,rfl,rfl,hj1 _,hkp⟩|exact⟨_,rfl,trivial,hj1 _,hkp⟩|exact⟨trivial,hj1 _,hkp⟩|exact⟨hj1 _,k4⟩
  ·have e16:u0 16= .pointer (some ⟨gb,3,none⟩):=(hd.1 rfl (by decide)).2
   rw[e16]
   go_wp2_with (go_at_call 65;(with_reducible refine(cspan_any 1 86400 gb 3 W9).mono ?_);rintro e W2 ⟨bxq,B,rfl,q1,q2,q3,q4,q5,q6⟩)
   have hj1:=hj.light 17 (by decide) (by decide) (by decide) hL q6
   have hkp: ∀j v',j<41→L j=true→TGMap fpv kv gb ib bx W1.heap.size j v' W9→TGMap fpv kv gb ib bx W1.heap.size j v' W2:=fun j v' _ _ h=>TGMap.ck j v' W9 W2 h (CK.of q6)
   first|exact⟨⟨bxq,B,rfl,Kz hj.bel.size q1,by have:=hj.bel.size;omega,q4,q5⟩,hj1 _,hkp⟩|exact⟨_,rfl,⟨bxq,B,rfl,Kz hj.bel.size q1,by have:=hj.bel.size;omega,q4,q5⟩,hj1 _,hkp⟩
  ·obtain⟨B,w2,eB,hr,hck,hjj⟩:=hj.ins (s:=nGrain) (k:=18) (kv:=17) rfl (by decide) (by decide) (by decide) (by decide) hL (hd.2.1 rfl (by decide)).1 (hd.1 rfl (by decide)).1
   have hj1:=hjj
   have hkp: ∀j v',j<41→L j=true→TGMap fpv kv gb ib bx W1.heap.size j v' W9→TGMap fpv kv gb ib bx W1.heap.size j v' w2:=fun j v' _ _ h=>TGMap.ck j v' W9 w2 h (hck)
   rw[eB]
   obtain⟨vv,hvv⟩: ∃vv,u0 17=vv:=⟨_,rfl⟩
   rw[hvv]at hr ⊢
   go_wp2
   first|exact rfl|exact hj1 _|exact⟨⟨undef,trivial⟩,hkp⟩|exact⟨hj1 _,hkp⟩|exact⟨rfl,hj1 _,hkp⟩|exact⟨_,rfl,rfl,hj1 _,hkp⟩|exact⟨_,rfl,trivial,hj1 _,hkp⟩|exact⟨trivial,hj1 _,hkp⟩|exact⟨hj1 _,k4⟩
  ·have cb:=(HVB.out.after hj.bel).c 0 rfl
   have hj1:=fun v=>hj.light 19 (by decide) (by decide) (by decide) hL (Mj _ _) v
   have hkp: ∀j v',j<41→L j=true→TGMap fpv kv gb ib bx W1.heap.size j v' W9→TGMap fpv kv gb ib bx W1.heap.size j v' W9:=fun j v' _ _ h=>TGMap.ck j v' W9 W9 h (fun _ _ h=>h)
   go_wp2
   first|exact rfl|exact hj1 _|exact⟨⟨undef,trivial⟩,hkp⟩|exact⟨hj1 _,hkp⟩|exact⟨rfl,hj1 _,hkp⟩|exact⟨_,rfl,rfl,hj1 _,hkp⟩|exact⟨_,rfl,trivial,hj1 _,hkp⟩|exact⟨trivial,hj1 _,hkp⟩|exact⟨hj1 _,k4⟩
  ·have e19:u0 19= .pointer (some ⟨gb,0,none⟩):=(hd.1 rfl (by decide)).2
   rw[e19]
   have hj1:=fun v=>hj.light 20 (by decide) (by decide) (by decide) hL (Mj _ _) v
   have hkp: ∀j v',j<41→L j=true→TGMap fpv kv gb ib bx W1.heap.size j v' W9→TGMap fpv kv gb ib bx W1.heap.size j v' W9:=fun j v' _ _ h=>TGMap.ck j v' W9 W9 h (fun _ _ h=>h)
   go_wp2
   first|exact rfl|exact hj1 _|exact⟨⟨undef,trivial⟩,hkp⟩|exact⟨hj1 _,hkp⟩|exact⟨rfl,hj1 _,hkp⟩|exact⟨_,rfl,rfl,hj1 _,hkp⟩|exact⟨_,rfl,trivial,hj1 _,hkp⟩|exact⟨trivial,hj1 _,hkp⟩|exact⟨hj1 _,k4⟩
  ·have e20:u0 20= .pointer (some ⟨gb,0,none⟩):=(hd.1 rfl (by decide)).2
   rw[e20]
   have hj1:=fun v=>hj.light 21 (by decide) (by decide) (by decide) hL (Mj _ _) v
   have hkp: ∀j v',j<41→L j=true→TGMap fpv kv gb ib bx W1.heap.size j v' W9→TGMap fpv kv gb ib bx W1.heap.size j v' W9:=fun j v' _ _ h=>TGMap.ck j v' W9 W9 h (fun _ _ h=>h)
   go_wp2
   first|exact rfl|exact hj1 _|exact⟨⟨undef,trivial⟩,hkp⟩|exact⟨hj1 _,hkp⟩|exact⟨rfl,hj1 _,hkp⟩|exact⟨_,rfl,rfl,hj1 _,hkp⟩|exact⟨_,rfl,trivial,hj1 _,hkp⟩|exact⟨trivial,hj1 _,hkp⟩|exact⟨hj1 _,k4⟩
  ·have e21:u0 21= .pointer (some ⟨gb,1,none⟩):=(hd.1 rfl (by decide)).2
   rw[e21]
   have hj1:=fun v=>hj.light 22 (by decide) (by decide) (by decide) hL (Mj _ _) v
   have hkp: ∀j v',j<41→L j=true→TGMap fpv kv gb ib bx W1.heap.size j v' W9→TGMap fpv kv gb ib bx W1.heap.size j v' W9:=fun j v' _ _ h=>TGMap.ck j v' W9 W9 h (fun _ _ h=>h)
   go_wp2
   first|exact rfl|exact hj1 _|exact⟨⟨undef,trivial⟩,hkp⟩|exact⟨hj1 _,hkp⟩|exact⟨rfl,hj1 _,hkp⟩|exact⟨_,rfl,rfl,hj1 _,hkp⟩|exact⟨_,rfl,trivial,hj1 _,hkp⟩|exact⟨trivial,hj1 _,hkp⟩|exact⟨hj1 _,k4⟩
  ·have e22:u0 22= .pointer (some ⟨gb,4,none⟩):=(hd.1 rfl (by decide)).2
   rw[e22]
   go_wp2_with (go_at_call 65;(with_reducible refine(cspan_any 0 86400 gb 4 W9).mono ?_);rintro e W2 ⟨bxq,B,rfl,q1,q2,q3,q4,q5,q6⟩)
   have hj1:=hj.light 23 (by decide) (by decide) (by decide) hL q6
   have hkp: ∀j v',j<41→L j=true→TGMap fpv kv gb ib bx W1.heap.size j v' W9→TGMap fpv kv gb ib bx W1.heap.size j v' W2:=fun j v' _ _ h=>TGMap.ck j v' W9 W2 h (CK.of q6)
   first|exact⟨⟨bxq,B,rfl,Kz hj.bel.size q1,by have:=hj.bel.size;omega,q4,q5⟩,hj1 _,hkp⟩|exact⟨_,rfl,⟨bxq,B,rfl,Kz hj.bel.size q1,by have:=hj.bel.size;omega,q4,q5⟩,hj1 _,hkp⟩
  ·obtain⟨B,w2,eB,hr,hck,hjj⟩:=hj.ins (s:=nLate) (k:=24) (kv:=23) rfl (by decide) (by decide) (by decide) (by decide) hL (hd.2.1 rfl (by decide)).1 (hd.1 rfl (by decide)).1
   have hj1:=hjj
   have hkp: ∀j v',j<41→L j=true→TGMap fpv kv gb ib bx W1.heap.size j v' W9→TGMap fpv kv gb ib bx W1.heap.size j v' w2:=fun j v' _ _ h=>TGMap.ck j v' W9 w2 h (hck)
   rw[eB]
   obtain⟨vv,hvv⟩: ∃vv,u0 23=vv:=⟨_,rfl⟩
   rw[hvv]at hr ⊢
   go_wp2
   first|exact rfl|exact hj1 _|exact⟨⟨undef,trivial⟩,hkp⟩|exact⟨hj1 _,hkp⟩|exact⟨rfl,hj1 _,hkp⟩|exact⟨_,rfl,rfl,hj1 _,hkp⟩|exact⟨_,rfl,trivial,hj1 _,hkp⟩|exact⟨trivial,hj1 _,hkp⟩|exact⟨hj1 _,k4⟩
  ·have cb:=(HVB.out.after hj.bel).c 0 rfl
   have hj1:=fun v=>hj.light 25 (by decide) (by decide) (by decide) hL (Mj _ _) v
   have hkp: ∀j v',j<41→L j=true→TGMap fpv kv gb ib bx W1.heap.size j v' W9→TGMap fpv kv gb ib bx W1.heap.size j v' W9:=fun j v' _ _ h=>TGMap.ck j v' W9 W9 h (fun _ _ h=>h)
   go_wp2
   first|exact rfl|exact hj1 _|exact⟨⟨undef,trivial⟩,hkp⟩|exact⟨hj1 _,hkp⟩|exact⟨rfl,hj1 _,hkp⟩|exact⟨_,rfl,rfl,hj1 _,hkp⟩|exact⟨_,rfl,trivial,hj1 _,hkp⟩|exact⟨trivial,hj1 _,hkp⟩|exact⟨hj1 _,k4⟩
  ·have e25:u0 25= .pointer (some ⟨gb,0,none⟩):=(hd.1 rfl (by decide)).2
   rw[e25]
   have hj1:=fun v=>hj.light 26 (by decide) (by decide) (by decide) hL (Mj _ _) v
   have hkp: ∀j v',j<41→L j=true→TGMap fpv kv gb ib bx W1.heap.size j v' W9→TGMap fpv kv gb ib bx W1.heap.size j v' W9:=fun j v' _ _ h=>TGMap.ck j v' W9 W9 h (fun _ _ h=>h)
   go_wp2
   first|exact rfl|exact hj1 _|exact⟨⟨undef,trivial⟩,hkp⟩|exact⟨hj1 _,hkp⟩|exact⟨rfl,hj1 _,hkp⟩|exact⟨_,rfl,rfl,hj1 _,hkp⟩|exact⟨_,rfl,trivial,hj1 _,hkp⟩|exact⟨trivial,hj1 _,hkp⟩|exact⟨hj1 _,k4⟩
  ·have e26:u0 26= .pointer (some ⟨gb,0,none⟩):=(hd.1 rfl (by decide)).2
   rw[e26]
   have hj1:=fun v=>hj.light 27 (by decide) (by decide) (by decide) hL (Mj _ _) v
   have hkp: ∀j v',j<41→L j=true→TGMap fpv kv gb ib bx W1.heap.size j v' W9→TGMap fpv kv gb ib bx W1.heap.size j v' W9:=fun j v' _ _ h=>TGMap.ck j v' W9 W9 h (fun _ _ h=>h)
   go_wp2
   first|exact rfl|exact hj1 _|exact⟨⟨undef,trivial⟩,hkp⟩|exact⟨hj1 _,hkp⟩|exact⟨rfl,hj1 _,hkp⟩|exact⟨_,rfl,rfl,hj1 _,hkp⟩|exact⟨_,rfl,trivial,hj1 _,hkp⟩|exact⟨trivial,hj1 _,hkp⟩|exact⟨hj1 _,k4⟩
  ·have e27:u0 27= .pointer (some ⟨gb,1,none⟩):=(hd.1 rfl (by decide)).2
   rw[e27]
   have hj1:=fun v=>hj.light 28 (by decide) (by decide) (by decide) hL (Mj _ _) v
   have hkp: ∀j v',j<41→L j=true→TGMap fpv kv gb ib bx W1.heap.size j v' W9→TGMap fpv kv gb ib bx W1.heap.size j v' W9:=fun j v' _ _ h=>TGMap.ck j v' W9 W9 h (fun _ _ h=>h)
   go_wp2
   first|exact rfl|exact hj1 _|exact⟨⟨undef,trivial⟩,hkp⟩|exact⟨hj1 _,hkp⟩|exact⟨rfl,hj1 _,hkp⟩|exact⟨_,rfl,rfl,hj1 _,hkp⟩|exact⟨_,rfl,trivial,hj1 _,hkp⟩|exact⟨trivial,hj1 _,hkp⟩|exact⟨hj1 _,k4⟩
  ·have e28:u0 28= .pointer (some ⟨gb,5,none⟩):=(hd.1 rfl (by decide)).2
   rw[e28]
   go_wp2_with (go_at_call 65;(with_reducible refine(cspan_any 1 34560000 gb 5 W9).mono ?_);rintro e W2 ⟨bxq,B,rfl,q1,q2,q3,q4,q5,q6⟩)
   have hj1:=hj.light 29 (by decide) (by decide) (by decide) hL q6
   have hkp: ∀j v',j<41→L j=true→TGMap fpv kv gb ib bx W1.heap.size j v' W9→TGMap fpv kv gb ib bx W1.heap.size j v' W2:=fun j v' _ _ h=>TGMap.ck j v' W9 W2 h (CK.of q6)
   first|exact⟨⟨bxq,B,rfl,Kz hj.bel.size q1,by have:=hj.bel.size;omega,q4,q5⟩,hj1 _,hkp⟩|exact⟨_,rfl,⟨bxq,B,rfl,Kz hj.bel.size q1,by have:=hj.bel.size;omega,q4,q5⟩,hj1 _,hkp⟩
  ·obtain⟨B,w2,eB,hr,hck,hjj⟩:=hj.ins (s:=nRolling) (k:=30) (kv:=29) rfl (by decide) (by decide) (by decide) (by decide) hL (hd.2.1 rfl (by decide)).1 (hd.1 rfl (by decide)).1
   have hj1:=hjj
   have hkp: ∀j v',j<41→L j=true→TGMap fpv kv gb ib bx W1.heap.size j v' W9→TGMap fpv kv gb ib bx W1.heap.size j v' w2:=fun j v' _ _ h=>TGMap.ck j v' W9 w2 h (hck)
   rw[eB]
   obtain⟨vv,hvv⟩: ∃vv,u0 29=vv:=⟨_,rfl⟩
   rw[hvv]at hr ⊢
   go_wp2
   first|exact rfl|exact hj1 _|exact⟨⟨undef,trivial⟩,hkp⟩|exact⟨hj1 _,hkp⟩|exact⟨rfl,hj1 _,hkp⟩|exact⟨_,rfl,rfl,hj1 _,hkp⟩|exact⟨_,rfl,trivial,hj1 _,hkp⟩|exact⟨trivial,hj1 _,hkp⟩|exact⟨hj1 _,k4⟩
  ·have cb:=(HVB.out.after hj.bel).c 0 rfl
   have hj1:=fun v=>hj.light 31 (by decide) (by decide) (by decide) hL (Mj _ _) v
   have hkp: ∀j v',j<41→L j=true→TGMap fpv kv gb ib bx W1.heap.size j v' W9→TGMap fpv kv gb ib bx W1.heap.size j v' W9:=fun j v' _ _ h=>TGMap.ck j v' W9 W9 h (fun _ _ h=>h)
   go_wp2
   first|exact rfl|exact hj1 _|exact⟨⟨undef,trivial⟩,hkp⟩|exact⟨hj1 _,hkp⟩|exact⟨rfl,hj1 _,hkp⟩|exact⟨_,rfl,rfl,hj1 _,hkp⟩|exact⟨_,rfl,trivial,hj1 _,hkp⟩|exact⟨trivial,hj1 _,hkp⟩|exact⟨hj1 _,k4⟩
  ·have e31:u0 31= .pointer (some ⟨gb,0,none⟩):=(hd.1 rfl (by decide)).2
   rw[e31]
   have hj1:=fun v=>hj.light 32 (by decide) (by decide) (by decide) hL (Mj _ _) v
   have hkp: ∀j v',j<41→L j=true→TGMap fpv kv gb ib bx W1.heap.size j v' W9→TGMap fpv kv gb ib bx W1.heap.size j v' W9:=fun j v' _ _ h=>TGMap.ck j v' W9 W9 h (fun _ _ h=>h)
   go_wp2
   first|exact rfl|exact hj1 _|exact⟨⟨undef,trivial⟩,hkp⟩|exact⟨hj1 _,hkp⟩|exact⟨rfl,hj1 _,hkp⟩|exact⟨_,rfl,rfl,hj1 _,hkp⟩|exact⟨_,rfl,trivial,hj1 _,hkp⟩|exact⟨trivial,hj1 _,hkp⟩|exact⟨hj1 _,k4⟩
  ·obtain⟨B,w2,eB,hr,hck,hjj⟩:=hj.ins (s:=nCalendar) (k:=33) (kv:=32) rfl (by decide) (by decide) (by decide) (by decide) hL (hd.2.1 rfl (by decide)).1 (hd.1 rfl (by decide)).1
   have hj1:=hjj
   have hkp: ∀j v',j<41→L j=true→TGMap fpv kv gb ib bx W1.heap.size j v' W9→TGMap fpv kv gb ib bx W1.heap.size j v' w2:=fun j v' _ _ h=>TGMap.ck j v' W9 w2 h (hck)
   rw[eB]
   obtain⟨vv,hvv⟩: ∃vv,u0 32=vv:=⟨_,rfl⟩
   rw[hvv]at hr ⊢
   go_wp2
   first|exact rfl|exact hj1 _|exact⟨⟨undef,trivial⟩,hkp⟩|exact⟨hj1 _,hkp⟩|exact⟨rfl,hj1 _,hkp⟩|exact⟨_,rfl,rfl,hj1 _,hkp⟩|exact⟨_,rfl,trivial,hj1 _,hkp⟩|exact⟨trivial,hj1 _,hkp⟩|exact⟨hj1 _,k4⟩
  ·have cb:=(HVB.out.after hj.bel).c 0 rfl
   have hj1:=fun v=>hj.light 34 (by decide) (by decide) (by decide) hL (Mj _ _) v
   have hkp: ∀j v',j<41→L j=true→TGMap fpv kv gb ib bx W1.heap.size j v' W9→TGMap fpv kv gb ib bx W1.heap.size j v' W9:=fun j v' _ _ h=>TGMap.ck j v' W9 W9 h (fun _ _ h=>h)
   go_wp2
   first|exact rfl|exact hj1 _|exact⟨⟨undef,trivial⟩,hkp⟩|exact⟨hj1 _,hkp⟩|exact⟨rfl,hj1 _,hkp⟩|exact⟨_,rfl,rfl,hj1 _,hkp⟩|exact⟨_,rfl,trivial,hj1 _,hkp⟩|exact⟨trivial,hj1 _,hkp⟩|exact⟨hj1 _,k4⟩
  ·have e34:u0 34= .pointer (some ⟨gb,0,none⟩):=(hd.1 rfl (by decide)).2
   rw[e34]
   have hj1:=fun v=>hj.light 35 (by decide) (by decide) (by decide) hL (Mj _ _) v
   have hkp: ∀j v',j<41→L j=true→TGMap fpv kv gb ib bx W1.heap.size j v' W9→TGMap fpv kv gb ib bx W1.heap.size j v' W9:=fun j v' _ _ h=>TGMap.ck j v' W9 W9 h (fun _ _ h=>h)
   go_wp2
   first|exact rfl|exact hj1 _|exact⟨⟨undef,trivial⟩,hkp⟩|exact⟨hj1 _,hkp⟩|exact⟨rfl,hj1 _,hkp⟩|exact⟨_,rfl,rfl,hj1 _,hkp⟩|exact⟨_,rfl,trivial,hj1 _,hkp⟩|exact⟨trivial,hj1 _,hkp⟩|exact⟨hj1 _,k4⟩
  ·obtain⟨B,w2,eB,hr,hck,hjj⟩:=hj.ins (s:=nLabel) (k:=36) (kv:=35) rfl (by decide) (by decide) (by decide) (by decide) hL (hd.2.1 rfl (by decide)).1 (hd.1 rfl (by decide)).1
   have hj1:=hjj
   have hkp: ∀j v',j<41→L j=true→TGMap fpv kv gb ib bx W1.heap.size j v' W9→TGMap fpv kv gb ib bx W1.heap.size j v' w2:=fun j v' _ _ h=>TGMap.ck j v' W9 w2 h (hck)
   rw[eB]
   obtain⟨vv,hvv⟩: ∃vv,u0 35=vv:=⟨_,rfl⟩
   rw[hvv]at hr ⊢
   go_wp2
   first|exact rfl|exact hj1 _|exact⟨⟨undef,trivial⟩,hkp⟩|exact⟨hj1 _,hkp⟩|exact⟨rfl,hj1 _,hkp⟩|exact⟨_,rfl,rfl,hj1 _,hkp⟩|exact⟨_,rfl,trivial,hj1 _,hkp⟩|exact⟨trivial,hj1 _,hkp⟩|exact⟨hj1 _,k4⟩
  ·have cb:=(HVB.out.after hj.bel).c 0 rfl
   have hj1:=fun v=>hj.light 37 (by decide) (by decide) (by decide) hL (Mj _ _) v
   have hkp: ∀j v',j<41→L j=true→TGMap fpv kv gb ib bx W1.heap.size j v' W9→TGMap fpv kv gb ib bx W1.heap.size j v' W9:=fun j v' _ _ h=>TGMap.ck j v' W9 W9 h (fun _ _ h=>h)
   go_wp2
   first|exact rfl|exact hj1 _|exact⟨⟨undef,trivial⟩,hkp⟩|exact⟨hj1 _,hkp⟩|exact⟨rfl,hj1 _,hkp⟩|exact⟨_,rfl,rfl,hj1 _,hkp⟩|exact⟨_,rfl,trivial,hj1 _,hkp⟩|exact⟨trivial,hj1 _,hkp⟩|exact⟨hj1 _,k4⟩
  ·have e37:u0 37= .pointer (some ⟨gb,0,none⟩):=(hd.1 rfl (by decide)).2
   rw[e37]
   have hj1:=fun v=>hj.light 38 (by decide) (by decide) (by decide) hL (Mj _ _) v
   have hkp: ∀j v',j<41→L j=true→TGMap fpv kv gb ib bx W1.heap.size j v' W9→TGMap fpv kv gb ib bx W1.heap.size j v' W9:=fun j v' _ _ h=>TGMap.ck j v' W9 W9 h (fun _ _ h=>h)
   go_wp2
   first|exact rfl|exact hj1 _|exact⟨⟨undef,trivial⟩,hkp⟩|exact⟨hj1 _,hkp⟩|exact⟨rfl,hj1 _,hkp⟩|exact⟨_,rfl,rfl,hj1 _,hkp⟩|exact⟨_,rfl,trivial,hj1 _,hkp⟩|exact⟨trivial,hj1 _,hkp⟩|exact⟨hj1 _,k4⟩
  ·obtain⟨B,w2,eB,hr,hck,hjj⟩:=hj.ins (s:=nRule) (k:=39) (kv:=38) rfl (by decide) (by decide) (by decide) (by decide) hL (hd.2.1 rfl (by decide)).1 (hd.1 rfl (by decide)).1
   have hj1:=hjj
   have hkp: ∀j v',j<41→L j=true→TGMap fpv kv gb ib bx W1.heap.size j v' W9→TGMap fpv kv gb ib bx W1.heap.size j v' w2:=fun j v' _ _ h=>TGMap.ck j v' W9 w2 h (hck)
   rw[eB]
   obtain⟨vv,hvv⟩: ∃vv,u0 38=vv:=⟨_,rfl⟩
   rw[hvv]at hr ⊢
   go_wp2
   first|exact rfl|exact hj1 _|exact⟨⟨undef,trivial⟩,hkp⟩|exact⟨hj1 _,hkp⟩|exact⟨rfl,hj1 _,hkp⟩|exact⟨_,rfl,rfl,hj1 _,hkp⟩|exact⟨_,rfl,trivial,hj1 _,hkp⟩|exact⟨trivial,hj1 _,hkp⟩|exact⟨hj1 _,k4⟩
  ·have hj2:=hj.copy (by decide) (by decide) hL (hd.1 rfl (by decide)).1
   go_wp2
   first|exact⟨trivial,hj2,k4⟩|exact⟨hj2,k4⟩|exact⟨_,rfl,trivial,hj2,k4⟩|exact hj2|exact trivial
 ·intro u0 W9 L hall hj ht
  have e3:u0 3=fpv:=ht 3 (by decide)
  have e8:u0 8=kv:=ht 8 (by decide)
  have e32:u0 32= .func (.func 96) #[.pointer (some ⟨gb,0,none⟩)] #[]:=ht 32 (by decide)
  have e35:u0 35= .func (.func 97) #[.pointer (some ⟨gb,0,none⟩)] #[]:=ht 35 (by decide)
  have e38:u0 38= .func (.func 98) #[.pointer (some ⟨gb,0,none⟩)] #[]:=ht 38 (by decide)
  have t11:=ht 11 (by decide)
  have t17:=ht 17 (by decide)
  have t23:=ht 23 (by decide)
  have t29:=ht 29 (by decide)
  obtain⟨HB,eHB,hHB1,hHB2⟩:=hj.map (hall 9 (by decide))
  have eC:=(hj.cpy (hall 40 (by decide))).2.trans eHB
  have hHM:HIs W9 HB (byTab tabG u0):=by
   have e:hOf tabG u0 L=byTab tabG u0:=by funext s;exact hOf_all (by intro t ht2;simp only[tabG,List.mem_cons,List.not_mem_nil,or_false]at ht2;rcases ht2 with rfl|rfl|rfl|rfl|rfl|rfl|rfl<;>exact hall _ (by decide)) s
   rw[←e];exact hHB2
  have HB9:=Lh hj.bel
  have HKG:Hid (∀y∈x.kids,HandlesC 1 subG (M1 base fpv X gb nm) (fun b=>S b∨(w.heap.size≤b∧b<W9.heap.size)) W9 (byTab tabG u0) S y):=Lh (fun y hy=>by
   have h9:=HB9.out.size
   have h1:=HZ1.out
   have hb:=HBX.out
   refine goal_handles HX.out (b1:=W1.heap.size) (bx:=bx) ⟨t11,t17,t23,t29,e32,e35,e38⟩ ((HVB.out.after HB9.out).c 0 rfl) (Mx ⟨by omega,by omega⟩) (fun b h1 h2=>Mx ⟨by omega,h2⟩) (fun b h=>?_) (fun b h=>My h) y (HWK.out y hy).1 (HWK.out y hy).2
   rcases h with h|h
   ·have:=HSL.out b h;omega
   ·exact h.2)
  have HEA:=Lh (each_map2 (M1.doing HX.out) (k:=1) (Mz 1) (by decide) subG_le HM.out (HB1.out.trans (HB9.out.mono HB1.out.size)) hHM (Kz HB1.out.size hHB1) HKD.out HSL.out HSO.out (by have:=HFEW.out;omega) HKG.out)
  have HVB9:=Lh (HVB.out.after HB9.out)
  have HI9:=Lh (HV1.out.after HB9.out)
  have HZ9:Hid (w.heap.size<W9.heap.size):=Lh (by have:=HZ1.out;have:=HBX.out;have:=HB9.out.size;omega)
  have HW9:Hid (Below w.heap.size w W9):=Lh (HB1.out.trans (HB9.out.mono HB1.out.size))
  clear HKG hHM hHB1 hHB2 t11 t17 t23 t29 e32 e35 e38 hj hall ht HG1 HG10
  simp only[Kj,Jh,Jj,Jk,putAll,Mq,Lq,Lk,Lj,Ly,Lx]
  rw[e3,e8,eC]
  clear eHB eC e3 e8
  go_upto_region 2 with(go_at_call 33;(with_reducible refine(HEA.out).mono ?_);rintro e w5 ⟨rfl,O5,hm5,hf5,hg5⟩;have HM5:Hid (M1 base fpv X gb nm (goalK x) (F++(lookS 1 subG x.kids).2) O5 w5):=Lh hm5;have HF5:=Lh hf5;have HG5:=Lh hg5;clear hm5 hf5 hg5)
  clear HEA
  have HI5:=Lh (HF5.out.var HI9.out HIO.out)
  have HVB5:=Lh (HF5.out.var HVB9.out (fun e=>by have:=HOL.out bx e;have:=HBX.out;omega))
  obtain⟨OB,lv,rv,pv,hat,hOB⟩:=HM5.out
  obtain⟨R,hR⟩: ∃R,rpC (goalK x)=R:=⟨_,rfl⟩
  obtain⟨n,hn⟩: ∃n,R.length=n:=⟨_,rfl⟩
  have hr0:=hat.rul
  have hp0:=hat.plc
  obtain⟨ra,rc,hrv⟩:=hr0.size
  obtain⟨pa,pc,hpv⟩:=hp0.size
  rw[Ky,rulC_rp,Ky,hR,hn]at hrv
  rw[Ky,plcC_rp,Ky,hR,hn]at hpv
  subst hrv hpv
  rw[rulC_rp,hR]at hr0
  rw[plcC_rp,hR]at hp0
  have hk5: ∀i,OB i∨ownG gb lv (.slice ra n rc) (.slice pa n pc) i→O5 i:=fun i h=>(hOB i).mpr h
  have HK5:=Lh hk5
  have HOB:=Lh hOB
  have HAT:=Lh hat
  have HGV:=Lh hat.var
  have HRR:=Lh hr0
  have HPR:=Lh hp0
  have HRL:=Lh hR
  have HN:=Lh hn
  have HNI:Hid (¬O5 ib):=Lh (fun e=>(HG5.out ib e).elim HIO.out (fun h=>by have:=HI.out.s;have:=HZ9.out;omega))
  have HNX:Hid (¬OB bx∧bx≠gb):=Lh (by
   have h1:=HBX.out
   have h2:=HZ9.out
   have h3: ¬O5 bx:=fun e=>(HG5.out bx e).elim (fun h=>by have:=HOL.out bx h;omega) (fun h=>by omega)
   exact⟨fun e=>h3 (hk5 bx (My e)),fun e=>h3 (hk5 bx (Mx (My e)))⟩)
  obtain⟨tg,htg⟩: ∃t,getS (goalK x) nTarget 0=t:=⟨_,rfl⟩
  obtain⟨gr,hgr⟩: ∃t,getS (goalK x) nGrain 60=t:=⟨_,rfl⟩
  obtain⟨ro,hro⟩: ∃t,getS (goalK x) nRolling 0=t:=⟨_,rfl⟩
  have HTG:=Lh htg
  have HGR:=Lh hgr
  have HRO:=Lh hro
  obtain⟨FF,hFF⟩: ∃FF,F++(lookS 1 subG x.kids).2=FF:=⟨_,rfl⟩
  have HFF:=Lh hFF
  have HFL:Hid (FF.length+n+1≤1000000):=Lh (by
   have h1:=look_faults (wh:=1) (k:=1) (Mz 1) subG_le x.kids
   have h2:=HFEW.out
   have h3:R.length≤(goalK x).length:=by rw[←hR,←Ky (f:=fun r:RlC×Int×Int=>r.1),←rulC_rp];exact rulC_le _
   have h4:(goalK x).length≤x.kids.length:=look_len 1 subG x.kids
   have h5:=len_cnt x.kids
   rw[←hFF,Kq];omega)
  rw[hFF]at HAT
  have HGP:Hid (1≤gr∧gr≤86400):=Lh (by rw[←hgr];exact grain_pos x)
  have HRP:Hid (0≤ro∧ro≤34560000):=Lh (by rw[←hro];exact rolling_pos x)
  obtain⟨bq,hbq⟩: ∃b,decide (tg=0∨n=0)=b:=⟨_,rfl⟩
  have HBQ:=Lh hbq
  obtain⟨A,hA⟩: ∃A:List Flt,(if bq=true then [(6,x.a,x.b)]else [])=A:=⟨_,rfl⟩
  have HA:=Lh hA
  have HWH:Hid (wholeG x (goalK x)=A++(R.flatMap (offOne gr)++(if ro%gr≠0 then [(8,x.a,x.b)]else []))):=Lh (by
   rw[wholeG_is,htg,hR,hn,hgr,hro,←hA,←hbq]
   by_cases h:tg=0∨n=0
   ·rw[if_pos h,if_pos (decide_eq_true h)]
   ·rw[if_neg h,decide_eq_false h];rfl)
  have hvv:=hat.var
  have c2:=hvv.c 2 rfl
  rw[htg]at c2
  have c8:=hvv.c 8 rfl
  have cb:=HVB5.out.c 0 rfl
  clear hat hOB hr0 hp0 hk5 hR hn htg hgr hro hFF hbq hA hvv HRR HPR
  go_cut [55] from 41 to 55 (fun v55 wx=>v55= .bool bq∧w5=wx)
  case first=>
   by_cases h1:tg=0
   ·have b1:(tg==0)=true:=by simpa using h1
    have bd:decide (tg=0∨n=0)=true:=decide_eq_true (My h1)
    clear h1
    go_wp2_with fail
    go_meet
    exact⟨by rw[←HBQ.out,bd],rfl⟩
   ·have b1:(tg==0)=false:=by simpa using h1
    by_cases h2:n=0
    ·have b2:((n:Int)==0)=true:=by simp;omega
     have bd:decide (tg=0∨n=0)=true:=decide_eq_true (Mx h2)
     clear h1 h2
     go_wp2_with fail
     go_meet
     exact⟨by rw[←HBQ.out,bd],rfl⟩
    ·have b2:((n:Int)==0)=false:=by simp;omega
     have bd:decide (tg=0∨n=0)=false:=decide_eq_false (by rintro(e|e);exact h1 e;exact h2 e)
     clear h1 h2
     go_wp2_with fail
     go_meet
     exact⟨by rw[←HBQ.out,bd],rfl⟩
  obtain⟨rfl,hw5⟩:=hcut
  subst hw5
  go_upto_if 55 with fail
  go_cut [] from 56 to 65 (fun wx=> ∃O7,M1At base fpv X gb nm (goalK x) (FF++A) O7 lv (.slice ra n rc) (.slice pa n pc) wx∧Frm OB w5 wx∧Grown OB O7 w5.heap.size)
  case first=>
   cases bq with
   |true=>
    have HA6:Hid (A= [(6,x.a,x.b)]):=Lh (by rw[←HA.out];rfl)
    clear c2 c8 cb
    go_wp2_with fail
    refine wp_region_mixj 9 (TLst [.pointer (some ⟨gb,0,none⟩), .pointer (some ⟨gb,0,none⟩), .pointer (some ⟨gb,0,none⟩),fpv, .pointer (some ⟨ib,0,none⟩), .pointer (some ⟨ib,0,none⟩), .pointer (some ⟨ib,0,none⟩), .pointer (some ⟨ib,4,none⟩), .agg #[.int .i64 x.a, .int .i64 x.b]]) (fun _ V=>Below w5.heap.size w5 V) (by kernel_rfl) (by kernel_rfl) (Mj _ _).drew ?_ ?_
    ·simp only[Kj,Jh]
     refine(Lz ?_ (Lz ?_ (Lz ?_ (Lz ?_ (Lz ?_ (Lz ?_ (Lz ?_ (Lz ?_ (Lz ?_ StepsJ.nil)))))))))
     all_goals(intro u0 W8 L hL hj hd;simp only[putAll,Mq,Lq,Lk,Lj,Ly,Lx])
     ·have cb:=(HVB5.out.after hj).c 0 rfl
      have hj1:=hj
      go_wp2
      first|exact hj1|exact rfl|exact⟨rfl,hj1⟩|exact⟨rfl,hj1,k4⟩|exact⟨_,rfl,rfl,hj1,k4⟩
     ·have e0:u0 0= .pointer (some ⟨gb,0,none⟩):=(hd.1 rfl (by decide)).2
      rw[e0]
      have hj1:=hj
      go_wp2
      first|exact hj1|exact rfl|exact⟨rfl,hj1⟩|exact⟨rfl,hj1,k4⟩|exact⟨_,rfl,rfl,hj1,k4⟩
     ·have e1:u0 1= .pointer (some ⟨gb,0,none⟩):=(hd.1 rfl (by decide)).2
      rw[e1]
      have hj1:=hj
      go_wp2
      first|exact hj1|exact rfl|exact⟨rfl,hj1⟩|exact⟨rfl,hj1,k4⟩|exact⟨_,rfl,rfl,hj1,k4⟩
     ·have e2:u0 2= .pointer (some ⟨gb,0,none⟩):=(hd.1 rfl (by decide)).2
      have c0:=(HGV.out.after hj).c 0 rfl
      rw[e2]
      have hj1:=hj
      go_wp2
      first|exact hj1|exact rfl|exact⟨rfl,hj1⟩|exact⟨rfl,hj1,k4⟩|exact⟨_,rfl,rfl,hj1,k4⟩
     ·have hj1:=hj
      go_wp2
      first|exact hj1|exact rfl|exact⟨rfl,hj1⟩|exact⟨rfl,hj1,k4⟩|exact⟨_,rfl,rfl,hj1,k4⟩
     ·have e4:u0 4= .pointer (some ⟨ib,0,none⟩):=(hd.1 rfl (by decide)).2
      rw[e4]
      have hj1:=hj
      go_wp2
      first|exact hj1|exact rfl|exact⟨rfl,hj1⟩|exact⟨rfl,hj1,k4⟩|exact⟨_,rfl,rfl,hj1,k4⟩
     ·have e5:u0 5= .pointer (some ⟨ib,0,none⟩):=(hd.1 rfl (by decide)).2
      rw[e5]
      have hj1:=hj
      go_wp2
      first|exact hj1|exact rfl|exact⟨rfl,hj1⟩|exact⟨rfl,hj1,k4⟩|exact⟨_,rfl,rfl,hj1,k4⟩
     ·have e6:u0 6= .pointer (some ⟨ib,0,none⟩):=(hd.1 rfl (by decide)).2
      rw[e6]
      have hj1:=hj
      go_wp2
      first|exact hj1|exact rfl|exact⟨rfl,hj1⟩|exact⟨rfl,hj1,k4⟩|exact⟨_,rfl,rfl,hj1,k4⟩
     ·have e7:u0 7= .pointer (some ⟨ib,4,none⟩):=(hd.1 rfl (by decide)).2
      have c4:=(HI5.out.after hj).c 4 rfl
      have c5:=(HI5.out.after hj).c 5 rfl
      rw[e7]
      have hj1:=hj
      go_wp2
      first|exact hj1|exact rfl|exact⟨rfl,hj1⟩|exact⟨rfl,hj1,k4⟩|exact⟨_,rfl,rfl,hj1,k4⟩
    ·intro u0 W8 L hall hb ht
     have e3:u0 3=fpv:=ht 3 (by decide)
     have e8:u0 8= .agg #[.int .i64 x.a, .int .i64 x.b]:=ht 8 (by decide)
     have HBW:=Lh hb
     clear hb ht hall
     simp only[Kj,Jh,Jj,Jk,putAll,Mq,Lq,Lk,Lj,Ly,Lx]
     rw[e3,e8]
     have HAT8:=Lh (HAT.out.after HX.out HBW.out)
     have HAD:=Lh (HAT8.out.add HX.out (by have:=HFL.out;omega) 6 x.a x.b)
     go_wp2_with (go_at_call 57;(with_reducible refine(HAD.out).mono ?_);rintro e w9 ⟨rfl,O9,hm9,hf9,hg9⟩;have HM9:=Lh hm9;have HF9:=Lh hf9;have HG9:=Lh hg9;clear hm9 hf9 hg9)
     go_meet
     refine⟨O9,by rw[HA6.out];exact HM9.out,(Frm.of HBW.out).trans HF9.out (Grown.refl _ _),fun i hi=>(HG9.out i hi).imp id (fun h=>Kz HBW.out.size h)⟩
   |false=>
    have HA6:Hid (A= []):=Lh (by rw[←HA.out];rfl)
    clear c2 c8 cb
    go_wp2_with fail
    go_meet
    exact⟨OB,by rw[HA6.out,List.append_nil];exact HAT.out,Frm.refl _ _,Grown.refl _ _⟩
  case rest=>
   rename World=>w7
   obtain⟨O7,hm7,hf7,hg7⟩:=hcut
   have HM7:=Lh hm7
   have HF7:=Lh hf7
   have HG7:=Lh hg7
   have HVB7:=Lh (HF7.out.var HVB5.out HNX.out.1)
   have HI7:=Lh (HF7.out.var HI5.out (fun e=>HNI.out (HK5.out ib (My e))))
   have HX7:Hid (¬O7 bx):=Lh (fun e=>(HG7.out bx e).elim HNX.out.1 (fun h=>by have:=HVB5.out.s;omega))
   have HI7n:Hid (¬O7 ib):=Lh (fun e=>(HG7.out ib e).elim (fun h=>HNI.out (HK5.out ib (My h))) (fun h=>by have:=HI5.out.s;omega))
   have HFO:Hid (Frm O w w7∧Grown O O7 w.heap.size):=Lh (by
    have g5:Grown O OB w.heap.size:=fun i hi=>(HG5.out i (HK5.out i (My hi))).imp id (fun h=>Nat.le_of_lt (Kx HZ9.out h))
    refine⟨((Frm.of HW9.out).trans HF5.out (Grown.refl _ _)).trans HF7.out g5,fun i hi=>?_⟩
    rcases HG7.out i hi with h|h
    ·exact g5 i h
    ·exact Mx (by have:=HF5.out.size;have:=HZ9.out;omega))
   have HAN:Hid (A.length≤1):=Lh (by rw[←HA.out];split<;>simp)
   have c8:=hm7.var.c 8 rfl
   have cb:=HVB7.out.c 0 rfl
   clear hm7 hf7 hg7
   go_wp2
   clear c8 cb
   go_loopw [72] (fun v72 wr=> ∃i O8,i≤n∧v72= .int .i64 (i:Int)∧OffAt base fpv X gb nm (goalK x) (FF++A) gr O7 lv (.slice ra n rc) (.slice pa n pc) w7 i O8 wr) (fun v72 _=>n-(intOf v72).toNat)
   case atStart=>exact⟨0,O7,Nat.zero_le _,rfl,OffAt.start HM7.out⟩
   case round=>
    obtain⟨wo,rfl⟩: ∃y,y=wr:=⟨wr,rfl⟩
    obtain⟨i,O8,hi,rfl,hat8⟩:=hrel
    have HA8:=Lh hat8
    have HVBo:=Lh (HA8.out.frm.var HVB7.out HX7.out)
    have HIo:=Lh (HA8.out.frm.var HI7.out HI7n.out)
    by_cases hin:i<n
    ·have hlt:decide ((i:Int)<(n:Int))=true:=by simp;omega
     have hat:=HA8.out.at'
     obtain⟨r,hr⟩: ∃r,R[i]?=some r:=⟨_,List.getElem?_eq_getElem (by rw[HN.out];exact hin)⟩
     have hr0:=hat.rul
     have hp0:=hat.plc
     rw[rulC_rp,HRL.out]at hr0
     rw[plcC_rp,HRL.out]at hp0
     have hlr:i<((R.map (·.1)).map rulV).length:=by rw[Ky,Ky,HN.out];exact hin
     have hlp:i<((R.map (·.2)).map plcV).length:=by rw[Ky,Ky,HN.out];exact hin
     obtain⟨rg,rk,hrv,_,hrl,_⟩:=hr0.form (by omega)
     obtain⟨pgb,pk,hpv,_,hpl,_⟩:=hp0.form (by omega)
     injection hrv with hra hnn1 hrk
     injection hpv with hpa hnn2 hpk
     clear hnn1 hnn2
     subst hra hrk hpa hpk
     have er:((R.map (·.1)).map rulV).getD i []=rulV r.1:=by rw[Mk,List.getElem?_map,List.getElem?_map,hr];rfl
     have ep:((R.map (·.2)).map plcV).getD i []=plcV r.2:=by rw[Mk,List.getElem?_map,List.getElem?_map,hr];rfl
     have hpos:=rp_pos (k:=goalK x) (r:=r) (by rw[HRL.out];exact List.mem_of_getElem? hr)
     have HRW:Hid (∀j,j<7→wo.cell? ⟨rg,i*7+j,none⟩=some ((rulV r.1).getD j undef)):=Lh (fun j hj=>by have:=hr0.at i j hlr hj;rw[er]at this;exact this)
     have HPW:Hid (∀j,j<2→wo.cell? ⟨pgb,i*2+j,none⟩=some ((plcV r.2).getD j undef)):=Lh (fun j hj=>by have:=hp0.at i j hlp hj;rw[ep]at this;exact this)
     have HPL:=Lh hpl
     have HR:=Lh hr
     obtain⟨⟨rnm,rpg,l1,l2,l3,l4,l5⟩,p1,p2⟩:=r
     have f0:wo.cell? ⟨rg,i*7,none⟩=some (.string rnm):=HRW.out 0 (by decide)
     have f1:wo.cell? ⟨rg,i*7+1,none⟩=some (.bool rpg):=HRW.out 1 (by decide)
     have f2:wo.cell? ⟨rg,i*7+2,none⟩=some (.int .i64 l1):=HRW.out 2 (by decide)
     have f3:wo.cell? ⟨rg,i*7+3,none⟩=some (.int .i64 l2):=HRW.out 3 (by decide)
     have f4:wo.cell? ⟨rg,i*7+4,none⟩=some (.int .u64 l3):=HRW.out 4 (by decide)
     have f5:wo.cell? ⟨rg,i*7+5,none⟩=some (.int .i64 l4):=HRW.out 5 (by decide)
     have f6:wo.cell? ⟨rg,i*7+6,none⟩=some (.int .i64 l5):=HRW.out 6 (by decide)
     have HPW0:Hid (wo.cell? ⟨pgb,i*2,none⟩=some (.int .i64 p1)):=Lh (HPW.out 0 (by decide))
     have HPW1:Hid (wo.cell? ⟨pgb,i*2+1,none⟩=some (.int .i64 p2)):=Lh (HPW.out 1 (by decide))
     simp only at hpos
     have q1:=rem_is hpos.1.1 hpos.1.2 HGP.out.1 HGP.out.2
     have q2:=rem_is hpos.2.1 hpos.2.2 HGP.out.1 HGP.out.2
     obtain⟨m1,hm1⟩: ∃m,l1%gr=m:=⟨_,rfl⟩
     obtain⟨m2,hm2⟩: ∃m,l2%gr=m:=⟨_,rfl⟩
     rw[hm1]at q1
     rw[hm2]at q2
     obtain⟨q1a,q1b⟩:=q1
     obtain⟨q2a,q2b⟩:=q2
     have HM12:=Lh (And.intro hm1 hm2)
     have hg0:(gr==0)=false:=by have:=HGP.out.1;simp;omega
     have hgp:0<gr:=by have:=HGP.out.1;omega
     obtain⟨q,Wa,Wb,hq,hWa,hWb,Va,Vb,h12,hz2⟩:=freshL wo [.string ⟨#[]⟩, .bool false, .int .i64 0, .int .i64 0, .int .u64 0, .int .i64 0, .int .i64 0] [.string rnm, .bool rpg, .int .i64 l1, .int .i64 l2, .int .u64 l3, .int .i64 l4, .int .i64 l5] 58 rfl
     simp only[putL,Ly,Lx]at hWb
     have HQ:=Lh hq
     have HVb:=Lh Vb
     have H12:=Lh h12
     have z0:=Va.c 0 rfl
     have zq0:=Va.q 0 rfl
     have z1:=Va.c 1 rfl
     have zq1:=Va.q 1 rfl
     have z2:=Va.c 2 rfl
     have zq2:=Va.q 2 rfl
     have z3:=Va.c 3 rfl
     have zq3:=Va.q 3 rfl
     have z4:=Va.c 4 rfl
     have zq4:=Va.q 4 rfl
     have z5:=Va.c 5 rfl
     have zq5:=Va.q 5 rfl
     have z6:=Va.c 6 rfl
     have zq6:=Va.q 6 rfl
     clear hat hat8 hr hr0 hp0 hlr hlp hrl hpl er ep hpos hm1 hm2 Va Vb h12 hz2
     go_upto_block 1 with fail
     go_cut [4,5] from 74 to 108 (fun _ _ wx=> ∃O9,OffAt base fpv X gb nm (goalK x) (FF++A) gr O7 lv (.slice (some ⟨rg,0,none⟩) n rc) (.slice (some ⟨pgb,0,none⟩) n pc) w7 (i+1) O9 wx)
     case first=>
      go_upto_region 7 with fail
      clear f0 f1 f2 f3 f4 f5 f6 z0 zq0 z1 zq1 z2 zq2 z3 zq3 z4 zq4 z5 zq5 z6 zq6 hWa hWb hq
      have d2:=HVb.out.c 2 rfl
      have d3:=HVb.out.c 3 rfl
      have cb:=(HVBo.out.after H12.out).c 0 rfl
      have c3:=(HA8.out.at'.var.after H12.out).c 3 rfl
      rw[HGR.out]at c3
      have hi1:IntKind.i64.wrap ((i:Int)+1)=((i+1:Nat):Int):=by rw[IntKind.wrap_i64];have:=HFL.out;omega
      by_cases h1:m1≠0
      ·have b1:(m1 !=0)=true:=by simpa using h1
       have HH:=Lh h1
       clear h1
       go_quiet (fail)
       have HB3:Hid (Below wo.heap.size wo (Wb.drewN nq)):=Lh (below_step H12.out (Go.below_drewN (Mj _ _) nq))
       generalize Wb.drewN nq=W3 at HB3 ⊢
       clear d2 d3 cb c3
       have HPC0:=Lh ((HB3.out.cell (p:=⟨pgb,i*2,none⟩) HPL.out).trans HPW0.out)
       have HPC1:=Lh ((HB3.out.cell (p:=⟨pgb,i*2+1,none⟩) HPL.out).trans HPW1.out)
       have HPL3:Hid (pgb<W3.heap.size):=Lh (Kx HPL.out HB3.out.size)
       have HVB3:=Lh (HVBo.out.after HB3.out)
       have HG3:=Lh (HA8.out.at'.var.after HB3.out)
       go_wp2_with fail
       refine wp_region_mixj 11 (TLst [.pointer (some ⟨gb,0,none⟩), .pointer (some ⟨gb,0,none⟩), .pointer (some ⟨gb,0,none⟩),fpv, .pointer (some ⟨gb,0,none⟩), .pointer (some ⟨gb,0,none⟩), .pointer (some ⟨gb,9,none⟩), .slice (some ⟨pgb,0,none⟩) n pc, .int .i64 (i:Int), .pointer (some ⟨pgb,i*2,none⟩), .agg #[.int .i64 p1, .int .i64 p2]]) (fun _ V=>Below W3.heap.size W3 V) (by kernel_rfl) (by kernel_rfl) (Mj _ _).drew ?_ ?_
       ·simp only[Kj,Jh]
        refine(Lz ?_ (Lz ?_ (Lz ?_ (Lz ?_ (Lz ?_ (Lz ?_ (Lz ?_ (Lz ?_ (Lz ?_ (Lz ?_ (Lz ?_ StepsJ.nil)))))))))))
        all_goals(intro u0 W8 L hL hj hd;simp only[putAll,Mq,Lq,Lk,Lj,Ly,Lx])
        ·have cb:=(HVB3.out.after hj).c 0 rfl
         have hj1:=hj
         go_wp2
         first|exact hj1|exact rfl|exact⟨rfl,hj1⟩|exact⟨rfl,hj1,k4⟩|exact⟨_,rfl,rfl,hj1,k4⟩
        ·have e0:u0 0= .pointer (some ⟨gb,0,none⟩):=(hd.1 rfl (by decide)).2
         rw[e0]
         have hj1:=hj
         go_wp2
         first|exact hj1|exact rfl|exact⟨rfl,hj1⟩|exact⟨rfl,hj1,k4⟩|exact⟨_,rfl,rfl,hj1,k4⟩
        ·have e1:u0 1= .pointer (some ⟨gb,0,none⟩):=(hd.1 rfl (by decide)).2
         rw[e1]
         have hj1:=hj
         go_wp2
         first|exact hj1|exact rfl|exact⟨rfl,hj1⟩|exact⟨rfl,hj1,k4⟩|exact⟨_,rfl,rfl,hj1,k4⟩
        ·have e2:u0 2= .pointer (some ⟨gb,0,none⟩):=(hd.1 rfl (by decide)).2
         have c0:=(HG3.out.after hj).c 0 rfl
         rw[e2]
         have hj1:=hj
         go_wp2
         first|exact hj1|exact rfl|exact⟨rfl,hj1⟩|exact⟨rfl,hj1,k4⟩|exact⟨_,rfl,rfl,hj1,k4⟩
        ·have cb:=(HVB3.out.after hj).c 0 rfl
         have hj1:=hj
         go_wp2
         first|exact hj1|exact rfl|exact⟨rfl,hj1⟩|exact⟨rfl,hj1,k4⟩|exact⟨_,rfl,rfl,hj1,k4⟩
        ·have e4:u0 4= .pointer (some ⟨gb,0,none⟩):=(hd.1 rfl (by decide)).2
         rw[e4]
         have hj1:=hj
         go_wp2
         first|exact hj1|exact rfl|exact⟨rfl,hj1⟩|exact⟨rfl,hj1,k4⟩|exact⟨_,rfl,rfl,hj1,k4⟩
        ·have e5:u0 5= .pointer (some ⟨gb,0,none⟩):=(hd.1 rfl (by decide)).2
         rw[e5]
         have hj1:=hj
         go_wp2
         first|exact hj1|exact rfl|exact⟨rfl,hj1⟩|exact⟨rfl,hj1,k4⟩|exact⟨_,rfl,rfl,hj1,k4⟩
        ·have e6:u0 6= .pointer (some ⟨gb,9,none⟩):=(hd.1 rfl (by decide)).2
         have c9:=(HG3.out.after hj).c 9 rfl
         rw[e6]
         have hj1:=hj
         go_wp2
         first|exact hj1|exact rfl|exact⟨rfl,hj1⟩|exact⟨rfl,hj1,k4⟩|exact⟨_,rfl,rfl,hj1,k4⟩
        ·have hj1:=hj
         go_wp2
         first|exact hj1|exact rfl|exact⟨rfl,hj1⟩|exact⟨rfl,hj1,k4⟩|exact⟨_,rfl,rfl,hj1,k4⟩
        ·have e7:u0 7= .slice (some ⟨pgb,0,none⟩) n pc:=(hd.1 rfl (by decide)).2
         have e8:u0 8= .int .i64 (i:Int):=(hd.2.1 rfl (by decide)).2
         have hin':=hin
         rw[e7,e8]
         have hj1:=hj
         go_wp2
         first|exact hj1|exact rfl|exact⟨rfl,hj1⟩|exact⟨rfl,hj1,k4⟩|exact⟨_,rfl,rfl,hj1,k4⟩
        ·have e9:u0 9= .pointer (some ⟨pgb,i*2,none⟩):=(hd.1 rfl (by decide)).2
         have y0:=(hj.cell (p:=⟨pgb,i*2,none⟩) HPL3.out).trans HPC0.out
         have y1:=(hj.cell (p:=⟨pgb,i*2+1,none⟩) HPL3.out).trans HPC1.out
         rw[e9]
         have hj1:=hj
         go_wp2
         first|exact hj1|exact rfl|exact⟨rfl,hj1⟩|exact⟨rfl,hj1,k4⟩|exact⟨_,rfl,rfl,hj1,k4⟩
       ·intro u0 W8 L hall hb ht
        have e3:u0 3=fpv:=ht 3 (by decide)
        have e10:u0 10= .agg #[.int .i64 p1, .int .i64 p2]:=ht 10 (by decide)
        have HBW:=Lh hb
        clear hb ht hall
        simp only[Kj,Jh,Jj,Jk,putAll,Mq,Lq,Lk,Lj,Ly,Lx]
        rw[e3,e10]
        have HAT8:=Lh ((HA8.out.at'.after HX.out HB3.out).after HX.out HBW.out)
        have HAD:=Lh (HAT8.out.add HX.out (by have h1:=HFL.out;have h2:=HAN.out;have h3:=off_le gr ((rpC (goalK x)).take i);have h4:((rpC (goalK x)).take i).length≤n:=(by rw[HRL.out,List.length_take,HN.out];omega);rw[Kq,Kq];omega) 8 p1 p2)
        go_wp2_with (go_at_call 57;(with_reducible refine(HAD.out).mono ?_);rintro e w9 ⟨rfl,O9,hm9,hf9,hg9⟩;have HM9:=Lh hm9;have HF9:=Lh hf9;have HG9:=Lh hg9;clear hm9 hf9 hg9)
        go_meet
        exact⟨O9,HA8.out.bad (by rw[HRL.out];exact HR.out) (My (by simp only;rw[HM12.out.1];exact HH.out)) (HB3.out.trans (HBW.out.mono HB3.out.size)) HM9.out HF9.out HG9.out⟩
      ·replace h1:m1=0:=Decidable.of_not_not h1
       by_cases h2:m2≠0
       ·have b1:(m1 !=0)=false:=by simp[h1]
        have b2:(m2 !=0)=true:=by simpa using h2
        have HH:=Lh h2
        clear h1 h2
        go_quiet (fail)
        have HB3:Hid (Below wo.heap.size wo (Wb.drewN nq)):=Lh (below_step H12.out (Go.below_drewN (Mj _ _) nq))
        generalize Wb.drewN nq=W3 at HB3 ⊢
        clear d2 d3 cb c3
        have HPC0:=Lh ((HB3.out.cell (p:=⟨pgb,i*2,none⟩) HPL.out).trans HPW0.out)
        have HPC1:=Lh ((HB3.out.cell (p:=⟨pgb,i*2+1,none⟩) HPL.out).trans HPW1.out)
        have HPL3:Hid (pgb<W3.heap.size):=Lh (Kx HPL.out HB3.out.size)
        have HVB3:=Lh (HVBo.out.after HB3.out)
        have HG3:=Lh (HA8.out.at'.var.after HB3.out)
        go_wp2_with fail
        refine wp_region_mixj 11 (TLst [.pointer (some ⟨gb,0,none⟩), .pointer (some ⟨gb,0,none⟩), .pointer (some ⟨gb,0,none⟩),fpv, .pointer (some ⟨gb,0,none⟩), .pointer (some ⟨gb,0,none⟩), .pointer (some ⟨gb,9,none⟩), .slice (some ⟨pgb,0,none⟩) n pc, .int .i64 (i:Int), .pointer (some ⟨pgb,i*2,none⟩), .agg #[.int .i64 p1, .int .i64 p2]]) (fun _ V=>Below W3.heap.size W3 V) (by kernel_rfl) (by kernel_rfl) (Mj _ _).drew ?_ ?_
        ·simp only[Kj,Jh]
         refine(Lz ?_ (Lz ?_ (Lz ?_ (Lz ?_ (Lz ?_ (Lz ?_ (Lz ?_ (Lz ?_ (Lz ?_ (Lz ?_ (Lz ?_ StepsJ.nil)))))))))))
         all_goals(intro u0 W8 L hL hj hd;simp only[putAll,Mq,Lq,Lk,Lj,Ly,Lx])
         ·have cb:=(HVB3.out.after hj).c 0 rfl
          have hj1:=hj
          go_wp2
          first|exact hj1|exact rfl|exact⟨rfl,hj1⟩|exact⟨rfl,hj1,k4⟩|exact⟨_,rfl,rfl,hj1,k4⟩
         ·have e0:u0 0= .pointer (some ⟨gb,0,none⟩):=(hd.1 rfl (by decide)).2
          rw[e0]
          have hj1:=hj
          go_wp2
          first|exact hj1|exact rfl|exact⟨rfl,hj1⟩|exact⟨rfl,hj1,k4⟩|exact⟨_,rfl,rfl,hj1,k4⟩
         ·have e1:u0 1= .pointer (some ⟨gb,0,none⟩):=(hd.1 rfl (by decide)).2
          rw[e1]
          have hj1:=hj
          go_wp2
          first|exact hj1|exact rfl|exact⟨rfl,hj1⟩|exact⟨rfl,hj1,k4⟩|exact⟨_,rfl,rfl,hj1,k4⟩
         ·have e2:u0 2= .pointer (some ⟨gb,0,none⟩):=(hd.1 rfl (by decide)).2
          have c0:=(HG3.out.after hj).c 0 rfl
          rw[e2]
          have hj1:=hj
          go_wp2
          first|exact hj1|exact rfl|exact⟨rfl,hj1⟩|exact⟨rfl,hj1,k4⟩|exact⟨_,rfl,rfl,hj1,k4⟩
         ·have cb:=(HVB3.out.after hj).c 0 rfl
          have hj1:=hj
          go_wp2
          first|exact hj1|exact rfl|exact⟨rfl,hj1⟩|exact⟨rfl,hj1,k4⟩|exact⟨_,rfl,rfl,hj1,k4⟩
         ·have e4:u0 4= .pointer (some ⟨gb,0,none⟩):=(hd.1 rfl (by decide)).2
          rw[e4]
          have hj1:=hj
          go_wp2
          first|exact hj1|exact rfl|exact⟨rfl,hj1⟩|exact⟨rfl,hj1,k4⟩|exact⟨_,rfl,rfl,hj1,k4⟩
         ·have e5:u0 5= .pointer (some ⟨gb,0,none⟩):=(hd.1 rfl (by decide)).2
          rw[e5]
          have hj1:=hj
          go_wp2
          first|exact hj1|exact rfl|exact⟨rfl,hj1⟩|exact⟨rfl,hj1,k4⟩|exact⟨_,rfl,rfl,hj1,k4⟩
         ·have e6:u0 6= .pointer (some ⟨gb,9,none⟩):=(hd.1 rfl (by decide)).2
          have c9:=(HG3.out.after hj).c 9 rfl
          rw[e6]
          have hj1:=hj
          go_wp2
          first|exact hj1|exact rfl|exact⟨rfl,hj1⟩|exact⟨rfl,hj1,k4⟩|exact⟨_,rfl,rfl,hj1,k4⟩
         ·have hj1:=hj
          go_wp2
          first|exact hj1|exact rfl|exact⟨rfl,hj1⟩|exact⟨rfl,hj1,k4⟩|exact⟨_,rfl,rfl,hj1,k4⟩
         ·have e7:u0 7= .slice (some ⟨pgb,0,none⟩) n pc:=(hd.1 rfl (by decide)).2
          have e8:u0 8= .int .i64 (i:Int):=(hd.2.1 rfl (by decide)).2
          have hin':=hin
          rw[e7,e8]
          have hj1:=hj
          go_wp2
          first|exact hj1|exact rfl|exact⟨rfl,hj1⟩|exact⟨rfl,hj1,k4⟩|exact⟨_,rfl,rfl,hj1,k4⟩
         ·have e9:u0 9= .pointer (some ⟨pgb,i*2,none⟩):=(hd.1 rfl (by decide)).2
          have y0:=(hj.cell (p:=⟨pgb,i*2,none⟩) HPL3.out).trans HPC0.out
          have y1:=(hj.cell (p:=⟨pgb,i*2+1,none⟩) HPL3.out).trans HPC1.out
          rw[e9]
          have hj1:=hj
          go_wp2
          first|exact hj1|exact rfl|exact⟨rfl,hj1⟩|exact⟨rfl,hj1,k4⟩|exact⟨_,rfl,rfl,hj1,k4⟩
        ·intro u0 W8 L hall hb ht
         have e3:u0 3=fpv:=ht 3 (by decide)
         have e10:u0 10= .agg #[.int .i64 p1, .int .i64 p2]:=ht 10 (by decide)
         have HBW:=Lh hb
         clear hb ht hall
         simp only[Kj,Jh,Jj,Jk,putAll,Mq,Lq,Lk,Lj,Ly,Lx]
         rw[e3,e10]
         have HAT8:=Lh ((HA8.out.at'.after HX.out HB3.out).after HX.out HBW.out)
         have HAD:=Lh (HAT8.out.add HX.out (by have h1:=HFL.out;have h2:=HAN.out;have h3:=off_le gr ((rpC (goalK x)).take i);have h4:((rpC (goalK x)).take i).length≤n:=(by rw[HRL.out,List.length_take,HN.out];omega);rw[Kq,Kq];omega) 8 p1 p2)
         go_wp2_with (go_at_call 57;(with_reducible refine(HAD.out).mono ?_);rintro e w9 ⟨rfl,O9,hm9,hf9,hg9⟩;have HM9:=Lh hm9;have HF9:=Lh hf9;have HG9:=Lh hg9;clear hm9 hf9 hg9)
         go_meet
         exact⟨O9,HA8.out.bad (by rw[HRL.out];exact HR.out) (Mx (by simp only;rw[HM12.out.2];exact HH.out)) (HB3.out.trans (HBW.out.mono HB3.out.size)) HM9.out HF9.out HG9.out⟩
       ·replace h2:m2=0:=Decidable.of_not_not h2
        have b1:(m1 !=0)=false:=by simp[h1]
        have b2:(m2 !=0)=false:=by simp[h2]
        have HH:=Lh (And.intro h1 h2)
        clear h1 h2
        go_quiet (fail)
        have HB3:Hid (Below wo.heap.size wo (Wb.drewN nq)):=Lh (below_step H12.out (Go.below_drewN (Mj _ _) nq))
        generalize Wb.drewN nq=W3 at HB3 ⊢
        clear d2 d3 cb c3
        go_wp2_with fail
        go_meet
        exact⟨O8,HA8.out.good HX.out (by rw[HRL.out];exact HR.out) (by simp only;rw[HM12.out.1,HM12.out.2];rintro(e|e);exact e HH.out.1;exact e HH.out.2) HB3.out⟩
     case rest=>
      obtain⟨O9,h9⟩:=hcut
      have H9:=Lh h9
      have hi1:IntKind.i64.wrap ((i:Int)+1)=((i+1:Nat):Int):=by rw[IntKind.wrap_i64];have:=HFL.out;omega
      clear h9
      go_wp2
      go_roundw
      case rel=>exact⟨i+1,O9,by omega,rfl,H9.out⟩
      case measure=>simp[intOf];omega
    ·have en:n=i:=by omega
     subst en
     have HAE:Hid (M1At base fpv X gb nm (goalK x) (FF++A++R.flatMap (offOne gr)) O8 lv (.slice ra n rc) (.slice pa n pc) wo):=Lh (by
      have h:=hat8.at'
      rw[HRL.out,List.take_of_length_le (by rw[HN.out];exact Mz _)]at h
      exact h)
     have HFE:Hid (Frm O w wo∧Grown O O8 w.heap.size):=Lh (by
      refine⟨HFO.out.1.trans hat8.frm HFO.out.2,fun j hj=>?_⟩
      rcases hat8.gr j hj with h|h
      ·exact HFO.out.2 j h
      ·exact Mx (by have:=HFO.out.1.size;omega))
     have HOW:Hid (∀i,ownG gb lv (.slice ra n rc) (.slice pa n pc) i→O i∨w.heap.size≤i):=Lh (fun j hj=>(HG5.out j (HK5.out j (Mx hj))).imp id (fun h=>Nat.le_of_lt (Kx HZ9.out h)))
     have q1:=rem_is HRP.out.1 HRP.out.2 HGP.out.1 HGP.out.2
     obtain⟨m3,hm3⟩: ∃m,ro%gr=m:=⟨_,rfl⟩
     rw[hm3]at q1
     obtain⟨q1a,q1b⟩:=q1
     have HM3:=Lh hm3
     have hg0:(gr==0)=false:=by have:=HGP.out.1;simp;omega
     have hgp:0<gr:=by have:=HGP.out.1;omega
     have cb:=HVBo.out.c 0 rfl
     have c3:=HAE.out.var.c 3 rfl
     have c5:=HAE.out.var.c 5 rfl
     rw[HGR.out]at c3
     rw[HRO.out]at c5
     clear hat8 hm3
     go_upto_region 10 with fail
     by_cases h3:m3≠0
     ·have b3:(m3 !=0)=true:=by simpa using h3
      have HWE:Hid ((F++((lookS 1 subG x.kids).2++wholeG x (goalK x)))=(FF++A++R.flatMap (offOne gr))++ [(8,x.a,x.b)]):=Lh (by rw[HWH.out,HM3.out,if_pos h3,←HFF.out];simp only[List.append_assoc])
      clear h3
      go_quiet (fail)
      have HB3:Hid (Below wo.heap.size wo (wo.drewN nq)):=Lh (Go.below_drewN (Mj _ _) nq)
      generalize wo.drewN nq=W3 at HB3 ⊢
      clear cb c3 c5
      have HVB3:=Lh (HVBo.out.after HB3.out)
      have HI3:=Lh (HIo.out.after HB3.out)
      have HG3:=Lh (HAE.out.var.after HB3.out)
      go_wp2_with fail
      refine wp_region_mixj 9 (TLst [.pointer (some ⟨gb,0,none⟩), .pointer (some ⟨gb,0,none⟩), .pointer (some ⟨gb,0,none⟩),fpv, .pointer (some ⟨ib,0,none⟩), .pointer (some ⟨ib,0,none⟩), .pointer (some ⟨ib,0,none⟩), .pointer (some ⟨ib,4,none⟩), .agg #[.int .i64 x.a, .int .i64 x.b]]) (fun _ V=>Below W3.heap.size W3 V) (by kernel_rfl) (by kernel_rfl) (Mj _ _).drew ?_ ?_
      ·simp only[Kj,Jh]
       refine(Lz ?_ (Lz ?_ (Lz ?_ (Lz ?_ (Lz ?_ (Lz ?_ (Lz ?_ (Lz ?_ (Lz ?_ StepsJ.nil)))))))))
       all_goals(intro u0 W8 L hL hj hd;simp only[putAll,Mq,Lq,Lk,Lj,Ly,Lx])
       ·have cb:=(HVB3.out.after hj).c 0 rfl
        have hj1:=hj
        go_wp2
        first|exact hj1|exact rfl|exact⟨rfl,hj1⟩|exact⟨rfl,hj1,k4⟩|exact⟨_,rfl,rfl,hj1,k4⟩
       ·have e0:u0 0= .pointer (some ⟨gb,0,none⟩):=(hd.1 rfl (by decide)).2
        rw[e0]
        have hj1:=hj
        go_wp2
        first|exact hj1|exact rfl|exact⟨rfl,hj1⟩|exact⟨rfl,hj1,k4⟩|exact⟨_,rfl,rfl,hj1,k4⟩
       ·have e1:u0 1= .pointer (some ⟨gb,0,none⟩):=(hd.1 rfl (by decide)).2
        rw[e1]
        have hj1:=hj
        go_wp2
        first|exact hj1|exact rfl|exact⟨rfl,hj1⟩|exact⟨rfl,hj1,k4⟩|exact⟨_,rfl,rfl,hj1,k4⟩
       ·have e2:u0 2= .pointer (some ⟨gb,0,none⟩):=(hd.1 rfl (by decide)).2
        have c0:=(HG3.out.after hj).c 0 rfl
        rw[e2]
        have hj1:=hj
        go_wp2
        first|exact hj1|exact rfl|exact⟨rfl,hj1⟩|exact⟨rfl,hj1,k4⟩|exact⟨_,rfl,rfl,hj1,k4⟩
       ·have hj1:=hj
        go_wp2
        first|exact hj1|exact rfl|exact⟨rfl,hj1⟩|exact⟨rfl,hj1,k4⟩|exact⟨_,rfl,rfl,hj1,k4⟩
       ·have e4:u0 4= .pointer (some ⟨ib,0,none⟩):=(hd.1 rfl (by decide)).2
        rw[e4]
        have hj1:=hj
        go_wp2
        first|exact hj1|exact rfl|exact⟨rfl,hj1⟩|exact⟨rfl,hj1,k4⟩|exact⟨_,rfl,rfl,hj1,k4⟩
       ·have e5:u0 5= .pointer (some ⟨ib,0,none⟩):=(hd.1 rfl (by decide)).2
        rw[e5]
        have hj1:=hj
        go_wp2
        first|exact hj1|exact rfl|exact⟨rfl,hj1⟩|exact⟨rfl,hj1,k4⟩|exact⟨_,rfl,rfl,hj1,k4⟩
       ·have e6:u0 6= .pointer (some ⟨ib,0,none⟩):=(hd.1 rfl (by decide)).2
        rw[e6]
        have hj1:=hj
        go_wp2
        first|exact hj1|exact rfl|exact⟨rfl,hj1⟩|exact⟨rfl,hj1,k4⟩|exact⟨_,rfl,rfl,hj1,k4⟩
       ·have e7:u0 7= .pointer (some ⟨ib,4,none⟩):=(hd.1 rfl (by decide)).2
        have c4:=(HI3.out.after hj).c 4 rfl
        have c5:=(HI3.out.after hj).c 5 rfl
        rw[e7]
        have hj1:=hj
        go_wp2
        first|exact hj1|exact rfl|exact⟨rfl,hj1⟩|exact⟨rfl,hj1,k4⟩|exact⟨_,rfl,rfl,hj1,k4⟩
      ·intro u0 W8 L hall hb ht
       have e3:u0 3=fpv:=ht 3 (by decide)
       have e8:u0 8= .agg #[.int .i64 x.a, .int .i64 x.b]:=ht 8 (by decide)
       have HBW:=Lh hb
       clear hb ht hall
       simp only[Kj,Jh,Jj,Jk,putAll,Mq,Lq,Lk,Lj,Ly,Lx]
       rw[e3,e8]
       have HAT8:=Lh ((HAE.out.after HX.out HB3.out).after HX.out HBW.out)
       have HAD:=Lh (HAT8.out.add HX.out (by have h1:=HFL.out;have h2:=HAN.out;have h3:=off_le gr R;have h4:=HN.out;rw[Kq,Kq];omega) 8 x.a x.b)
       go_wp2_with (go_at_call 57;(with_reducible refine(HAD.out).mono ?_);rintro e w9 ⟨rfl,O9,hm9,hf9,hg9⟩;have HM9:=Lh hm9;have HF9:=Lh hf9;have HG9:=Lh hg9;clear hm9 hf9 hg9)
       first|go_end0|refine bodyPost_ret (results_none rfl _ _ _) rfl ?_
       refine⟨rfl,fun i=>O9 i∨ownG gb lv (.slice ra n rc) (.slice pa n pc) i,⟨O9,lv,_,_,by rw[HWE.out];exact HM9.out,fun i=>Iff.rfl⟩,?_,fun j hj=>?_⟩
       ·exact(HFE.out.1.trans (Frm.of (HB3.out.trans (HBW.out.mono HB3.out.size))) HFE.out.2).trans HF9.out HFE.out.2
       ·rcases hj with hj|hj
        ·rcases HG9.out j hj with h|h
         ·exact HFE.out.2 j h
         ·exact Mx (by have:=HFE.out.1.size;have:=HB3.out.size;have:=HBW.out.size;omega)
        ·exact HOW.out j hj
     ·replace h3:m3=0:=Decidable.of_not_not h3
      have b3:(m3 !=0)=false:=by simp[h3]
      have HWE:Hid ((F++((lookS 1 subG x.kids).2++wholeG x (goalK x)))=(FF++A++R.flatMap (offOne gr))):=Lh (by rw[HWH.out,HM3.out,if_neg (fun e=>e h3),←HFF.out];simp only[List.append_assoc,List.append_nil])
      clear h3
      go_quiet (fail)
      have HB3:Hid (Below wo.heap.size wo (wo.drewN nq)):=Lh (Go.below_drewN (Mj _ _) nq)
      generalize wo.drewN nq=W3 at HB3 ⊢
      clear cb c3 c5
      go_wp2_with fail
      first|go_end0|refine bodyPost_ret (results_none rfl _ _ _) rfl ?_
      refine⟨rfl,fun i=>O8 i∨ownG gb lv (.slice ra n rc) (.slice pa n pc) i,⟨O8,lv,_,_,by rw[HWE.out];exact HAE.out.after HX.out HB3.out,fun i=>Iff.rfl⟩,?_,fun j hj=>?_⟩
      ·exact HFE.out.1.trans (Frm.of HB3.out) HFE.out.2
      ·exact hj.elim (HFE.out.2 j) (HOW.out j)
end
end
end Go.Proofs.YtalcagmhdppdjaaGreatDoor
