/-
  Of any goal, and any rule for any grain, whether it is right is what the document says.
-/
import Derived.Test.YtiapmjkaappcfaaGreatDoorPkShowGoals12
import Derived.Test.YtiapmjkaappcfaaGreatDoorPkShowGoals11
import Derived.Test.YtiapmjkaappcfaaGreatDoorCards
import Derived.Test.YtiapmjkaappcfaaGreatDoorTie
import Derived.Below
import Derived.LaidMore
import Derived.Lay
import Derived.SevenTiedAt
import Derived.Stop.Joined
set_option maxRecDepth 100000
set_option maxHeartbeats 16000000
namespace Go.Proofs.YtiapmjkaappcfaaGreatDoor
open Lib renaming hid→Lh
open List renaming setIfInBounds_toArray→Lq,set_cons_zero→Lj,set_cons_succ→Lk,getD_eq_getElem?_getD→Mk,getElem?_eq_getElem→Kh,take_succ_cons→Kj,take_zero→Jh,drop_succ_cons→Jj,drop_zero→Jk
open Nat renaming reduceAdd→Lx,zero_add→Ly,le_refl→Mz
open Go.RowKit.Below renaming refl→Mj
section
open Go.RowKit
theorem items_of {d:Nat} {w:World} {S:Nat→Prop} {kb cap:Nat} (rows:List (List Value)) (xs:List It) (hlen:rows.length=xs.length) (hc:xs.length≤cap) (hS:S kb)
  (hcell: ∀(i j:Nat) u y,rows[i]?=some u→u[j]?=some y→w.cell? ⟨kb,i*6+j,none⟩=some y)
  (hrow: ∀(i:Nat) u x,rows[i]?=some u→xs[i]?=some x→∃wv kv,u= [.string x.name,wv, .bool x.block,kv, .int .i64 x.a, .int .i64 x.b]∧WordsIs w S wv x.words∧ItemsIs d w S kv x.kids):
  ItemsIs (d+1) w S (.slice (some ⟨kb,0,none⟩) xs.length cap) xs:=by
 refine⟨_,cap,rfl,hc,fun i hi=>?_⟩
 have hu:rows[i]?=some (rows[i]'(by omega)):=Kh _
 have hx:xs[i]?=some xs[i]:=Kh hi
 have ex:xs.getD i default=xs[i]:=by rw[Mk,hx];rfl
 obtain⟨wv,kv,e,h1,h2⟩:=hrow i _ _ hu hx
 have hy: ∀j y,[.string xs[i].name,wv, .bool xs[i].block,kv, .int .i64 xs[i].a, .int .i64 xs[i].b][j]?=some y→w.cell? ⟨kb,0+i*6+j,none⟩=some y:=fun j y h=>by
  rw[Ly];exact hcell i j _ y hu (by rw[e];exact h)
 rw[ex]
 exact⟨kb,0,wv,kv,rfl,hS,hy 0 _ rfl,hy 1 _ rfl,hy 2 _ rfl,hy 3 _ rfl,hy 4 _ rfl,hy 5 _ rfl,h1,h2⟩
theorem items_nil (d:Nat) (w:World) (S:Nat→Prop):ItemsIs (d+1) w S (.slice none 0 0) []:=⟨none,0,rfl,Mz _,fun i hi=>by cases hi⟩
theorem words_nil (w:World) (S:Nat→Prop):WordsIs w S (.slice none 0 0) []:=⟨none,0,rfl,Mz _,fun i hi=>by cases hi⟩
theorem word_one {w:World} {S:Nat→Prop} {b:Nat} {k n:Int} (h:VarL w b (tokL k ⟨#[]⟩ n)) (hS:S b):WordsIs w S (.slice (some ⟨b,0,none⟩) 1 1) [wrdN k n]:=by
 refine⟨_,1,rfl,Mz _,fun i hi=>?_⟩
 obtain rfl:i=0:=by simp at hi;omega
 exact⟨b,0,rfl,hS,h.c 0 rfl,h.c 1 rfl,h.c 2 rfl,h.c 3 rfl,h.c 4 rfl⟩
def TNt (base gb:Nat) (ro re fi ca ag:Int):Nat→Value→World→Prop
 |2,v,w=>OneWd base nRoom 3 ro v w
 |5,v,w=>OneWd base nReserve 3 re v w
 |8,v,w=>OneWd base nFirst 6 fi v w
 |11,v,w=>OneWd base nCap 6 ca v w
 |14,v,w=>OneWd base nRepeat 6 ag v w
 |i,v,_=>v=List.getD [.pointer (some ⟨gb,0,none⟩), .int .i64 ro,undef, .pointer (some ⟨gb,1,none⟩), .int .i64 re,undef, .pointer (some ⟨gb,2,none⟩), .int .i64 fi,undef, .pointer (some ⟨gb,3,none⟩), .int .i64 ca,undef, .pointer (some ⟨gb,4,none⟩), .int .i64 ag,undef] i undef
theorem TNt.keep (base gb:Nat) (ro re fi ca ag:Int) (i:Nat) (v:Value) (w w':World) (h:TNt base gb ro re fi ca ag i v w) (hb:Below w.heap.size w w'):TNt base gb ro re fi ca ag i v w':=by
 unfold TNt at h ⊢
 split at h
 ·exact h.after hb
 ·exact h.after hb
 ·exact h.after hb
 ·exact h.after hb
 ·exact h.after hb
 ·exact h
theorem wnotify_any (ro re fi ca ag:Int) (w:World) (h0:0≤ro∧0≤re∧0≤fi∧0≤ca∧0≤ag) (h1:ro≤9223372036854775807∧re≤9223372036854775807∧fi≤9223372036854775807∧ca≤9223372036854775807∧ag≤9223372036854775807):
  Calls Tryz.prog 50 #[.agg #[.int .i64 ro, .int .i64 re, .int .i64 fi, .int .i64 ca, .int .i64 ag]] w fun e w'=>(∃kv,e= .returned (.agg #[.string nNotify, .slice none 0 0, .bool true,kv, .int .i64 0, .int .i64 0])∧ItemsIs 2 w' (fun b=>w.heap.size≤b∧b<w'.heap.size) kv [lnI nRoom [wrdN 3 ro],lnI nReserve [wrdN 3 re],spI nFirst fi,spI nCap ca,spI nRepeat ag])∧Below w.heap.size w w':=by
 obtain⟨gb,W0,hgb,hW0,V0,b0,z0⟩:=boxL w [.int .i64 ro, .int .i64 re, .int .i64 fi, .int .i64 ca, .int .i64 ag] 25
 obtain⟨g,W1,hg,hW1,V1,b1,z1⟩:=boxL W0 [.string ⟨#[]⟩, .slice none 0 0, .bool false, .slice none 0 0, .int .i64 0, .int .i64 0] 47
 obtain⟨base,hbase⟩: ∃b,W1.heap.size=b:=⟨_,rfl⟩
 have HBS:Hid (W1.heap.size=base∧w.heap.size≤g∧w.heap.size≤base∧g<base):=Lh ⟨hbase,by have:=b0.size;omega,by have:=b0.size;have:=b1.size;omega,by omega⟩
 have HC:Hid (∀W,Below W1.heap.size W1 W→W.cell? ⟨gb,0,none⟩=some (.int .i64 ro)∧W.cell? ⟨gb,1,none⟩=some (.int .i64 re)∧W.cell? ⟨gb,2,none⟩=some (.int .i64 fi)∧W.cell? ⟨gb,3,none⟩=some (.int .i64 ca)∧W.cell? ⟨gb,4,none⟩=some (.int .i64 ag)):=Lh (fun W b=>⟨((V0.after b1).after b).c 0 rfl,((V0.after b1).after b).c 1 rfl,((V0.after b1).after b).c 2 rfl,((V0.after b1).after b).c 3 rfl,((V0.after b1).after b).c 4 rfl⟩)
 have HW0:=Lh (fun W=>wcount_any nRoom ro W (by omega) (by omega))
 have HW1:=Lh (fun W=>wcount_any nReserve re W (by omega) (by omega))
 have HW2:=Lh (fun W=>wspan_any nFirst fi W (by omega) (by omega))
 have HW3:=Lh (fun W=>wspan_any nCap ca W (by omega) (by omega))
 have HW4:=Lh (fun W=>wspan_any nRepeat ag W (by omega) (by omega))
 have HV1:=Lh V1
 have HB1:=Lh (below_step b0 b1)
 have HBA:Hid (∀W,Below W1.heap.size W1 W→∀b,W.heap.size≤b→base≤b):=Lh (fun W b c hc=>by have:=b.size;omega)
 clear b0 z0 V0 b1 z1 V1 h0 h1 hbase
 show Calls Tryz.prog 50 #[.agg #[.int .i64 ro, .int .i64 re, .int .i64 fi, .int .i64 ca, .int .i64 ag]] w _
 go_enter Tryz.func50,Tryz.ntmps50
 go_wp2
 refine wp_region_mix 15 (TNt base gb ro re fi ca ag) (fun _=>false) (by kernel_rfl) (by kernel_rfl) (TNt.keep _ _ _ _ _ _ _) (fun _ _ _ h=>by cases h) ?_ ?_
 ·refine⟨?_,?_,?_,?_,?_,?_,?_,?_,?_,?_,?_,?_,?_,?_,?_,trivial⟩
  all_goals
   intro u W hb hd
   obtain⟨n0,n1,n2,n3,n4⟩:=HC.out W hb
   have HA:=Lh (HBA.out W hb)
   simp only[Kj,Jh,putAll,Act.put,Lq,Lk,Lj,Ly,Lx]
   try (have e0:u _=List.getD _ _ _:=hd.1 rfl (by decide);rw[e0])
   try simp only[List.getD_cons_zero,List.getD_cons_succ]
   go_wp2_with (first
    |(go_at_call 105;(with_reducible refine(HW0.out _).mono ?_);rintro e W2 ⟨⟨v,rfl,⟨q,rfl,hq,hvv⟩⟩,g⟩;have hv:OneWd base nRoom 3 ro _ W2:=⟨q,rfl,HA.out q hq,hvv⟩)
    |(go_at_call 105;(with_reducible refine(HW1.out _).mono ?_);rintro e W2 ⟨⟨v,rfl,⟨q,rfl,hq,hvv⟩⟩,g⟩;have hv:OneWd base nReserve 3 re _ W2:=⟨q,rfl,HA.out q hq,hvv⟩)
    |(go_at_call 99;(with_reducible refine(HW2.out _).mono ?_);rintro e W2 ⟨⟨v,rfl,⟨q,rfl,hq,hvv⟩⟩,g⟩;have hv:OneWd base nFirst 6 fi _ W2:=⟨q,rfl,HA.out q hq,hvv⟩)
    |(go_at_call 99;(with_reducible refine(HW3.out _).mono ?_);rintro e W2 ⟨⟨v,rfl,⟨q,rfl,hq,hvv⟩⟩,g⟩;have hv:OneWd base nCap 6 ca _ W2:=⟨q,rfl,HA.out q hq,hvv⟩)
    |(go_at_call 99;(with_reducible refine(HW4.out _).mono ?_);rintro e W2 ⟨⟨v,rfl,⟨q,rfl,hq,hvv⟩⟩,g⟩;have hv:OneWd base nRepeat 6 ag _ W2:=⟨q,rfl,HA.out q hq,hvv⟩))
   first|exact⟨rfl,Mj _ _⟩|exact⟨_,rfl,rfl,Mj _ _⟩|exact⟨_,rfl,rfl,Mj _ _,fun h=>by simp at h⟩|exact⟨hv,g⟩|exact⟨_,rfl,hv,g⟩|exact⟨_,rfl,hv,g,fun h=>by simp at h⟩
 ·intro u W hb hT _
  obtain⟨b0,e0,p0,v0⟩:OneWd base nRoom 3 ro (u 2) W:=hT 2 (by decide)
  obtain⟨b1,e1,p1,v1⟩:OneWd base nReserve 3 re (u 5) W:=hT 5 (by decide)
  obtain⟨b2,e2,p2,v2⟩:OneWd base nFirst 6 fi (u 8) W:=hT 8 (by decide)
  obtain⟨b3,e3,p3,v3⟩:OneWd base nCap 6 ca (u 11) W:=hT 11 (by decide)
  obtain⟨b4,e4,p4,v4⟩:OneWd base nRepeat 6 ag (u 14) W:=hT 14 (by decide)
  obtain⟨kb,W2,hkb,hW2,VK,b2,z2⟩:=boxL W [.string nRoom, .slice (some ⟨b0,0,none⟩) 1 1, .bool false, .slice none 0 0, .int .i64 0, .int .i64 0, .string nReserve, .slice (some ⟨b1,0,none⟩) 1 1, .bool false, .slice none 0 0, .int .i64 0, .int .i64 0, .string nFirst, .slice (some ⟨b2,0,none⟩) 1 1, .bool false, .slice none 0 0, .int .i64 0, .int .i64 0, .string nCap, .slice (some ⟨b3,0,none⟩) 1 1, .bool false, .slice none 0 0, .int .i64 0, .int .i64 0, .string nRepeat, .slice (some ⟨b4,0,none⟩) 1 1, .bool false, .slice none 0 0, .int .i64 0, .int .i64 0] 47
  have HBW:=Lh hb
  have HVK:=Lh VK
  have HB2:=Lh b2
  have HKB:Hid (W.heap.size≤kb):=Lh (by omega)
  have HU0:=Lh (And.intro p0 v0)
  have HU1:=Lh (And.intro p1 v1)
  have HU2:=Lh (And.intro p2 v2)
  have HU3:=Lh (And.intro p3 v3)
  have HU4:=Lh (And.intro p4 v4)
  clear hb hT VK b2 z2 p0 v0 p1 v1 p2 v2 p3 v3 p4 v4
  simp only[Kj,Jh,Jj,Jk,putAll,Act.put,Lq,Lk,Lj,Ly,Lx]
  rw[e0,e1,e2,e3,e4]
  go_wp2_with (go_at_call 104;(with_reducible refine(block_any nNotify none (some ⟨kb,0,none⟩) 0 0 5 5 _).mono ?_);rintro e W4 ⟨rfl,h4⟩;have HB4:=Lh h4;clear h4;have V4:=Lh (((HV1.out.after HBW.out).after HB2.out).after HB4.out);have c0:=V4.out.c 0 rfl;have q0:=V4.out.q 0 rfl;have c1:=V4.out.c 1 rfl;have q1:=V4.out.q 1 rfl;have c2:=V4.out.c 2 rfl;have q2:=V4.out.q 2 rfl;have c3:=V4.out.c 3 rfl;have q3:=V4.out.q 3 rfl;have c4:=V4.out.c 4 rfl;have q4:=V4.out.q 4 rfl;have c5:=V4.out.c 5 rfl;have q5:=V4.out.q 5 rfl;obtain⟨W5,hW5⟩: ∃W5,putL g 0 [.string nNotify, .slice none 0 0, .bool true, .slice (some ⟨kb,0,none⟩) 5 5, .int .i64 0, .int .i64 0] W4=W5:=⟨_,rfl⟩;have HV5:Hid (VarL W5 g [.string nNotify, .slice none 0 0, .bool true, .slice (some ⟨kb,0,none⟩) 5 5, .int .i64 0, .int .i64 0]):=Lh (by rw[←hW5];exact putL_var [.string nNotify, .slice none 0 0, .bool true, .slice (some ⟨kb,0,none⟩) 5 5, .int .i64 0, .int .i64 0] [] [.string ⟨#[]⟩, .slice none 0 0, .bool false, .slice none 0 0, .int .i64 0, .int .i64 0] W4 V4.out rfl);have HB5:Hid (Below w.heap.size w W5):=Lh (by rw[←hW5];exact putL_below _ HBS.out.2.1 _ _ (below_step HB1.out (below_step HBW.out (below_step HB2.out HB4.out))));have HK5:Hid (∀b,b≠g→W5.heap[b]?=W4.heap[b]?):=Lh (by rw[←hW5];exact fun b hb=>putL_else _ _ _ _ _ hb);have HZ5:Hid (W5.heap.size=W4.heap.size):=Lh (by rw[←hW5];exact putL_size _ _ _ _);simp only[putL,Ly]at hW5)
  refine bodyPost_ret (itmc_results rfl rfl HV5.out rfl) rfl ?_
  have hbs:=HBS.out
  have hs1:=HBW.out.size
  have hs2:=HB2.out.size
  have hs4:=HB4.out.size
  have hz5:=HZ5.out
  have hkb':=HKB.out
  have kS: ∀b,base≤b→b<W4.heap.size→w.heap.size≤b∧b<W5.heap.size:=fun b h1 h2=>⟨by omega,by omega⟩
  have VK5:=(HVK.out.after HB4.out).stay (HK5.out kb (by omega))
  have wd: ∀(b:Nat) k n,base≤b→VarL W b (tokL k ⟨#[]⟩ n)→WordsIs W5 (fun b=>w.heap.size≤b∧b<W5.heap.size) (.slice (some ⟨b,0,none⟩) 1 1) [wrdN k n]:=fun b k n h1 h2=>by
   have h3:=(h2.after HB2.out).after HB4.out
   exact word_one (h3.stay (HK5.out b (by omega))) (kS b h1 h3.s)
  refine⟨⟨_,rfl,items_of [[.string nRoom, .slice (some ⟨b0,0,none⟩) 1 1, .bool false, .slice none 0 0, .int .i64 0, .int .i64 0],[.string nReserve, .slice (some ⟨b1,0,none⟩) 1 1, .bool false, .slice none 0 0, .int .i64 0, .int .i64 0],[.string nFirst, .slice (some ⟨b2,0,none⟩) 1 1, .bool false, .slice none 0 0, .int .i64 0, .int .i64 0],[.string nCap, .slice (some ⟨b3,0,none⟩) 1 1, .bool false, .slice none 0 0, .int .i64 0, .int .i64 0],[.string nRepeat, .slice (some ⟨b4,0,none⟩) 1 1, .bool false, .slice none 0 0, .int .i64 0, .int .i64 0]] [lnI nRoom [wrdN 3 ro],lnI nReserve [wrdN 3 re],spI nFirst fi,spI nCap ca,spI nRepeat ag] rfl (by simp) (kS kb (by omega) ((HVK.out.after HB4.out).s)) (fun i j u y hu hy=>?_) (fun i u x hu hx=>?_)⟩,HB5.out⟩
  ·have hj:j<6:=by
    have:=List.mem_of_getElem? hu
    have h6:u.length=6:=by simp only[List.mem_cons,List.not_mem_nil,or_false]at this;rcases this with rfl|rfl|rfl|rfl|rfl<;>rfl
    rw[←h6];exact(List.getElem?_eq_some_iff.1 hy).1
   have hi:i<5:=(List.getElem?_eq_some_iff.1 hu).1
   refine VK5.c (i*6+j) ?_
   rcases(show i=0∨i=1∨i=2∨i=3∨i=4 by omega)with rfl|rfl|rfl|rfl|rfl
   all_goals
    injection hu with hu
    subst hu
    rcases(show j=0∨j=1∨j=2∨j=3∨j=4∨j=5 by omega)with rfl|rfl|rfl|rfl|rfl|rfl
    all_goals exact hy
  ·have hi:i<5:=(List.getElem?_eq_some_iff.1 hu).1
   rcases(show i=0∨i=1∨i=2∨i=3∨i=4 by omega)with rfl|rfl|rfl|rfl|rfl
   all_goals
    injection hu with hu
    injection hx with hx
    subst hu hx
   ·exact⟨_,_,rfl,wd b0 _ _ HU0.out.1 HU0.out.2,items_nil _ _ _⟩
   ·exact⟨_,_,rfl,wd b1 _ _ HU1.out.1 HU1.out.2,items_nil _ _ _⟩
   ·exact⟨_,_,rfl,wd b2 _ _ HU2.out.1 HU2.out.2,items_nil _ _ _⟩
   ·exact⟨_,_,rfl,wd b3 _ _ HU3.out.1 HU3.out.2,items_nil _ _ _⟩
   ·exact⟨_,_,rfl,wd b4 _ _ HU4.out.1 HU4.out.2,items_nil _ _ _⟩
end
section
open Go.RowKit
theorem made_capK {T t:TypeId} {z:Value} {sz bts:Nat} (hT:Tryz.prog.underlying T=some (.slice t)) (hinf:(Tryz.prog.info? t).map (fun i=>(i.zero,i.size,i.bytes))=some (some z,sz,bts)) (hbt:bts≤128)
  (w:World) (n:Nat) (hn:n≤1000000): ∃w',(Instr.makeSlice T (.int .i64 0) (.int .i64 (n:Int))).run Tryz.prog w= .ok (.slice (some ⟨w.heap.size,0,none⟩) 0 n) w'∧RowK t sz w' w.heap.size (.slice (some ⟨w.heap.size,0,none⟩) 0 n) []∧Below w.heap.size w w':=by
 obtain⟨i0,hi,hz0,hz1,hz2⟩:=info_parts hinf
 have hb:i0.bytes*n≤281474976710656:=by
  have:i0.bytes*n≤128*1000000:=Nat.mul_le_mul (by omega) hn
  omega
 obtain⟨w1,hr,hO,hg⟩:=run_make_own (P:=Tryz.prog) w w.heap.size T t i0 z sz hT hi hz0 hz1 .i64 .i64 n hb (by unfold maxLen;omega) (Mz _)
 exact⟨w1,hr,⟨hO,fun u hu=>(by cases hu),fun u hu=>(by cases hu)⟩,(Mj _ _).grown hg (Mz _) (fun b hk=>by cases hk)⟩
theorem witems_none (ro re fi ca ag:Int) (w:World) (env:Env w) (hok:ConfOk ⟨[],ro,re,fi,ca,ag⟩):
  Calls Tryz.prog 25 #[.agg #[.slice none 0 0, .int .i64 ro, .int .i64 re, .int .i64 fi, .int .i64 ca, .int .i64 ag]] w fun e w'=>(∃a cap,e= .returned (.tuple #[.slice a 1 cap, .int .i64 0])∧ItemsIs 3 w' (fun b=>w.heap.size≤b∧b<w'.heap.size) (.slice a 1 cap) [notI ⟨[],ro,re,fi,ca,ag⟩])∧Below w.heap.size w w':=by
 obtain⟨gb,W1,hg,hW1,V1,b1,z1⟩:=boxL w [.slice none 0 0, .int .i64 ro, .int .i64 re, .int .i64 fi, .int .i64 ca, .int .i64 ag] 27
 have HR:=Lh (GivesQ.is (q:=true) ⟨fun _=>hok,fun _=>rfl⟩ (wright_any ⟨[],ro,re,fi,ca,ag⟩ (.agg #[.slice none 0 0, .int .i64 ro, .int .i64 re, .int .i64 fi, .int .i64 ca, .int .i64 ag]) W1 (env.step b1) ⟨.slice none 0 0,rfl,[],⟨none,0,rfl,Mz _,fun i u hu=>by cases hu⟩,rfl,fun i u g hu=>by cases hu⟩ ⟨fun g hg=>(by cases hg),by simp⟩))
 have r1:=hok.r1;have r2:=hok.r2;have r3:=hok.v1;have r4:=hok.v2;have r5:=hok.f1;have r6:=hok.f2;have r7:=hok.c1;have r8:=hok.c2;have r9:=hok.a1;have r0:=hok.a2
 simp only at r1 r2 r3 r4 r5 r6 r7 r8 r9 r0
 have HNT:=Lh (fun W=>wnotify_any ro re fi ca ag W ⟨by omega,by omega,by omega,by omega,by omega⟩ ⟨by omega,by omega,by omega,by omega,by omega⟩)
 have HV:=Lh V1
 have HB:=Lh b1
 have c0:=V1.c 0 rfl
 have c1:=V1.c 1 rfl
 have c2:=V1.c 2 rfl
 have c3:=V1.c 3 rfl
 have c4:=V1.c 4 rfl
 have c5:=V1.c 5 rfl
 clear env hok b1 z1 V1 r1 r2 r3 r4 r5 r6 r7 r8 r9 r0
 go_enter Tryz.func25,Tryz.ntmps25
 go_wp2_with (go_at_call 26;(with_reducible refine(HR.out).mono ?_);rintro e W2 ⟨rfl,h⟩;have DD:=Lh h;clear h;have d0:=(HV.out.after DD.out).c 0 rfl;obtain⟨W3,hmk,hrow,hb3⟩:=made_capK (T:=34) (t:=47) (sz:=6) Tryz.underlying34 info_item (by decide) W2 1 (by decide);obtain⟨sb,hsb⟩: ∃b,W2.heap.size=b:=⟨_,rfl⟩;have hmk0:(Instr.makeSlice 34 (.int .i64 0) (.int .i64 1)).run Tryz.prog W2= .ok (.slice (some ⟨sb,0,none⟩) 0 1) W3:=(by rw[←hsb];exact hmk);rw[hsb]at hrow;have HROW:=Lh hrow;have HSB:=Lh hsb;have D3:=Lh (below_step DD.out hb3);clear hmk hrow hb3 hsb;have f0:=(HV.out.after D3.out).c 0 rfl)
 clear c0 c1 c2 c3 c4 c5
 go_loopw [4,18] (fun v4 v18 wr=>v4= .slice (some ⟨sb,0,none⟩) 0 1∧v18= .int .i64 0∧wr=W3) (fun _ _ _=>0)
 case atStart=>exact⟨rfl,rfl,rfl⟩
 case round=>
  obtain⟨rfl,rfl,rfl⟩:=hrel
  have f1:=(HV.out.after D3.out).c 1 rfl
  have f2:=(HV.out.after D3.out).c 2 rfl
  have f3:=(HV.out.after D3.out).c 3 rfl
  have f4:=(HV.out.after D3.out).c 4 rfl
  have f5:=(HV.out.after D3.out).c 5 rfl
  go_wp2_with (first|(go_at_call 50;(with_reducible refine(HNT.out _).mono ?_);rintro e W4 ⟨⟨kv,rfl,hkv⟩,h⟩;have D4:=Lh h;have HKV:=Lh hkv;clear h hkv;obtain⟨ka,kc,rfl⟩:=HKV.out.size;obtain⟨kn,hkn⟩: ∃n,[lnI nRoom [wrdN 3 ro],lnI nReserve [wrdN 3 re],spI nFirst fi,spI nCap ca,spI nRepeat ag].length=n:=⟨_,rfl⟩;rw[hkn]at HKV;rw[hkn];clear hkn;obtain⟨ib,W5,hib,hW5,V5,b5,z5⟩:=boxL W4 [.string nNotify, .slice none 0 0, .bool true, .slice ka kn kc, .int .i64 0, .int .i64 0] 47;have D5:=Lh b5;have HV5:=Lh V5;have HIB:Hid (W4.heap.size≤ib):=Lh (by omega);clear V5 b5 z5)|(at_builtin;(refine wp_rowK (T:=34) (t:=47) (sz:=6) rfl _ _ rfl Tryz.underlying34 info_item rfl (by decide) (by decide) sb _ [] rfl (HROW.out.below (below_step D4.out D5.out)) ib [.string nNotify, .slice none 0 0, .bool true, .slice ka kn kc, .int .i64 0, .int .i64 0] rfl rfl (fun j hj=>by rcases(show j=0∨j=1∨j=2∨j=3∨j=4∨j=5 by omega)with rfl|rfl|rfl|rfl|rfl|rfl;exact HV5.out.c 0 rfl;exact HV5.out.c 1 rfl;exact HV5.out.c 2 rfl;exact HV5.out.c 3 rfl;exact HV5.out.c 4 rfl;exact HV5.out.c 5 rfl) (fun u hu=>by simp only[List.mem_cons,List.not_mem_nil,or_false]at hu;rcases hu with rfl|rfl|rfl|rfl|rfl|rfl<;>rfl) (by simp) (by have:=D5.out.size;have:=D4.out.size;have:=HROW.out.lt (b:=sb) rfl;omega) ?_)))
  intro v' w' hr' ho' hob'
  have HRW:=Lh hr'
  have HO:=Lh ho'
  clear hr' ho' hob'
  go_wp2
  go_ret2
  have s1:=HB.out.size
  have s2:=DD.out.size
  have s3:=HROW.out.lt (b:=sb) rfl
  have s4:=D4.out.size
  have s5:=D5.out.size
  have s6:=HO.out.size
  have s7:=HSB.out
  have hbw:Below w.heap.size w w':=below_step HB.out (below_step D3.out (below_step D4.out D5.out))|>.trans (HO.out.bel.mono (by omega))
  obtain⟨g,cap,rfl,g1,g2,g3⟩:=HRW.out.form (by simp)
  refine⟨⟨_,_,rfl,items_of [[.string nNotify, .slice none 0 0, .bool true, .slice ka kn kc, .int .i64 0, .int .i64 0]] [notI ⟨[],ro,re,fi,ca,ag⟩] rfl g3 ⟨by omega,g2⟩ (fun i j u y hu hy=>?_) (fun i u x hu hx=>?_)⟩,hbw⟩
  ·have hi:i<1:=(List.getElem?_eq_some_iff.1 hu).1
   obtain rfl:i=0:=by omega
   injection hu with hu
   subst hu
   have hj:j<6:=(List.getElem?_eq_some_iff.1 hy).1
   have:=HRW.out.at 0 j (by simp) hj
   refine this.trans ?_
   show some (List.getD [.string nNotify, .slice none 0 0, .bool true, .slice ka kn kc, .int .i64 0, .int .i64 0] j undef)=some y
   rw[Mk,hy]
   rfl
  ·have hi:i<1:=(List.getElem?_eq_some_iff.1 hu).1
   obtain rfl:i=0:=by omega
   injection hu with hu
   injection hx with hx
   subst hu hx
   refine⟨_,_,rfl,words_nil _ _,ItemsIs.keep HKV.out (fun b hb=>⟨by omega,by omega⟩) (fun b hb=>?_)⟩
   have hne:b≠sb:=by omega
   exact(HO.out.keep b (by omega) (fun e=>hne (Option.some.inj e))).trans (D5.out.block b hb.2)
theorem shw_awake (w:World) (env:EnvQ w):Calls Tryz.prog 22 #[] w fun e w'=>e= .returned (.bool true)∧Below w.heap.size w w':=by
 have HI:=Lh (fun W (b:Below w.heap.size w W)=>witems_none 16 0 10 300 0 W (env.step b).lo exSh_ok)
 obtain⟨hr,hn,hl⟩:=conf_all exSh_ok
 have HPL:Hid (∀W S v,Below w.heap.size w W→ItemsIs 3 W S v (confI exSh)→(∀b,S b→b<W.heap.size)→Calls Tryz.prog 48 #[v] W fun e w'=>e= .returned (.tuple #[.string ⟨#[110,111,116,105,102,121,32,123,10,32,32,114,111,111,109,32,49,54,59,10,32,32,114,101,115,101,114,118,101,32,48,59,10,32,32,102,105,114,115,116,32,49,48,115,59,10,32,32,99,97,112,32,53,109,59,10,32,32,114,101,112,101,97,116,32,48,115,59,10,125,10]⟩, .int .i64 0])∧Below W.heap.size W w'):=Lh (fun W S v hb hi hS=>by
  rw[←exSh_print]
  exact lprint_yes 3 S v (confI exSh) W (env.step hb) hi hS (by have:=hr.many;omega) (by have:=hr.deep;omega) hl hn hr)
 have HP:Hid (∀W,Below w.heap.size w W→Calls Tryz.prog 24 #[.agg #[.slice none 0 0, .int .i64 16, .int .i64 0, .int .i64 10, .int .i64 300, .int .i64 0]] W fun e w'=>e= .returned (.tuple #[.string ⟨#[110,111,116,105,102,121,32,123,10,32,32,114,111,111,109,32,49,54,59,10,32,32,114,101,115,101,114,118,101,32,48,59,10,32,32,102,105,114,115,116,32,49,48,115,59,10,32,32,99,97,112,32,53,109,59,10,32,32,114,101,112,101,97,116,32,48,115,59,10,125,10]⟩, .int .i64 0])∧Below W.heap.size W w'):=Lh (fun W hb=>by
  obtain⟨gb,W1,hg,hW1,V1,b1,z1⟩:=boxL W [.slice none 0 0, .int .i64 16, .int .i64 0, .int .i64 10, .int .i64 300, .int .i64 0] 27
  have HI1:=Lh (HI.out W1 (below_step hb b1))
  have HB1:=Lh b1
  have HBW:=Lh (below_step hb b1)
  have c0:=V1.c 0 rfl
  have c1:=V1.c 1 rfl
  have c2:=V1.c 2 rfl
  have c3:=V1.c 3 rfl
  have c4:=V1.c 4 rfl
  have c5:=V1.c 5 rfl
  clear b1 z1 V1 hb
  go_enter Tryz.func24,Tryz.ntmps24
  go_wp2_with (first
   |(go_at_call 25;(with_reducible refine(HI1.out).mono ?_);rintro e W2 ⟨⟨va,vc,rfl,hv⟩,h⟩;have D2:=Lh h;have HL:=Lh (HPL.out W2 _ _ (below_step HBW.out D2.out) hv (fun b hb=>hb.2));clear h hv)
   |(go_at_call 48;(with_reducible refine(HL.out).mono ?_);rintro e W3 ⟨rfl,h⟩;have D3:=Lh (below_step D2.out h);clear h))
  go_ret2
  exact⟨rfl,below_step HB1.out D3.out⟩)
 clear env hr hn hl
 go_enter Tryz.func22,Tryz.ntmps22
 go_wp2_with (go_at_call 24;(with_reducible refine(HP.out _ (by first|exact Mj _ _|exact DDA.out)).mono ?_);rintro e W2 ⟨rfl,h⟩;have DD:=Lh h;clear h)
 go_ret
 exact⟨rfl,DD.out⟩
end
section
open Go.RowKit
theorem shwgoals_walk (g:GlC) (r:RlC) (gr:Int) (v0 v1:Value) (w:World) (env:EnvQ w) (a0: ∃u,v0= .agg u.toArray∧GolI w u g) (a1:v1= .agg (rulV r).toArray):Calls Tryz.prog 8 #[v0,v1, .int .i64 gr] w fun e w'=>e= .returned (.bool true)∧Below w.heap.size w w':=by
 obtain⟨u,rfl,hu⟩:=a0
 subst a1
 obtain⟨p,hp⟩:=shq_of (GoalOk g)
 obtain⟨q,hq⟩:=shq_of (RuleOk gr r)
 obtain⟨gb,W0,hg,hW0,V0,b0,z0⟩:=boxL w u 54
 obtain⟨rb,W1,hr,hW1,V1,b1,z1⟩:=boxL W0 (rulV r) 66
 have hb1:=below_step b0 b1
 have HAW:=Lh (shw_awake W1 (env.step hb1))
 have HHG:=Lh (fun W (b:Below w.heap.size w W)=>rhg_any g u W (hu.below b))
 have H1:=Lh (fun(hs:LightG g) W (b:Below w.heap.size w W)=>GivesQ.is hp (wgol_any g u W (env.step b).lo (hu.below b) hs.gols))
 have H2:=Lh (fun(hs:LightG g) W (b:Below w.heap.size w W)=>GivesQ.is hp (rgl_any g u W (hu.below b) hs.gols))
 have H3:=Lh (fun(hs:r.name.size≤2000) W (b:Below w.heap.size w W)=>GivesQ.is hq (wrul_any r gr W (env.step b).lo (by omega)))
 have H4:=Lh (fun(hs:r.name.size≤2000) W=>GivesQ.is hq (rrl_any r gr W (by omega)))
 have V0:=V0.after b1
 obtain⟨lv,rv,rfl,i1,i2⟩:=hu
 obtain⟨la1,lc1,rfl,_⟩:=i1.size
 obtain⟨ra1,rc1,rfl,_⟩:=i2.size
 obtain⟨n,hn⟩: ∃n,(g.labels.map labV).length=n:=⟨_,rfl⟩
 obtain⟨m,hm⟩: ∃n,(g.rules.map rulV).length=n:=⟨_,rfl⟩
 rw[hn,hm]at hW0 HHG H1 H2 V0 ⊢
 simp only[golL]at hW0 HHG H1 H2 V0 ⊢
 simp only[rulV]at hW1 H3 H4 V1 ⊢
 have HL:=Lh (fun x:LightG g=>x)
 obtain⟨nm,tg,gn,la,ro,ca,L,R⟩:=g
 simp only at hW0 HHG H1 H2 V0 ⊢
 have HV0:=Lh V0
 have HV1:=Lh V1
 have HB:=Lh hb1
 have hpp:(p==p)=true:=by simp
 have hqq:(q==q)=true:=by simp
 clear hp hq b0 b1 z0 z1 V0 V1 hb1 env i1 i2 hn hm
 by_cases hr2:(2000:Int)<(r.name.size:Int)
 ·go_enter Tryz.func8,Tryz.ntmps8
  go_wp2_with (first
   |(go_at_call 22;(with_reducible refine(HAW.out).mono ?_);rintro e W2 ⟨rfl,h⟩;have DD:=Lh h;clear h;have x0:=(HV0.out.after DD.out).c 0 rfl;have x1:=(HV0.out.after DD.out).c 1 rfl;have x2:=(HV0.out.after DD.out).c 2 rfl;have x3:=(HV0.out.after DD.out).c 3 rfl;have x4:=(HV0.out.after DD.out).c 4 rfl;have x5:=(HV0.out.after DD.out).c 5 rfl;have x6:=(HV0.out.after DD.out).c 6 rfl;have x7:=(HV0.out.after DD.out).c 7 rfl;have y0:=(HV1.out.after DD.out).c 0 rfl;have y1:=(HV1.out.after DD.out).c 1 rfl;have y2:=(HV1.out.after DD.out).c 2 rfl;have y3:=(HV1.out.after DD.out).c 3 rfl;have y4:=(HV1.out.after DD.out).c 4 rfl;have y5:=(HV1.out.after DD.out).c 5 rfl;have y6:=(HV1.out.after DD.out).c 6 rfl;have HX:=Lh (HHG.out W2 (below_step HB.out DD.out)))
   |(go_at_call 31;(with_reducible refine(HX.out).mono ?_);rintro e W3 ⟨⟨q2,rfl,hq2⟩,h⟩;have D3:=Lh (below_step DD.out h);have d0:=(HV1.out.after D3.out).c 0 rfl;clear h hq2;cases q2))
  all_goals
   go_ret
   exact⟨rfl,below_step HB.out D3.out⟩
 ·have HR2:Hid (r.name.size≤2000):=Lh (by omega)
  go_enter Tryz.func8,Tryz.ntmps8
  go_wp2_with (first
   |(go_at_call 22;(with_reducible refine(HAW.out).mono ?_);rintro e W2 ⟨rfl,h⟩;have DD:=Lh h;clear h;have x0:=(HV0.out.after DD.out).c 0 rfl;have x1:=(HV0.out.after DD.out).c 1 rfl;have x2:=(HV0.out.after DD.out).c 2 rfl;have x3:=(HV0.out.after DD.out).c 3 rfl;have x4:=(HV0.out.after DD.out).c 4 rfl;have x5:=(HV0.out.after DD.out).c 5 rfl;have x6:=(HV0.out.after DD.out).c 6 rfl;have x7:=(HV0.out.after DD.out).c 7 rfl;have y0:=(HV1.out.after DD.out).c 0 rfl;have y1:=(HV1.out.after DD.out).c 1 rfl;have y2:=(HV1.out.after DD.out).c 2 rfl;have y3:=(HV1.out.after DD.out).c 3 rfl;have y4:=(HV1.out.after DD.out).c 4 rfl;have y5:=(HV1.out.after DD.out).c 5 rfl;have y6:=(HV1.out.after DD.out).c 6 rfl;have HX:=Lh (HHG.out W2 (below_step HB.out DD.out)))
   |(go_at_call 31;(with_reducible refine(HX.out).mono ?_);rintro e W3 ⟨⟨q2,rfl,hq2⟩,h⟩;have D3:=Lh (below_step DD.out h);have HQ2:=Lh hq2;have d0:=(HV1.out.after D3.out).c 0 rfl;clear h hq2;cases q2))
  ·have HLG:=Lh (HL.out (HQ2.out (by trivial)))
   have HC:Hid (∀W,Below W3.heap.size W3 W→(W.cell? ⟨gb,0,none⟩=some (.string nm)∧W.cell? ⟨gb,1,none⟩=some (.int .u32 tg)∧W.cell? ⟨gb,2,none⟩=some (.int .i64 gn)∧W.cell? ⟨gb,3,none⟩=some (.int .i64 la)∧W.cell? ⟨gb,4,none⟩=some (.int .i64 ro)∧W.cell? ⟨gb,5,none⟩=some (.int .i64 ca)∧W.cell? ⟨gb,6,none⟩=some (.slice la1 n lc1)∧W.cell? ⟨gb,7,none⟩=some (.slice ra1 m rc1))∧W.cell? ⟨rb,0,none⟩=some (.string r.name)∧W.cell? ⟨rb,1,none⟩=some (.bool r.page)∧W.cell? ⟨rb,2,none⟩=some (.int .i64 r.long)∧W.cell? ⟨rb,3,none⟩=some (.int .i64 r.short)∧W.cell? ⟨rb,4,none⟩=some (.int .u64 r.factor)∧W.cell? ⟨rb,5,none⟩=some (.int .i64 r.hold)∧W.cell? ⟨rb,6,none⟩=some (.int .i64 r.keep)):=Lh (fun W b=>⟨⟨(HV0.out.after (below_step D3.out b)).c 0 rfl,(HV0.out.after (below_step D3.out b)).c 1 rfl,(HV0.out.after (below_step D3.out b)).c 2 rfl,(HV0.out.after (below_step D3.out b)).c 3 rfl,(HV0.out.after (below_step D3.out b)).c 4 rfl,(HV0.out.after (below_step D3.out b)).c 5 rfl,(HV0.out.after (below_step D3.out b)).c 6 rfl,(HV0.out.after (below_step D3.out b)).c 7 rfl⟩,(HV1.out.after (below_step D3.out b)).c 0 rfl,(HV1.out.after (below_step D3.out b)).c 1 rfl,(HV1.out.after (below_step D3.out b)).c 2 rfl,(HV1.out.after (below_step D3.out b)).c 3 rfl,(HV1.out.after (below_step D3.out b)).c 4 rfl,(HV1.out.after (below_step D3.out b)).c 5 rfl,(HV1.out.after (below_step D3.out b)).c 6 rfl⟩)
   have HBW:=Lh (below_step HB.out D3.out)
   clear d0 x0 x1 x2 x3 x4 x5 x6 x7 y0 y1 y2 y3 y4 y5 y6 hr2
   refine wp_region_mix 14 (TVs [.agg #[.string nm, .int .u32 tg, .int .i64 gn, .int .i64 la, .int .i64 ro, .int .i64 ca, .slice la1 n lc1, .slice ra1 m rc1], .bool p, .agg #[.string nm, .int .u32 tg, .int .i64 gn, .int .i64 la, .int .i64 ro, .int .i64 ca, .slice la1 n lc1, .slice ra1 m rc1], .bool p, .bool true, .bool true, .agg #[.string r.name, .bool r.page, .int .i64 r.long, .int .i64 r.short, .int .u64 r.factor, .int .i64 r.hold, .int .i64 r.keep], .int .i64 gr, .bool q, .agg #[.string r.name, .bool r.page, .int .i64 r.long, .int .i64 r.short, .int .u64 r.factor, .int .i64 r.hold, .int .i64 r.keep], .int .i64 gr, .bool q, .bool true, .bool true]) (fun _=>false) (by kernel_rfl) (by kernel_rfl) (TVs.keep _) (fun _ _ _ h=>by cases h) ?_ ?_
   ·refine⟨?_,?_,?_,?_,?_,?_,?_,?_,?_,?_,?_,?_,?_,?_,trivial⟩
    all_goals
     intro u W hb hd
     have⟨⟨g0,g1,g2,g3,g4,g5,g6,g7⟩,r0,r1,r2,r3,r4,r5,r6⟩:=HC.out W hb
     have HW:=Lh (below_step HBW.out hb)
     simp only[Kj,Jh,putAll,Act.put,Lq,Lk,Lj,Ly,Lx]
     try (have e0:u _=List.getD _ _ _:=hd.1 rfl (by decide);rw[e0])
     try (have e1:u _=List.getD _ _ _:=hd.2.1 rfl (by decide);rw[e1])
     try (have e2:u _=List.getD _ _ _:=hd.2.2.1 rfl (by decide);rw[e2])
     try (have e3:u _=List.getD _ _ _:=hd.2.2.2.1 rfl (by decide);rw[e3])
     try simp only[List.getD_cons_zero,List.getD_cons_succ]
     go_wp2_with (first
      |(go_at_call 32;(with_reducible refine(H1.out HLG.out W HW.out).mono ?_);rintro e W2 ⟨rfl,g⟩)
      |(go_at_call 33;(with_reducible refine(H2.out HLG.out W HW.out).mono ?_);rintro e W2 ⟨rfl,g⟩)
      |(go_at_call 34;(with_reducible refine(H3.out HR2.out W HW.out).mono ?_);rintro e W2 ⟨rfl,g⟩)
      |(go_at_call 35;(with_reducible refine(H4.out HR2.out W).mono ?_);rintro e W2 ⟨rfl,g⟩))
     first|exact⟨rfl,Mj _ _⟩|exact⟨_,rfl,rfl,Mj _ _⟩|exact⟨_,rfl,rfl,Mj _ _,fun h=>by simp at h⟩|exact⟨rfl,g⟩|exact⟨_,rfl,rfl,g⟩|exact⟨_,rfl,rfl,g,fun h=>by simp at h⟩
   ·intro u W hb hT _
    have e13:u 13= .bool true:=hT 13 (by decide)
    have HE:=Lh (below_step HBW.out hb)
    clear hb hT
    simp only[Kj,Jh,Jj,Jk,putAll,Act.put,Lq,Lk,Lj,Ly,Lx]
    rw[e13]
    go_wp2
    go_ret
    exact⟨rfl,HE.out⟩
  ·go_ret
   exact⟨rfl,below_step HB.out D3.out⟩
end
section
open Go.ChangeShapes Go.WideShapes Go.ChangeAt Go.RowKit Go.Joins
theorem shwgoals_own:ownKnob Tryz.prog.godebug=none:=by kernel_rfl
theorem shwgoals_laidOut:laidOutB Tryz.prog=true:=by kernel_rfl
theorem shwgoals_lifted (os:Os) (started:os.Started) (H:Type) (enc:TypeId×Value→H):
  ReturnsInHanded {} Tryz.checked os 8 .any (fun w args=>(Rows.showGoalsSpec.pre enc Tryz.prog Tryz.f8 Rows.showGoalsRow.domain false w args∧laidMetH Tryz.prog Rows.showGoalsRow.laid w)∧sizedMet enc Tryz.prog Tryz.f8 (OpenSpec.ofChange Rows.showGoalsSpec) false w args) (Rows.showGoalsSpec.post enc Tryz.prog Tryz.f8 false true false false):=by
 refine returnsInHanded_of_change_and (C:=Tryz.checked) (X:=fun w _=>laidMetH Tryz.prog Rows.showGoalsRow.laid w) (fun _ _ _ hh h=>h.of_heap hh) shwgoals_own started (by kernel_rfl) Tryz.func8
  (ChangeSpec.witness_shaped (enc:=enc) (C:=Tryz.checked) (os:=os) (X:=fun w _=>laidMetH Tryz.prog Rows.showGoalsRow.laid w) false (World.laidAll Tryz.prog os Rows.showGoalsRow.laid) #[.agg #[.string ⟨#[]⟩, .int .u32 0, .int .i64 0, .int .i64 0, .int .i64 0, .int .i64 0, .slice none 0 0, .slice none 0 0], .agg #[.string ⟨#[]⟩, .bool false, .int .i64 0, .int .i64 0, .int .u64 0, .int .i64 0, .int .i64 0], .int .i64 0] 8 (World.laidAll_os _ _ _)
   (World.shaped_of_ZipB (by kernel_rfl) (by kernel_rfl)) (by kernel_rfl) (by kernel_rfl) (by kernel_rfl)
   (by rw[MakeChecks.laidMetH_plain _ _ _ (by kernel_rfl)];exact laidMet_laidAll _ (by kernel_rfl) (by kernel_rfl))) ?_
 intro W base args ds gs before hval0 hW _ _ hlaid _
 have hlaid2:laidMetH Tryz.prog Rows.showGoalsRow.laid W:=hlaid
 rw[MakeChecks.laidMetH_plain _ _ _ (by kernel_rfl)]at hlaid2
 have htab:EnvQ W:=⟨deb_of_laid hlaid2 (by first|exact List.mem_of_getElem? (i:=1) (by kernel_rfl)|exact List.mem_of_getElem? (i:=0) (by kernel_rfl)|exact List.mem_of_getElem? (i:=2) (by kernel_rfl)|exact List.mem_of_getElem? (i:=3) (by kernel_rfl)|exact List.mem_of_getElem? (i:=4) (by kernel_rfl)),utf_of_laid hlaid2 (by first|exact List.mem_of_getElem? (i:=4) (by kernel_rfl)|exact List.mem_of_getElem? (i:=3) (by kernel_rfl)|exact List.mem_of_getElem? (i:=2) (by kernel_rfl)|exact List.mem_of_getElem? (i:=1) (by kernel_rfl)|exact List.mem_of_getElem? (i:=0) (by kernel_rfl)) (by first|exact List.mem_of_getElem? (i:=3) (by kernel_rfl)|exact List.mem_of_getElem? (i:=4) (by kernel_rfl)|exact List.mem_of_getElem? (i:=2) (by kernel_rfl)|exact List.mem_of_getElem? (i:=1) (by kernel_rfl)|exact List.mem_of_getElem? (i:=0) (by kernel_rfl)),tab_of_laid hlaid2 (by first|exact List.mem_of_getElem? (i:=2) (by kernel_rfl)|exact List.mem_of_getElem? (i:=0) (by kernel_rfl)|exact List.mem_of_getElem? (i:=1) (by kernel_rfl)|exact List.mem_of_getElem? (i:=3) (by kernel_rfl)|exact List.mem_of_getElem? (i:=4) (by kernel_rfl))⟩
 clear hlaid hlaid2
 have hval: ∀(j:Nat) t v,Tryz.f8.params[j]?=some t→args[j]?=some v→Value.okWide Tryz.prog W .any base t v:=hval0
 have hW':=hW
 obtain⟨p,q,hA0,hV,rfl,hfz,hnd⟩:=hW
 have hA:DataW.TrodAll enc Tryz.prog W 0 (fun _=>true) true Tryz.f8.params.toList args.toList ds p:=hA0
 rw[Tryz.params8]at hA hval
 obtain⟨v0,vs0,d0,ds0,p0,q0,hargs,rfl,rfl,h0,r0⟩:=trodAll_cons hA
 obtain⟨v1,vs1,d1,ds1,p1,q1,rfl,rfl,rfl,h1,r1⟩:=trodAll_cons r0
 obtain⟨v2,vs2,d2,ds2,p2,q2,rfl,rfl,rfl,h2,r2⟩:=trodAll_cons r1
 obtain⟨rfl,rfl,rfl⟩:=trodAll_nil r2
 obtain rfl:args= #[v0,v1,v2]:=by cases args;simp_all
 obtain⟨rfl,rfl⟩:=trodVars_none hV
 have k0:=h0
 have lt0: ∀x∈p0,x.block<W.heap.size:=by obtain⟨m,hm⟩:=k0;exact DataW.trod_lt m _ _ _ hm
 obtain⟨l0,a0,b0⟩:=open_goal (hval 0 54 v0 rfl rfl) h0
 have k1:=h1
 have lt1: ∀x∈p1,x.block<W.heap.size:=by obtain⟨m,hm⟩:=k1;exact DataW.trod_lt m _ _ _ hm
 obtain⟨l1,a1,b1⟩:=open_rule (hval 1 66 v1 rfl rfl) h1
 obtain⟨x2,rfl,rfl,rfl,w2⟩:=open_int Tryz.underlying2 (hval 2 2 v2 rfl rfl) h2
 clear hA0 hval0
 refine(shwgoals_walk l0 l1 x2 v0 v1 W htab a0 a1).mono fun e W' ⟨he,bel⟩=>?_
 subst he
 exact⟨_,rfl,_,_,_,[],_,[],hW',trodAll_mk1 (shut_bool Tryz.underlying4 _),(trodAll_cons_mk (Below.trod shwgoals_laidOut (by kernel_rfl) (of_decide_eq_true (by kernel_rfl)) k0 bel lt0) (trodAll_cons_mk (Below.trod shwgoals_laidOut (by kernel_rfl) (of_decide_eq_true (by kernel_rfl)) k1 bel lt1) (trodAll_cons_mk (shut_int Tryz.underlying2 w2) trodAll_mk0))),rfl,bel.frame _,fun h=>by cases h⟩
theorem shwgoals_closed:joinedFacts Tryz.checked.prog 8 Tryz.f8 Rows.showGoalsSpec Rows.showGoalsRow=true:=by kernel_rfl
theorem shwgoals_named:Tryz.checked.prog.funcNamed Rows.showGoalsRow.func=some 8:=by kernel_rfl
theorem shwgoals_over:Rows.showGoalsRow.holds Tryz.pinned (OpenSpec.ofChange Rows.showGoalsSpec):=
 OpenClaim.holds_of_wide 8 Tryz.f8 rfl rfl rfl rfl rfl rfl rfl ⟨rfl,rfl,rfl,rfl,rfl⟩ rfl rfl rfl rfl rfl shwgoals_named Tryz.func8 shwgoals_closed
  (of_decide_eq_true (by kernel_rfl)) (by unfold Func.isWrapper;first|(rw[if_pos (by decide+kernel)];kernel_rfl)|(rw[if_neg (by decide+kernel)];exact⟨rfl,rfl⟩))
  (fun os started H enc _=>shwgoals_lifted os started H enc)
theorem show_goals_proved:Rows.ShowGoalsCardSaid:=
 Claim7.holds_tied_plain_at .later [] Rows.showGoalsCard.laidKinds true Rows.showGoalsCard.stood.harness Rows.showGoalsCard.stood.looks shwgoals_over (fun _ h=>by cases h) (by kernel_rfl) (fun _ h=>by cases h) showGoals_row_tie rfl ⟨rfl,rfl⟩ (by kernel_rfl) rfl
  (fun f fn hf hfn=>by
   obtain rfl:f=8:=Option.some.inj ((show Tryz.prog.funcNamed "firebell/firebelllaw17.ShowGoals" =some 8 by kernel_rfl).symm.trans hf)|>.symm
   obtain rfl:fn=Tryz.f8:=(Option.some.inj (Tryz.func8.symm.trans hfn)).symm
   exact⟨by kernel_rfl,fun j t ht=>by
    rw[Tryz.params8]at ht
    have hm:t∈ [54,66,2]:=by first|simpa using Array.mem_of_getElem? ht|(have h:=Array.mem_of_getElem? ht;simp at h ⊢;omega)|(have h:=Array.mem_of_getElem? ht;simp at h ⊢;rcases h with h|h|h<;>simp[h])
    have hall:([54,66,2].all fun u=> !Tryz.prog.wantsStandIn u)=true:=by kernel_rfl
    exact(show Tryz.prog.wantsStandIn t=false by simpa using List.all_eq_true.1 hall t hm)⟩)
  (by kernel_rfl)
end
end Go.Proofs.YtiapmjkaappcfaaGreatDoor
