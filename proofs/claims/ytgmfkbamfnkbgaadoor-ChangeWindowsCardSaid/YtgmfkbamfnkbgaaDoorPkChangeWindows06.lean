/-
  Package change: what becomes of all: walked.
-/
import Derived.Test.YtgmfkbamfnkbgaaDoorPkChangeWindows05
set_option maxRecDepth 100000
set_option maxHeartbeats 16000000
namespace Go.Proofs.YtgmfkbamfnkbgaaDoor
open Lib renaming hid→Lh
open List renaming setIfInBounds_toArray→Lq,set_cons_zero→Lj,set_cons_succ→Lk,getD_eq_getElem?_getD→Mk,getElem?_eq_getElem→Kh,length_append→Kq,take_succ_cons→Kj,length_map→Ky,take_zero→Jh,drop_succ_cons→Jj,drop_zero→Jk
open Nat renaming reduceAdd→Lx,zero_add→Ly,le_trans→Kz
open Go.RowKit.Below renaming refl→Mj
section
open Go.RowKit
theorem rsame_any (v1 v2:Value) (l1 l2:List Int) (w:World) (h1:NumsAt l1 v1 w) (h2:NumsAt l2 v2 w) (s1:l1.length≤1000000):
  Calls Tryd.prog 16 #[v1,v2] w fun e w'=>e= .returned (.bool (decide (l1=l2)))∧Below w.heap.size w w':=by
 obtain⟨b1,r1⟩:=h1
 obtain⟨b2,r2⟩:=h2
 obtain⟨a1,c1,rfl⟩:=r1.size
 obtain⟨a2,c2,rfl⟩:=r2.size
 obtain⟨n,hn⟩: ∃n,(l1.map numL).length=n:=⟨_,rfl⟩
 obtain⟨m,hm⟩: ∃n,(l2.map numL).length=n:=⟨_,rfl⟩
 rw[hn]at r1 ⊢
 rw[hm]at r2 ⊢
 rw[Ky]at hn hm
 by_cases hnm:n=m
 ·subst hnm
  have R1:=Lh r1
  have R2:=Lh r2
  have HL:=Lh (And.intro hn hm)
  have hs:n≤1000000:=by omega
  clear r1 r2 s1 hn hm
  go_enter Tryd.func16,Tryd.ntmps16
  go_wp2
  go_loopw [5] (fun v5 wr=> ∃i:Nat,i≤n∧v5= .int .i64 (i:Int)∧Below w.heap.size w wr∧Hid (∀j,j<i→l1.getD j 0=l2.getD j 0)) (fun v5 _=>n-(intOf v5).toNat)
  case atStart=>exact⟨0,Nat.zero_le _,rfl,Mj _ _,Lh (fun j hj=>by omega)⟩
  case round=>
   obtain⟨i,hi,rfl,hb,HJ⟩:=hrel
   have HB:=Lh hb
   by_cases hin:i<n
   ·obtain⟨g1,d1,e1,-⟩:=R1.out.form (by rw[Ky];have:=HL.out;omega)
    simp only[Value.slice.injEq]at e1
    obtain⟨rfl,-,-⟩:=e1
    obtain⟨g2,d2,e2,-⟩:=R2.out.form (by rw[Ky];have:=HL.out;omega)
    simp only[Value.slice.injEq]at e2
    obtain⟨rfl,-,-⟩:=e2
    have HX:Hid (∀W,Below wr.heap.size wr W→W.cell? ⟨g1,i,none⟩=some (.int .i64 (l1.getD i 0))∧W.cell? ⟨g2,i,none⟩=some (.int .i64 (l2.getD i 0))):=Lh (fun W h=>⟨num_cells (R1.out.below (below_step HB.out h)) i (by have:=HL.out;omega),num_cells (R2.out.below (below_step HB.out h)) i (by have:=HL.out;omega)⟩)
    obtain⟨x,hx⟩: ∃x,l1.getD i 0=x:=⟨_,rfl⟩
    obtain⟨y,hy⟩: ∃y,l2.getD i 0=y:=⟨_,rfl⟩
    rw[hx,hy]at HX
    have HXY:=Lh (And.intro hx hy)
    have hi1:IntKind.i64.wrap ((i:Int)+1)=((i+1:Nat):Int):=by rw[IntKind.wrap_i64];omega
    have hin2:(i:Int)<(n:Int):=by omega
    clear hx hy hb
    by_cases he:x=y
    ·subst he
     have HE:=Lh (show l1.getD i 0=l2.getD i 0 by rw[HXY.out.1,HXY.out.2])
     go_wp2
     refine wp_region_mix 9 (TVs [.slice (some ⟨g1,0,none⟩) n c1, .int .i64 (i:Int), .pointer (some ⟨g1,i,none⟩), .int .i64 x, .slice (some ⟨g2,0,none⟩) n c2, .int .i64 (i:Int), .pointer (some ⟨g2,i,none⟩), .int .i64 x, .bool false]) (fun _=>false) (by kernel_rfl) (by kernel_rfl) (TVs.keep _) (fun _ _ _ h=>by cases h) ?_ ?_
     ·refine⟨?_,?_,?_,?_,?_,?_,?_,?_,?_,trivial⟩
      all_goals
       intro u W hb hd
       have⟨x0,y0⟩:=HX.out W hb
       simp only[Kj,Jh,putAll,Act.put,Lq,Lk,Lj,Ly,Lx]
       try (have e0:u _=List.getD _ _ _:=hd.1 rfl (by decide);rw[e0])
       try (have e1:u _=List.getD _ _ _:=hd.2.1 rfl (by decide);rw[e1])
       try (have e2:u _=List.getD _ _ _:=hd.2.2.1 rfl (by decide);rw[e2])
       try (have e3:u _=List.getD _ _ _:=hd.2.2.2.1 rfl (by decide);rw[e3])
       try (have e4:u _=List.getD _ _ _:=hd.2.2.2.2.1 rfl (by decide);rw[e4])
       try simp only[List.getD_cons_zero,List.getD_cons_succ]
       go_wp2
       first|exact Mj _ _|exact⟨congrArg Value.bool hne,Mj _ _⟩|exact⟨rfl,Mj _ _⟩|exact⟨_,rfl,rfl,Mj _ _⟩|exact⟨_,rfl,rfl,Mj _ _,fun h=>by simp at h⟩|exact⟨by simp[*],Mj _ _⟩|exact⟨_,rfl,by simp[*],Mj _ _⟩|exact⟨_,rfl,by simp[*],Mj _ _,fun h=>by simp at h⟩
     intro u W hbu hT _
     have eL:u 8= .bool false:=hT 8 (by decide)
     simp only[Kj,Jh,Jj,Jk,putAll,Act.put,Lq,Lk,Lj,Ly,Lx]
     rw[eL]
     have HB3:=Lh (below_step HB.out hbu)
     clear hbu hT
     go_wp2
     go_roundw
     case rel=>exact⟨i+1,by omega,by go_num,HB3.out,Lh (fun j hj=>by
      rcases Nat.lt_or_ge j i with hx|hx
      ·exact HJ.out j hx
      ·obtain rfl:j=i:=by omega
       exact HE.out)⟩
     case measure=>simp[intOf];omega
    ·have HE:=Lh (show l1≠l2 from fun e=>he (by rw[←HXY.out.1,←HXY.out.2,e]))
     have hne:(x !=y)=true:=by simpa using he
     go_wp2
     refine wp_region_mix 9 (TVs [.slice (some ⟨g1,0,none⟩) n c1, .int .i64 (i:Int), .pointer (some ⟨g1,i,none⟩), .int .i64 x, .slice (some ⟨g2,0,none⟩) n c2, .int .i64 (i:Int), .pointer (some ⟨g2,i,none⟩), .int .i64 y, .bool true]) (fun _=>false) (by kernel_rfl) (by kernel_rfl) (TVs.keep _) (fun _ _ _ h=>by cases h) ?_ ?_
     ·refine⟨?_,?_,?_,?_,?_,?_,?_,?_,?_,trivial⟩
      all_goals
       intro u W hb hd
       have⟨x0,y0⟩:=HX.out W hb
       simp only[Kj,Jh,putAll,Act.put,Lq,Lk,Lj,Ly,Lx]
       try (have e0:u _=List.getD _ _ _:=hd.1 rfl (by decide);rw[e0])
       try (have e1:u _=List.getD _ _ _:=hd.2.1 rfl (by decide);rw[e1])
       try (have e2:u _=List.getD _ _ _:=hd.2.2.1 rfl (by decide);rw[e2])
       try (have e3:u _=List.getD _ _ _:=hd.2.2.2.1 rfl (by decide);rw[e3])
       try (have e4:u _=List.getD _ _ _:=hd.2.2.2.2.1 rfl (by decide);rw[e4])
       try simp only[List.getD_cons_zero,List.getD_cons_succ]
       go_wp2
       first|exact Mj _ _|exact⟨congrArg Value.bool hne,Mj _ _⟩|exact⟨rfl,Mj _ _⟩|exact⟨_,rfl,rfl,Mj _ _⟩|exact⟨_,rfl,rfl,Mj _ _,fun h=>by simp at h⟩|exact⟨by simp[*],Mj _ _⟩|exact⟨_,rfl,by simp[*],Mj _ _⟩|exact⟨_,rfl,by simp[*],Mj _ _,fun h=>by simp at h⟩
     intro u W hbu hT _
     have eL:u 8= .bool true:=hT 8 (by decide)
     simp only[Kj,Jh,Jj,Jk,putAll,Act.put,Lq,Lk,Lj,Ly,Lx]
     rw[eL]
     have HB3:=Lh (below_step HB.out hbu)
     clear hbu hT
     go_wp2
     go_ret
     exact⟨by rw[decide_eq_false HE.out];rfl,HB3.out⟩
   ·have en:n=i:=by omega
    subst en
    clear hb
    go_wp2
    go_ret
    refine⟨?_,HB.out⟩
    have hll:=HL.out
    have he:l1=l2:=by
     refine List.ext_getElem (by omega) (fun j h1 h2=>?_)
     have:=HJ.out j (by omega)
     simpa [Mk,h1,h2] using this
    rw[decide_eq_true he]
    rfl
 ·have hnm2: ¬(n:Int)=(m:Int):=by omega
  have HE:=Lh (show l1≠l2 from fun e=>hnm (by rw[←hn,←hm,e]))
  clear r1 r2 s1 hn hm
  go_enter Tryd.func16,Tryd.ntmps16
  go_wp2
  go_ret
  exact⟨by rw[decide_eq_false HE.out];rfl,Mj _ _⟩
end
section
open Go.RowKit
def NotOk (ro re fi ca ag:Int):Prop:=(1≤ro∧ro≤64)∧(0≤re∧re≤ro)∧(1≤fi∧fi≤86400)∧(fi≤ca∧ca≤604800)∧(0≤ag∧ag≤2592000)
theorem wnot_any (ro re fi ca ag:Int) (w:World):Calls Tryd.prog 35 #[.agg #[.int .i64 ro, .int .i64 re, .int .i64 fi, .int .i64 ca, .int .i64 ag]] w (GivesQ (NotOk ro re fi ca ag) w):=by
 obtain⟨gb,W1,hg,hW1,V1,b1,z1⟩:=boxL w [.int .i64 ro, .int .i64 re, .int .i64 fi, .int .i64 ca, .int .i64 ag] 24
 obtain⟨q0,h0⟩: ∃q,decide (1≤ro∧ro≤64)=q:=⟨_,rfl⟩
 obtain⟨q1,h1⟩: ∃q,decide (0≤re∧re≤ro)=q:=⟨_,rfl⟩
 obtain⟨q2,h2⟩: ∃q,decide (1≤fi∧fi≤86400)=q:=⟨_,rfl⟩
 obtain⟨q3,h3⟩: ∃q,decide (fi≤ca∧ca≤604800)=q:=⟨_,rfl⟩
 obtain⟨q4,h4⟩: ∃q,decide (0≤ag∧ag≤2592000)=q:=⟨_,rfl⟩
 have HQ:Hid ((q0&&(q1&&(q2&&(q3&&q4))))=true↔NotOk ro re fi ca ag):=Lh (by
  rw[←h0,←h1,←h2,←h3,←h4]
  simp only[Bool.and_eq_true,decide_eq_true_eq]
  exact Iff.rfl)
 have H0:Hid (∀W,Calls Tryd.prog 31 #[.int .i64 ro, .int .i64 1, .int .i64 64] W fun e w'=>e= .returned (.bool q0)∧w'=W):=Lh (fun W=>by rw[←h0];exact betw_int _ _ _ W)
 have H1:Hid (∀W,Calls Tryd.prog 31 #[.int .i64 re, .int .i64 0, .int .i64 ro] W fun e w'=>e= .returned (.bool q1)∧w'=W):=Lh (fun W=>by rw[←h1];exact betw_int _ _ _ W)
 have H2:Hid (∀W,Calls Tryd.prog 54 #[.int .i64 fi, .int .i64 1, .int .i64 86400] W fun e w'=>e= .returned (.bool q2)∧w'=W):=Lh (fun W=>by rw[←h2];exact betw_i64 _ _ _ W)
 have H3:Hid (∀W,Calls Tryd.prog 54 #[.int .i64 ca, .int .i64 fi, .int .i64 604800] W fun e w'=>e= .returned (.bool q3)∧w'=W):=Lh (fun W=>by rw[←h3];exact betw_i64 _ _ _ W)
 have H4:Hid (∀W,Calls Tryd.prog 54 #[.int .i64 ag, .int .i64 0, .int .i64 2592000] W fun e w'=>e= .returned (.bool q4)∧w'=W):=Lh (fun W=>by rw[←h4];exact betw_i64 _ _ _ W)
 have HB:=Lh b1
 have c0:=V1.c 0 rfl
 have c1:=V1.c 1 rfl
 have c2:=V1.c 2 rfl
 have c3:=V1.c 3 rfl
 have c4:=V1.c 4 rfl
 clear b1 z1 V1 h0 h1 h2 h3 h4
 rcases ch (q:=q0) (ch (q:=q1) (ch (q:=q2) (ch (q:=q3) (eqb q4))))with rfl|⟨rfl,rfl|⟨rfl,rfl|⟨rfl,rfl|⟨rfl,rfl|rfl⟩⟩⟩⟩
 all_goals
  go_enter Tryd.func35,Tryd.ntmps35
  go_wp2_with (first
  |(go_at_call 31;(with_reducible refine(H0.out _).mono ?_);rintro e w' ⟨rfl,rfl⟩)
  |(go_at_call 31;(with_reducible refine(H1.out _).mono ?_);rintro e w' ⟨rfl,rfl⟩)
  |(go_at_call 54;(with_reducible refine(H2.out _).mono ?_);rintro e w' ⟨rfl,rfl⟩)
  |(go_at_call 54;(with_reducible refine(H3.out _).mono ?_);rintro e w' ⟨rfl,rfl⟩)
  |(go_at_call 54;(with_reducible refine(H4.out _).mono ?_);rintro e w' ⟨rfl,rfl⟩))
  go_ret
  exact⟨_,rfl,by simpa using HQ.out,HB.out⟩
def CfS (c:CfC):Prop:=(∀g∈c.goals,GolS g)∧c.goals.length≤1000000
theorem wright_any (c:CfC) (cv:Value) (w:World) (env:Env w) (hc:ConfI w cv c) (hs:CfS c):Calls Tryd.prog 18 #[cv] w (GivesQ (ConfOk c) w):=by
 obtain⟨gv,rfl,us,hK,hL,hE⟩:=hc
 obtain⟨s0,s1⟩:=hs
 obtain⟨G,ro,re,fi,ca,ag⟩:=c
 simp only at s0 s1 hL hE
 obtain⟨a,cap,rfl,_⟩:=hK.size
 obtain⟨n,hn⟩: ∃n,us.length=n:=⟨_,rfl⟩
 have hGn:G.length=n:=hL.symm.trans hn
 rw[hn]at hK ⊢
 obtain⟨gb,W1,hg,hW1,V1,b1,z1⟩:=boxL w [.slice a n cap, .int .i64 ro, .int .i64 re, .int .i64 fi, .int .i64 ca, .int .i64 ag] 26
 obtain⟨q1,h1⟩:=shq_of (AllU GoalOk (·.name) G n)
 obtain⟨q2,h2⟩:=shq_of (NotOk ro re fi ca ag)
 obtain⟨q0,h0⟩: ∃q,decide (0≤(n:Int)∧(n:Int)≤6)=q:=⟨_,rfl⟩
 have HQ:Hid ((q0&&(q1&&q2))=true↔ConfOk ⟨G,ro,re,fi,ca,ag⟩):=Lh (by
  rw[←h0]
  simp only[Bool.and_eq_true,decide_eq_true_eq,h1,h2]
  subst hGn
  exact⟨fun⟨⟨_,a⟩,b,⟨c1,c2⟩,⟨d1,d2⟩,⟨e1,e2⟩,⟨f1,f2⟩,g1,g2⟩=>⟨by simp only;omega,b,c1,c2,d1,d2,e1,e2,f1,f2,g1,g2⟩,
   fun h=>⟨⟨by omega,by have:=h.n1;simp only at this;omega⟩,h.go,⟨h.r1,h.r2⟩,⟨h.v1,h.v2⟩,⟨h.f1,h.f2⟩,⟨h.c1,h.c2⟩,h.a1,h.a2⟩⟩)
 have H0:Hid (∀W,Calls Tryd.prog 31 #[.int .i64 (n:Int), .int .i64 0, .int .i64 6] W fun e w'=>e= .returned (.bool q0)∧w'=W):=Lh (fun W=>by rw[←h0];exact betw_int _ _ _ W)
 have HGA:Hid (∀W,Below W1.heap.size W1 W→Calls Tryd.prog 32 #[.slice a n cap, .func (.func 33) #[] #[], .func (.func 34) #[] #[]] W fun e w'=>e= .returned (.bool q1)∧Below W.heap.size W w'):=Lh (fun W b=>by
  refine GivesQ.is (h1.trans ?_) (goal_all (fun i=> ∀x,G[i]?=some x→GoalOk x) us (G.map (·.name)) _ W (hK.below (below_step b1 b)) ⟨by rw[Ky,hL],fun i u s hu hs=>?_⟩ (by omega) (fun i u hu W' b'=>?_))
  ·rw[hn];exact allN_iff.symm
  ·rw[List.getElem?_map,Option.map_eq_some_iff]at hs
   obtain⟨x,hx,rfl⟩:=hs
   obtain⟨lv,rv,rfl,i1,i2⟩:=hE i u x hu hx
   obtain⟨_,_,rfl,_⟩:=i1.size
   obtain⟨_,_,rfl,_⟩:=i2.size
   exact⟨_,_,_,_,_,_,_,_,_,_,_,rfl⟩
  ·have hi:i<G.length:=by have:=(List.getElem?_eq_some_iff.1 hu).1;omega
   have hx:G[i]?=some G[i]:=Kh hi
   have hb:=below_step (below_step b1 b) b'
   refine(wgol_any G[i] u W' (env.step hb) ((hE i u _ hu hx).below hb) (s0 _ (List.getElem_mem hi))).mono ?_
   rintro e w' ⟨q,e1,e2,e3⟩
   exact⟨q,e1,e2.trans ⟨fun h y hy=>by rw[hx]at hy;injection hy with hy;rw[←hy];exact h,fun h=>h _ hx⟩,e3⟩)
 have HNO:=Lh (fun W=>GivesQ.is h2 (wnot_any ro re fi ca ag W))
 have HB:=Lh b1
 have HV:=Lh V1
 have c0:=V1.c 0 rfl
 clear env s0 s1 hK hL hE hn hGn b1 z1 V1 h0 h1 h2
 show Calls Tryd.prog 18 #[.agg #[.slice a n cap, .int .i64 ro, .int .i64 re, .int .i64 fi, .int .i64 ca, .int .i64 ag]] w _
 rcases ch (q:=q0) (ch (q:=q1) (eqb q2))with rfl|⟨rfl,rfl|⟨rfl,rfl|rfl⟩⟩
 all_goals
  go_enter Tryd.func18,Tryd.ntmps18
  go_wp2_with (first
  |(go_at_call 31;(with_reducible refine(H0.out _).mono ?_);rintro e w' ⟨rfl,rfl⟩)
  |(go_at_call 32;(with_reducible refine(HGA.out _ (Mj _ _)).mono ?_);rintro e W2 ⟨rfl,h⟩;have DD:=Lh h;clear h;have d1:=(HV.out.after DD.out).c 1 rfl;have d2:=(HV.out.after DD.out).c 2 rfl;have d3:=(HV.out.after DD.out).c 3 rfl;have d4:=(HV.out.after DD.out).c 4 rfl;have d5:=(HV.out.after DD.out).c 5 rfl;skip)
  |(go_at_call 35;(with_reducible refine(HNO.out _).mono ?_);rintro e W3 ⟨rfl,h⟩;have DE:=Lh (below_step DD.out h);clear h))
  go_ret
  exact⟨_,rfl,by simpa using HQ.out,by first|exact below_step HB.out DE.out|exact below_step HB.out DD.out|exact HB.out⟩
end
section
open Go.RowKit
def sliceLen:Value→Nat
 | .slice _ n _=>n
 |_=>0
theorem above_last {out:List Int} {l x:Int} (h:out.getLast?=some l):AboveW out x↔l<x:=⟨fun a=>a l h,fun a m hm=>by rw[h]at hm;injection hm with hm;omega⟩
theorem last_getD {out:List Int} {k:Nat} (h:out.length=k+1):out.getLast?=some (out.getD k 0):=by
 rw[List.getLast?_eq_getElem?,h,Nat.add_sub_cancel,Kh (by omega)]
 simp[Mk,show k<out.length by omega]
end
section
open Go.RowKit
def LightG (g:GlC):Prop:=g.name.size≤2000∧g.labels.length≤10∧g.rules.length≤10∧(∀l∈g.labels,l.1.size≤2000∧l.2.size≤2000)∧∀r∈g.rules,r.name.size≤2000
def GivesH (A:Prop) (w:World) (e:Ending) (w':World):Prop:=(∃q,e= .returned (.bool q)∧(q=false→A))∧Below w.heap.size w w'
theorem GivesH.yes {A:Prop} {w w':World} (h:Below w.heap.size w w'):GivesH A w (.returned (.bool true)) w':=⟨⟨_,rfl,fun h=>by cases h⟩,h⟩
theorem GivesH.no {A:Prop} {w w':World} (a:A) (h:Below w.heap.size w w'):GivesH A w (.returned (.bool false)) w':=⟨⟨_,rfl,fun _=>a⟩,h⟩
theorem rhg_any (g:GlC) (u:List Value) (w:World) (hu:GolI w u g):Calls Tryd.prog 14 #[.agg u.toArray] w (GivesH (LightG g) w):=by
 obtain⟨lv,rv,rfl,hl,hr⟩:=hu
 obtain⟨nm,tg,gr,la,ro,ca,L,R⟩:=g
 simp only at hl hr
 obtain⟨la1,lc1,rfl,_⟩:=hl.size
 obtain⟨ra1,rc1,rfl,_⟩:=hr.size
 rw[Ky]at hl hr ⊢
 rw[Ky]
 obtain⟨n,hn⟩: ∃n,L.length=n:=⟨_,rfl⟩
 obtain⟨m,hmm⟩: ∃n,R.length=n:=⟨_,rfl⟩
 rw[hn]at hl ⊢
 rw[hmm]at hr ⊢
 obtain⟨gb,W1,hg,hW1,V1,b1,z1⟩:=boxL w [.string nm, .int .u32 tg, .int .i64 gr, .int .i64 la, .int .i64 ro, .int .i64 ca, .slice la1 n lc1, .slice ra1 m rc1] 44
 have HLL:=Lh hl
 have HRL:=Lh hr
 have HN1:=Lh hn
 have HM1:=Lh hmm
 have HB:=Lh b1
 have HV:=Lh V1
 have c0:=V1.c 0 rfl
 have c6:=V1.c 6 rfl
 have c7:=V1.c 7 rfl
 clear hl hr hn hmm b1 z1 V1
 show Calls Tryd.prog 14 #[.agg #[.string nm, .int .u32 tg, .int .i64 gr, .int .i64 la, .int .i64 ro, .int .i64 ca, .slice la1 n lc1, .slice ra1 m rc1]] w _
 rcases(Decidable.em ((2000:Int)<(nm.size:Int)))with h1|h1
 ·go_enter Tryd.func14,Tryd.ntmps14
  go_wp2
  go_ret
  exact GivesH.yes HB.out
 have HS:Hid (nm.size≤2000):=Lh (by omega)
 rcases(Decidable.em ((10:Int)<(n:Int)))with h2|h2
 ·go_enter Tryd.func14,Tryd.ntmps14
  go_wp2
  go_ret
  exact GivesH.yes HB.out
 have HS2:Hid (n≤10):=Lh (by omega)
 rcases(Decidable.em ((10:Int)<(m:Int)))with h3|h3
 ·go_enter Tryd.func14,Tryd.ntmps14
  go_wp2
  go_ret
  exact GivesH.yes HB.out
 have HS3:Hid (m≤10):=Lh (by omega)
 go_enter Tryd.func14,Tryd.ntmps14
 go_wp2
 clear h1 h2 h3 c0
 go_loopw [3] (fun v3 wr=> ∃i:Nat,i≤n∧v3= .int .i64 (i:Int)∧wr=W1∧∀(j:Nat) y,j<i→L[j]?=some y→y.1.size≤2000∧y.2.size≤2000) (fun v3 _=>n-(intOf v3).toNat)
 case atStart=>exact⟨0,Nat.zero_le _,rfl,rfl,fun j y hj=>by omega⟩
 case round=>
  obtain⟨i,hi,rfl,rfl,hU⟩:=hrel
  have HU:=Lh hU
  clear hU
  by_cases hin:i<n
  ·obtain⟨x,hx⟩: ∃x,L[i]?=some x:=⟨_,Kh (by rw[HN1.out];exact hin)⟩
   have HX:=Lh hx
   obtain⟨b,off,rfl,hlt,hcell⟩:=HLL.out.at i (labV x) (by rw[List.getElem?_map,hx];rfl)
   obtain⟨s,t⟩:=x
   have f0:wr.cell? ⟨b,off+i*2,none⟩=some (.string s):=(HB.out.cell (p:=⟨b,off+i*2,none⟩) hlt).trans (hcell 0 _ rfl)
   have f1:wr.cell? ⟨b,off+i*2+1,none⟩=some (.string t):=(HB.out.cell (p:=⟨b,off+i*2+1,none⟩) hlt).trans (hcell 1 _ rfl)
   have hi1:IntKind.i64.wrap ((i:Int)+1)=((i+1:Nat):Int):=by rw[IntKind.wrap_i64];have:=HS2.out;omega
   clear hx hlt hcell
   rcases(Decidable.em ((2000:Int)<(s.size:Int)))with h1|h1
   ·go_wp2
    go_ret
    exact GivesH.yes HB.out
   rcases(Decidable.em ((2000:Int)<(t.size:Int)))with h2|h2
   ·go_wp2
    go_ret
    exact GivesH.yes HB.out
   have HST:Hid (s.size≤2000∧t.size≤2000):=Lh ⟨by omega,by omega⟩
   go_wp2
   go_roundw
   case rel=>exact⟨i+1,by omega,by go_num,by first|rfl|trivial,fun j y hj hy=>by
    rcases Nat.lt_or_ge j i with hx|hx
    ·exact HU.out j y hx hy
    ·obtain rfl:j=i:=by omega
     rw[HX.out]at hy
     injection hy with hy
     subst hy
     exact HST.out⟩
   case measure=>simp[intOf];omega
  ·have en:n=i:=by omega
   subst en
   have HUL:=Lh HU.out
   go_wp2
   clear hin c6
   go_loopw [4] (fun v4 wx=> ∃i:Nat,i≤m∧v4= .int .i64 (i:Int)∧wx=wr∧∀(j:Nat) y,j<i→R[j]?=some y→y.name.size≤2000) (fun v4 _=>m-(intOf v4).toNat)
   case atStart=>exact⟨0,Nat.zero_le _,rfl,rfl,fun j y hj=>by omega⟩
   case round=>
    clear HU
    obtain⟨i,hi,rfl,hwx,hU⟩:=hrel
    subst hwx
    have HU:=Lh hU
    clear hU
    by_cases hin:i<m
    ·obtain⟨x,hx⟩: ∃x,R[i]?=some x:=⟨_,Kh (by rw[HM1.out];exact hin)⟩
     have HX:=Lh hx
     obtain⟨b,off,rfl,hlt,hcell⟩:=HRL.out.at i (rulV x) (by rw[List.getElem?_map,hx];rfl)
     have f0:=(HB.out.cell (p:=⟨b,off+i*7,none⟩) hlt).trans (hcell 0 _ rfl)
     have hi1:IntKind.i64.wrap ((i:Int)+1)=((i+1:Nat):Int):=by rw[IntKind.wrap_i64];have:=HS3.out;omega
     clear hx hlt hcell
     rcases(Decidable.em ((2000:Int)<(x.name.size:Int)))with h1|h1
     ·go_wp2
      go_ret
      exact GivesH.yes HB.out
     have HST:Hid (x.name.size≤2000):=Lh (by omega)
     go_wp2
     go_roundw
     case rel=>exact⟨i+1,by omega,by go_num,by first|rfl|trivial,fun j y hj hy=>by
      rcases Nat.lt_or_ge j i with hx|hx
      ·exact HU.out j y hx hy
      ·obtain rfl:j=i:=by omega
       rw[HX.out]at hy
       injection hy with hy
       subst hy
       exact HST.out⟩
     case measure=>simp[intOf];omega
    ·have en:m=i:=by omega
     subst en
     go_wp2
     go_ret
     refine GivesH.no ⟨HS.out,by have:=HN1.out;have:=HS2.out;simp only;omega,by have:=HM1.out;have:=HS3.out;simp only;omega,fun l hl=>?_,fun r hr=>?_⟩ HB.out
     ·obtain⟨j,hj,rfl⟩:=List.getElem_of_mem hl
      exact HUL.out j _ (by have:=HN1.out;simp only at hj;omega) (Kh hj)
     ·obtain⟨j,hj,rfl⟩:=List.getElem_of_mem hr
      exact HU.out j _ (by have:=HM1.out;simp only at hj;omega) (Kh hj)
end
section
open Go.RowKit
theorem RowK.cellsIn {t:TypeId} {sz:Nat} {w:World} {base n cap:Nat} {a:Option Addr} {vs:List (List Value)} (h:RowK t sz w base (.slice a n cap) vs):CellsAt sz w a vs:=
 ⟨h.wid,fun i hi=>by
  obtain⟨g,c,e,_⟩:=h.form (by omega)
  simp only[Value.slice.injEq]at e
  obtain⟨rfl,rfl,rfl⟩:=e
  exact⟨g,0,rfl,fun j hj=>by rw[Ly];exact h.at i j hi hj⟩⟩
theorem flat_len {α β:Type} (f:α→List β) (k:Nat): ∀l:List α,(∀x∈l,(f x).length≤k)→(l.flatMap f).length≤k*l.length
 | [],_=>by simp
 |x::l,h=>by
  have h1:=h x (List.mem_cons_self ..)
  have h2:=flat_len f k l (fun y hy=>h y (List.mem_cons_of_mem _ hy))
  rw[List.flatMap_cons,Kq,List.length_cons,Nat.mul_add]
  omega
theorem conf_rules {c:CfC} (h:ConfOk c) {g:GlC} (hg:g∈c.goals):g.rules.length≤4:=by
 obtain⟨i,hi,e⟩:=List.getElem_of_mem hg
 exact((h.go i g hi (by rw[Kh hi,e])).1).m2
theorem newT_len (g:GlC) (k:Int):(newT g k).length=g.rules.length+1:=by
 unfold newT
 simp
theorem bothT_len (a b:GlC):(bothT a b).length≤a.rules.length+b.rules.length+1:=by
 rw[bothT_eq a b rfl rfl,Kq]
 have:=headT_len a b b.rules.length
 have:=restT_len a b a.rules.length
 omega
theorem getG_memR {gs:List GlC} {n:ByteArray} {g:GlC} (h:getG gs n=some g):g∈gs:=List.mem_of_find?_eq_some h
theorem goalT_len {c1:CfC} (h:ConfOk c1) {g:GlC} (hg:g.rules.length≤4):(goalT c1.goals g).length≤9:=by
 unfold goalT
 cases e:getG c1.goals g.name with
 |none=>simp only;rw[newT_len];omega
 |some was=>simp only;have:=bothT_len was g;have:=conf_rules h (getG_memR e);omega
theorem goneT_len (gs:List GlC) {g:GlC} (hg:g.rules.length≤4):(goneT gs g).length≤9:=by
 unfold goneT
 cases e:getG gs g.name with
 |none=>simp only;rw[newT_len];omega
 |some was=>simp
def nowT (a b:CfC) (i:Nat):List TrC:=(b.goals.take i).flatMap (goalT a.goals)
def outT (a b:CfC) (i:Nat):List TrC:=(a.goals.take i).flatMap (goneT b.goals)
theorem nowT_succ (a b:CfC) (i:Nat) {g:GlC} (h:b.goals[i]?=some g):nowT a b (i+1)=nowT a b i++goalT a.goals g:=by
 unfold nowT
 rw[List.take_add_one,h,List.flatMap_append]
 simp
theorem outT_succ (a b:CfC) (i:Nat) {g:GlC} (h:a.goals[i]?=some g):outT a b (i+1)=outT a b i++goneT b.goals g:=by
 unfold outT
 rw[List.take_add_one,h,List.flatMap_append]
 simp
theorem nowT_len {a b:CfC} (h:ConfOk a) (h2:ConfOk b) (i:Nat):(nowT a b i).length≤54:=by
 have:=flat_len (goalT a.goals) 9 (b.goals.take i) (fun g hg=>goalT_len h (conf_rules h2 (List.mem_of_mem_take hg)))
 have h3:=h2.n1
 rw[List.length_take]at this
 unfold nowT
 omega
theorem outT_len {a b:CfC} (h:ConfOk a) (i:Nat):(outT a b i).length≤54:=by
 have:=flat_len (goneT b.goals) 9 (a.goals.take i) (fun g hg=>goneT_len _ (conf_rules h (List.mem_of_mem_take hg)))
 have h3:=h.n1
 rw[List.length_take]at this
 unfold outT
 omega
theorem plan_eq (a b:CfC) {m n:Nat} (hm:b.goals.length=m) (hn:a.goals.length=n):planS a.goals b.goals=nowT a b m++outT a b n:=by
 unfold planS nowT outT
 rw[←hm,←hn,List.take_length,List.take_length]
theorem turs_app {w:World} {base:Nat} {v:Value} {l m:List TrC} (h:RowK 37 3 w base v (l.map turV++m.map turV)):Turs w base v (l++m):=by
 unfold Turs
 rw[List.map_append]
 exact h
theorem GivesT.form {l:List TrC} {w w':World} {e:Ending} (h:GivesT l w e w'): ∃ad n c,e= .returned (.slice ad n c)∧(l.map turV).length=n∧Turs w' w.heap.size (.slice ad n c) l∧Below w.heap.size w w':=by
 obtain⟨v,h1,h2,h3⟩:=h
 obtain⟨a,c,e2⟩:=h2.size
 exact⟨a,_,c,by rw[h1,e2],rfl,by rw[←e2];exact h2,h3⟩
def GivesPl (a b:CfC) (w:World) (e:Ending) (w':World):Prop:=
 ((ConfOk a∧ConfOk b∧∃v,e= .returned (.tuple #[v, .int .i64 0])∧Turs w' w.heap.size v (planS a.goals b.goals))∨(¬(ConfOk a∧ConfOk b)∧e= .returned (.tuple #[.slice none 0 0, .int .i64 2])))∧Below w.heap.size w w'
theorem GivesPl.no {a b:CfC} {w w':World} (h: ¬(ConfOk a∧ConfOk b)) (hb:Below w.heap.size w w'):GivesPl a b w (.returned (.tuple #[.slice none 0 0, .int .i64 2])) w':=⟨Or.inr ⟨h,rfl⟩,hb⟩
theorem GivesPl.yes {a b:CfC} {w w':World} {v:Value} (h1:ConfOk a) (h2:ConfOk b) (h:Turs w' w.heap.size v (planS a.goals b.goals)) (hb:Below w.heap.size w w'):GivesPl a b w (.returned (.tuple #[v, .int .i64 0])) w':=⟨Or.inl ⟨h1,h2,v,rfl,h⟩,hb⟩
theorem plan_any (a b:CfC) (v1 v2:Value) (w:World) (env:Env w) (h1:ConfI w v1 a) (h2:ConfI w v2 b) (s1:CfS a) (s2:CfS b):Calls Tryd.prog 8 #[v1,v2] w (GivesPl a b w):=by
 obtain⟨p,hp⟩:=shq_of (ConfOk a)
 obtain⟨q,hq⟩:=shq_of (ConfOk b)
 have HP:=Lh hp
 have HQ:=Lh hq
 have HR1:=Lh (fun W (hb:Below w.heap.size w W)=>GivesQ.is hp (wright_any a v1 W (env.step hb) (h1.below hb) s1))
 have HR2:=Lh (fun W (hb:Below w.heap.size w W)=>GivesQ.is hq (wright_any b v2 W (env.step hb) (h2.below hb) s2))
 obtain⟨gv1,rfl,us,hk,hl,hg⟩:=h1
 obtain⟨gv2,rfl,ut,ik,il,ig⟩:=h2
 obtain⟨ga,gc,rfl,hgc⟩:=hk.size
 obtain⟨ia,ic,rfl,hic⟩:=ik.size
 obtain⟨m,hm⟩: ∃m,us.length=m:=⟨_,rfl⟩
 obtain⟨n,hn⟩: ∃n,ut.length=n:=⟨_,rfl⟩
 have HPE:=Lh (plan_eq a b (m:=n) (n:=m) (by rw[←hn,il]) (by rw[←hm,hl]))
 have HNS:=Lh (fun i g h=> @nowT_succ a b i g h)
 have HOS:=Lh (fun i g h=> @outT_succ a b i g h)
 have HNL:=Lh (fun(x:ConfOk a) (y:ConfOk b) i=>nowT_len x y i)
 have HOL:=Lh (fun(x:ConfOk a) i=> @outT_len a b x i)
 have HN0:Hid (nowT a b 0= []):=Lh (by unfold nowT;simp)
 have HO0:Hid (outT a b 0= []):=Lh (by unfold outT;simp)
 have HRA:=Lh (fun(x:ConfOk a) g (h:g∈a.goals)=>conf_rules x h)
 have HRB:=Lh (fun(x:ConfOk b) g (h:g∈b.goals)=>conf_rules x h)
 have HUA:Hid (∀i,i<m→∃g u,a.goals[i]?=some g∧us[i]?=some u∧GolI w u g):=Lh (fun i hi=>⟨a.goals[i],us[i],Kh (by omega),Kh (by omega),hg i _ _ (Kh (by omega)) (Kh (by omega))⟩)
 have HUB:Hid (∀i,i<n→∃g u,b.goals[i]?=some g∧ut[i]?=some u∧GolI w u g):=Lh (fun i hi=>⟨b.goals[i],ut[i],Kh (by omega),Kh (by omega),ig i _ _ (Kh (by omega)) (Kh (by omega))⟩)
 have HGA:=Lh (fun W (hb:Below w.heap.size w W)=>(⟨us,hk.below hb,hl,fun i u g x y=>(hg i u g x y).below hb⟩:GolsI W (.slice ga us.length gc) a.goals))
 have HGB:=Lh (fun W (hb:Below w.heap.size w W)=>(⟨ut,ik.below hb,il,fun i u g x y=>(ig i u g x y).below hb⟩:GolsI W (.slice ia ut.length ic) b.goals))
 have HKA:=Lh hk
 have HKB:=Lh ik
 have HMN:Hid (m≤1000000∧n≤1000000):=Lh ⟨by have:=s1.2;omega,by have:=s2.2;omega⟩
 have HSA:Hid (a.goals.length≤1000000∧b.goals.length≤1000000):=Lh ⟨s1.2,s2.2⟩
 rw[hm]at hgc HR1 HGA HKA ⊢
 rw[hn]at hic HR2 HGB HKB ⊢
 clear hp hq env s1 s2 hk hl hg ik il ig hm hn
 simp only[confL]at HR1 HR2 ⊢
 obtain⟨cb,W0,hcb,hW0,V0,b0,z0⟩:=boxL w [.slice ga m gc, .int .i64 a.room, .int .i64 a.reserve, .int .i64 a.first, .int .i64 a.cap, .int .i64 a.again] 26
 obtain⟨db,W1,hdb,hW1,V1,b1,z1⟩:=boxL W0 [.slice ia n ic, .int .i64 b.room, .int .i64 b.reserve, .int .i64 b.first, .int .i64 b.cap, .int .i64 b.again] 26
 have HV0:=Lh (V0.after b1)
 have HV1:=Lh V1
 have HBW:=Lh (below_step b0 b1)
 obtain⟨B,hB⟩: ∃B,W1.heap.size=B:=⟨_,rfl⟩
 have HBB:Hid (W1.heap.size=B∧w.heap.size≤B):=Lh ⟨hB,by have:=(below_step b0 b1).size;omega⟩
 have a0:=HV0.out.c 0 rfl;have a1:=HV0.out.c 1 rfl;have a2:=HV0.out.c 2 rfl;have a3:=HV0.out.c 3 rfl;have a4:=HV0.out.c 4 rfl;have a5:=HV0.out.c 5 rfl
 have e0:=HV1.out.c 0 rfl;have e1:=HV1.out.c 1 rfl;have e2:=HV1.out.c 2 rfl;have e3:=HV1.out.c 3 rfl;have e4:=HV1.out.c 4 rfl;have e5:=HV1.out.c 5 rfl
 clear V0 V1 b0 b1 z0 z1 hB
 have HRC1:=Lh (HR1.out W1 HBW.out)
 cases p
 ·have HNO:Hid (¬(ConfOk a∧ConfOk b)):=Lh (fun h=>by have:=HP.out.mpr h.1;cases this)
  go_enter Tryd.func8,Tryd.ntmps8
  go_wp2_with (go_at_call 18;(with_reducible refine(HRC1.out).mono ?_);rintro e W2 ⟨rfl,h2⟩;have HB2:=Lh (below_step HBW.out h2);clear h2)
  go_ret2
  exact GivesPl.no HNO.out HB2.out
 ·cases q
  ·have HNO:Hid (¬(ConfOk a∧ConfOk b)):=Lh (fun h=>by have:=HQ.out.mpr h.2;cases this)
   go_enter Tryd.func8,Tryd.ntmps8
   go_wp2_with (first
    |(go_at_call 18;(with_reducible refine(HRC1.out).mono ?_);rintro e W2 ⟨rfl,h2⟩;have HB2:=Lh (below_step HBW.out h2);clear HRC1;have r0:=(HV1.out.after h2).c 0 rfl;have r1:=(HV1.out.after h2).c 1 rfl;have r2:=(HV1.out.after h2).c 2 rfl;have r3:=(HV1.out.after h2).c 3 rfl;have r4:=(HV1.out.after h2).c 4 rfl;have r5:=(HV1.out.after h2).c 5 rfl;have HRC2:=Lh (HR2.out W2 HB2.out);clear h2)
    |(go_at_call 18;(with_reducible refine(HRC2.out).mono ?_);rintro e W3 ⟨rfl,h3⟩;have HB3:=Lh (below_step HB2.out h3);clear h3))
   go_ret2
   exact GivesPl.no HNO.out HB3.out
  ·have HCA:Hid (ConfOk a∧ConfOk b):=Lh ⟨HP.out.mp rfl,HQ.out.mp rfl⟩
   go_enter Tryd.func8,Tryd.ntmps8
   go_wp2_with (first
    |(go_at_call 18;(with_reducible refine(HRC1.out).mono ?_);rintro e W2 ⟨rfl,h2⟩;have HB2:=Lh h2;clear HRC1;have r0:=(HV1.out.after h2).c 0 rfl;have r1:=(HV1.out.after h2).c 1 rfl;have r2:=(HV1.out.after h2).c 2 rfl;have r3:=(HV1.out.after h2).c 3 rfl;have r4:=(HV1.out.after h2).c 4 rfl;have r5:=(HV1.out.after h2).c 5 rfl;have HRC2:=Lh (HR2.out W2 (below_step HBW.out HB2.out));clear h2)
    |(go_at_call 18;(with_reducible refine(HRC2.out).mono ?_);rintro e W3 ⟨rfl,h3⟩;have HB3:=Lh (below_step HB2.out h3);clear h3;have e0:=(HV1.out.after HB3.out).c 0 rfl))
   go_loopw [6,26] (fun v6 vi wr=> ∃i:Nat,i≤n∧vi= .int .i64 (i:Int)∧Turs wr B v6 (nowT a b i)∧Below B W1 wr) (fun _ vi _=>n-(intOf vi).toNat)
   case atStart=>exact⟨0,Nat.zero_le _,rfl,by rw[HN0.out];exact RowK.nil _ _ _ _,by have:=HB3.out;rw[HBB.out.1]at this;exact this⟩
   case round=>
    obtain⟨i,hi,rfl,hrow,hb⟩:=hrel
    have HR:=Lh hrow
    have hbw0:Below W1.heap.size W1 wr:=by rw[HBB.out.1];exact hb
    have HBR:=Lh hbw0
    have hbw:=below_step HBW.out hbw0
    by_cases hin:i<n
    ·obtain⟨g,u,hgi,hui,hgol⟩:=HUB.out i hin
     have HGI:=Lh hgol
     obtain⟨lv,rv,hue,i1,i2⟩:=hgol
     obtain⟨bk,off,rfl,hlt,hcell⟩:=HKB.out.at i _ hui
     obtain⟨xa,xk,rfl,_⟩:=i1.size
     obtain⟨xb,xl,rfl,_⟩:=i2.size
     obtain⟨xn,hxn⟩: ∃n,(g.labels.map labV).length=n:=⟨_,rfl⟩
     obtain⟨xm,hxm⟩: ∃n,(g.rules.map rulV).length=n:=⟨_,rfl⟩
     rw[hxn,hxm]at hue
     have HMG:=Lh (List.mem_of_getElem? hgi)
     have HSU:=Lh (HNS.out i g hgi)
     have HG4:=Lh (HRB.out HCA.out.2 g HMG.out)
     clear i1 i2 hxn hxm
     obtain⟨xnm,xtg,xgn,xla,xro,xca,xL,xR⟩:=g
     simp only[golL]at hue
     subst hue
     have f0:wr.cell? ⟨bk,off+i*8,none⟩=some (.string xnm):=(hbw.cell (p:=⟨bk,off+i*8,none⟩) hlt).trans (hcell 0 _ rfl);have f1:wr.cell? ⟨bk,off+i*8+1,none⟩=some (.int .u32 xtg):=(hbw.cell (p:=⟨bk,off+i*8+1,none⟩) hlt).trans (hcell 1 _ rfl);have f2:wr.cell? ⟨bk,off+i*8+2,none⟩=some (.int .i64 xgn):=(hbw.cell (p:=⟨bk,off+i*8+2,none⟩) hlt).trans (hcell 2 _ rfl);have f3:wr.cell? ⟨bk,off+i*8+3,none⟩=some (.int .i64 xla):=(hbw.cell (p:=⟨bk,off+i*8+3,none⟩) hlt).trans (hcell 3 _ rfl);have f4:wr.cell? ⟨bk,off+i*8+4,none⟩=some (.int .i64 xro):=(hbw.cell (p:=⟨bk,off+i*8+4,none⟩) hlt).trans (hcell 4 _ rfl);have f5:wr.cell? ⟨bk,off+i*8+5,none⟩=some (.int .i64 xca):=(hbw.cell (p:=⟨bk,off+i*8+5,none⟩) hlt).trans (hcell 5 _ rfl);have f6:wr.cell? ⟨bk,off+i*8+6,none⟩=some (.slice xa xn xk):=(hbw.cell (p:=⟨bk,off+i*8+6,none⟩) hlt).trans (hcell 6 _ rfl);have f7:wr.cell? ⟨bk,off+i*8+7,none⟩=some (.slice xb xm xl):=(hbw.cell (p:=⟨bk,off+i*8+7,none⟩) hlt).trans (hcell 7 _ rfl)
     have hi1:IntKind.i64.wrap ((i:Int)+1)=((i+1:Nat):Int):=by have:=HMN.out;rw[IntKind.wrap_i64];omega
     obtain⟨gb,W4,hgb,hW4,V4,b4,z4⟩:=boxL wr [.string ⟨#[]⟩, .int .u32 0, .int .i64 0, .int .i64 0, .int .i64 0, .int .i64 0, .slice none 0 0, .slice none 0 0] 44
     have c0:=V4.c 0 rfl;have q0:=V4.q 0 rfl;have c1:=V4.c 1 rfl;have q1:=V4.q 1 rfl;have c2:=V4.c 2 rfl;have q2:=V4.q 2 rfl;have c3:=V4.c 3 rfl;have q3:=V4.q 3 rfl;have c4:=V4.c 4 rfl;have q4:=V4.q 4 rfl;have c5:=V4.c 5 rfl;have q5:=V4.q 5 rfl;have c6:=V4.c 6 rfl;have q6:=V4.q 6 rfl;have c7:=V4.c 7 rfl;have q7:=V4.q 7 rfl
     obtain⟨W5,hW5⟩: ∃W5,putL gb 0 [.string xnm, .int .u32 xtg, .int .i64 xgn, .int .i64 xla, .int .i64 xro, .int .i64 xca, .slice xa xn xk, .slice xb xm xl] W4=W5:=⟨_,rfl⟩
     have HV5:Hid (VarL W5 gb [.string xnm, .int .u32 xtg, .int .i64 xgn, .int .i64 xla, .int .i64 xro, .int .i64 xca, .slice xa xn xk, .slice xb xm xl]):=Lh (by rw[←hW5];exact putL_var [.string xnm, .int .u32 xtg, .int .i64 xgn, .int .i64 xla, .int .i64 xro, .int .i64 xca, .slice xa xn xk, .slice xb xm xl] [] [.string ⟨#[]⟩, .int .u32 0, .int .i64 0, .int .i64 0, .int .i64 0, .int .i64 0, .slice none 0 0, .slice none 0 0] W4 V4 rfl)
     have hb5:Below wr.heap.size wr W5:=by rw[←hW5];exact putL_below _ (by omega) _ _ b4
     have HB5:=Lh (below_step HBR.out hb5)
     have HBW5:=Lh (below_step HBW.out HB5.out)
     have HR5:=Lh (HR.out.below hb5)
     have HGN:=Lh (goal_named _ xnm _ W5 (HGA.out W5 HBW5.out) (by have:=HSA.out;omega))
     have x0:=(HV0.out.after HB5.out).c 0 rfl
     have d0:=HV5.out.c 0 rfl
     have hia:(i:Int)<(n:Int):=by omega
     simp only[putL,Ly]at hW5
     clear hgi hui hlt hcell hb hbw hbw0 hrow b4 z4 V4 hb5 e0
     go_wp2_with (first
      |(go_at_call 19;(with_reducible refine(HGN.out).mono ?_);rintro e w6 ⟨cs,bb,rfl,hor,h6⟩;have HB6:=Lh (below_step HB5.out h6);have HV6:=Lh (HV5.out.after h6);have HR6:=Lh (HR5.out.below h6);obtain⟨hb_,W7,hyb,hW7,V7,b7,z7⟩:=boxL w6 [.string ⟨#[]⟩, .int .u32 0, .int .i64 0, .int .i64 0, .int .i64 0, .int .i64 0, .slice none 0 0, .slice none 0 0] 44;have k0:=V7.c 0 rfl;have l0:=V7.q 0 rfl;have k1:=V7.c 1 rfl;have l1:=V7.q 1 rfl;have k2:=V7.c 2 rfl;have l2:=V7.q 2 rfl;have k3:=V7.c 3 rfl;have l3:=V7.q 3 rfl;have k4:=V7.c 4 rfl;have l4:=V7.q 4 rfl;have k5:=V7.c 5 rfl;have l5:=V7.q 5 rfl;have k6:=V7.c 6 rfl;have l6:=V7.q 6 rfl;have k7:=V7.c 7 rfl;have l7:=V7.q 7 rfl;rcases hor with⟨rfl,gd,ud,hf,rfl,hgd⟩|⟨rfl,hf,rfl⟩<;>first
       |(have HGD:=Lh hgd;obtain⟨lv,rv,hue,i1,i2⟩:=hgd;obtain⟨ya,yk,rfl,_⟩:=i1.size;obtain⟨yb,yl,rfl,_⟩:=i2.size;obtain⟨yn,hyn⟩: ∃n,(gd.labels.map labV).length=n:=⟨_,rfl⟩;obtain⟨ym,hym⟩: ∃n,(gd.rules.map rulV).length=n:=⟨_,rfl⟩;rw[hyn,hym]at hue;clear i1 i2 hyn hym;have HD4:=Lh (HRA.out HCA.out.1 gd (getG_memR hf));have HF:=Lh hf;obtain⟨ynm,ytg,ygn,yla,yro,yca,yL,yR⟩:=gd;simp only[golL]at hue;subst hue
         obtain⟨W8,hW8⟩: ∃W8,putL hb_ 0 [.string ynm, .int .u32 ytg, .int .i64 ygn, .int .i64 yla, .int .i64 yro, .int .i64 yca, .slice ya yn yk, .slice yb ym yl] W7=W8:=⟨_,rfl⟩;have HV8:Hid (VarL W8 hb_ [.string ynm, .int .u32 ytg, .int .i64 ygn, .int .i64 yla, .int .i64 yro, .int .i64 yca, .slice ya yn yk, .slice yb ym yl]):=Lh (by rw[←hW8];exact putL_var [.string ynm, .int .u32 ytg, .int .i64 ygn, .int .i64 yla, .int .i64 yro, .int .i64 yca, .slice ya yn yk, .slice yb ym yl] [] [.string ⟨#[]⟩, .int .u32 0, .int .i64 0, .int .i64 0, .int .i64 0, .int .i64 0, .slice none 0 0, .slice none 0 0] W7 V7 rfl);have hb8:Below w6.heap.size w6 W8:=(by rw[←hW8];exact putL_below _ (by omega) _ _ b7);have HB8:=Lh (below_step HB6.out hb8);have HR8:=Lh (HR6.out.below hb8);have HSZ8:Hid (B≤W8.heap.size):=Lh (by have:=HB8.out.size;have:=HBB.out;omega);have HIB:=Lh (inboth_any _ _ _ _ W8 (HGD.out.below (show Below W5.heap.size W5 W8 from below_step h6 hb8)) (HGI.out.below (below_step HBW.out HB8.out)) (Kz HD4.out (by decide)) (Kz HG4.out (by decide)));have HACC:Hid (nowT a b (i+1)=nowT a b i++bothT ⟨ynm,ytg,ygn,yla,yro,yca,yL,yR⟩ ⟨xnm,xtg,xgn,xla,xro,xca,xL,xR⟩):=Lh (by rw[HSU.out];unfold goalT;rw[show getG a.goals xnm=_ from HF.out]);have HLE:Hid (((nowT a b i).map turV).length+((bothT ⟨ynm,ytg,ygn,yla,yro,yca,yL,yR⟩ ⟨xnm,xtg,xgn,xla,xro,xca,xL,xR⟩).map turV).length≤1000000):=Lh (by have:=HNL.out HCA.out.1 HCA.out.2 (i+1);rw[HACC.out,Kq]at this;rw[Ky,Ky];omega);have p0:=HV8.out.c 0 rfl;have p1:=HV8.out.c 1 rfl;have p2:=HV8.out.c 2 rfl;have p3:=HV8.out.c 3 rfl;have p4:=HV8.out.c 4 rfl;have p5:=HV8.out.c 5 rfl;have p6:=HV8.out.c 6 rfl;have p7:=HV8.out.c 7 rfl;have m0:=(HV6.out.after hb8).c 0 rfl;have m1:=(HV6.out.after hb8).c 1 rfl;have m2:=(HV6.out.after hb8).c 2 rfl;have m3:=(HV6.out.after hb8).c 3 rfl;have m4:=(HV6.out.after hb8).c 4 rfl;have m5:=(HV6.out.after hb8).c 5 rfl;have m6:=(HV6.out.after hb8).c 6 rfl;have m7:=(HV6.out.after hb8).c 7 rfl;simp only[putL,Ly]at hW8;clear hf h6 hb8 b7 z7 V7)
       |(simp only[zGol];obtain⟨W8,hW8⟩: ∃W8,putL hb_ 0 [.string ⟨#[]⟩, .int .u32 0, .int .i64 0, .int .i64 0, .int .i64 0, .int .i64 0, .slice none 0 0, .slice none 0 0] W7=W8:=⟨_,rfl⟩;have HV8:Hid (VarL W8 hb_ [.string ⟨#[]⟩, .int .u32 0, .int .i64 0, .int .i64 0, .int .i64 0, .int .i64 0, .slice none 0 0, .slice none 0 0]):=Lh (by rw[←hW8];exact putL_var [.string ⟨#[]⟩, .int .u32 0, .int .i64 0, .int .i64 0, .int .i64 0, .int .i64 0, .slice none 0 0, .slice none 0 0] [] [.string ⟨#[]⟩, .int .u32 0, .int .i64 0, .int .i64 0, .int .i64 0, .int .i64 0, .slice none 0 0, .slice none 0 0] W7 V7 rfl);have hb8:Below w6.heap.size w6 W8:=(by rw[←hW8];exact putL_below _ (by omega) _ _ b7);have HB8:=Lh (below_step HB6.out hb8);have HR8:=Lh (HR6.out.below hb8);have HSZ8:Hid (B≤W8.heap.size):=Lh (by have:=HB8.out.size;have:=HBB.out;omega);have HIB:=Lh (inone_any _ 1 _ W8 (HGI.out.below (below_step HBW.out HB8.out)) (Kz HG4.out (by decide)));have HACC:Hid (nowT a b (i+1)=nowT a b i++newT ⟨xnm,xtg,xgn,xla,xro,xca,xL,xR⟩ 1):=Lh (by rw[HSU.out];unfold goalT;rw[show getG a.goals xnm=_ from hf]);have HLE:Hid (((nowT a b i).map turV).length+((newT ⟨xnm,xtg,xgn,xla,xro,xca,xL,xR⟩ 1).map turV).length≤1000000):=Lh (by have:=HNL.out HCA.out.1 HCA.out.2 (i+1);rw[HACC.out,Kq]at this;rw[Ky,Ky];omega);have m0:=(HV6.out.after hb8).c 0 rfl;have m1:=(HV6.out.after hb8).c 1 rfl;have m2:=(HV6.out.after hb8).c 2 rfl;have m3:=(HV6.out.after hb8).c 3 rfl;have m4:=(HV6.out.after hb8).c 4 rfl;have m5:=(HV6.out.after hb8).c 5 rfl;have m6:=(HV6.out.after hb8).c 6 rfl;have m7:=(HV6.out.after hb8).c 7 rfl;simp only[putL,Ly]at hW8;clear hf h6 hb8 b7 z7 V7))
      |(go_at_call 20;(with_reducible refine(HIB.out).mono ?_);intro e W9 hx;obtain⟨ad,n9,c9,rfl,hn9,ht,h9⟩:=hx.form;have HB9:=Lh (below_step HB8.out h9);have HR9:=Lh (HR8.out.below h9);have HSZ9:Hid (B≤W9.heap.size):=Lh (Kz HSZ8.out h9.size);have HT9:=Lh ht;have HN9:=Lh hn9;clear h9 ht hn9;have HKX:=(‹∀(a:Act) (w_1:World),wpList _ _ _ _ a w_1→_›);refine HKX _ _ ?_;clear HKX;(refine wp_rowKs (T:=29) (t:=37) (sz:=3) rfl _ _ rfl Tryd.underlying29 info_turn rfl (by decide) (by decide) B _ _ rfl HR9.out ad n9 c9 _ rfl HN9.out.symm HT9.out.cellsIn (tur_one _) HLE.out HSZ9.out ?_);intro v' w' hrow' ho' _;have HRY:Hid (Turs w' B v' (nowT a b (i+1))):=Lh (by rw[HACC.out];exact turs_app hrow');have HBY:Hid (Below W1.heap.size W1 w'):=Lh (HB9.out.trans (by rw[HBB.out.1];exact ho'.bel));clear hrow' ho')
      |(go_at_call 21;(with_reducible refine(HIB.out).mono ?_);intro e W9 hx;obtain⟨ad,n9,c9,rfl,hn9,ht,h9⟩:=hx.form;have HB9:=Lh (below_step HB8.out h9);have HR9:=Lh (HR8.out.below h9);have HSZ9:Hid (B≤W9.heap.size):=Lh (Kz HSZ8.out h9.size);have HT9:=Lh ht;have HN9:=Lh hn9;clear h9 ht hn9;have HKX:=(‹∀(a:Act) (w_1:World),wpList _ _ _ _ a w_1→_›);refine HKX _ _ ?_;clear HKX;(refine wp_rowKs (T:=29) (t:=37) (sz:=3) rfl _ _ rfl Tryd.underlying29 info_turn rfl (by decide) (by decide) B _ _ rfl HR9.out ad n9 c9 _ rfl HN9.out.symm HT9.out.cellsIn (tur_one _) HLE.out HSZ9.out ?_);intro v' w' hrow' ho' _;have HRY:Hid (Turs w' B v' (nowT a b (i+1))):=Lh (by rw[HACC.out];exact turs_app hrow');have HBY:Hid (Below W1.heap.size W1 w'):=Lh (HB9.out.trans (by rw[HBB.out.1];exact ho'.bel));clear hrow' ho'))
     all_goals
      go_roundw
      case rel=>exact⟨i+1,by omega,by go_num,HRY.out,by have:=HBY.out;rw[HBB.out.1]at this;exact this⟩
      case measure=>simp[intOf];omega
    ·have en:n=i:=by omega
     subst en
     have e0:=(HV0.out.after hbw0).c 0 rfl
     clear hrow hb hbw hbw0
     go_wp2
     go_loopw [6,52] (fun v6 vi wr=> ∃i:Nat,i≤m∧vi= .int .i64 (i:Int)∧Turs wr B v6 (nowT a b n++outT a b i)∧Below B W1 wr) (fun _ vi _=>m-(intOf vi).toNat)
     case atStart=>exact⟨0,Nat.zero_le _,rfl,by rw[HO0.out,List.append_nil];exact HR.out,by have:=HBR.out;rw[HBB.out.1]at this;exact this⟩
     case round=>
      clear HR HBR e0 hi
      obtain⟨i,hi,rfl,hrow,hb⟩:=hrel
      have HR:=Lh hrow
      have hbw0:Below W1.heap.size W1 wr:=by rw[HBB.out.1];exact hb
      have HBR:=Lh hbw0
      have hbw:=below_step HBW.out hbw0
      by_cases hin:i<m
      ·obtain⟨g,u,hgi,hui,hgol⟩:=HUA.out i hin
       have HGI:=Lh hgol
       obtain⟨lv,rv,hue,i1,i2⟩:=hgol
       obtain⟨bk,off,rfl,hlt,hcell⟩:=HKA.out.at i _ hui
       obtain⟨xa,xk,rfl,_⟩:=i1.size
       obtain⟨xb,xl,rfl,_⟩:=i2.size
       obtain⟨xn,hxn⟩: ∃n,(g.labels.map labV).length=n:=⟨_,rfl⟩
       obtain⟨xm,hxm⟩: ∃n,(g.rules.map rulV).length=n:=⟨_,rfl⟩
       rw[hxn,hxm]at hue
       have HMG:=Lh (List.mem_of_getElem? hgi)
       have HSU:=Lh (HOS.out i g hgi)
       have HG4:=Lh (HRA.out HCA.out.1 g HMG.out)
       clear i1 i2 hxn hxm
       obtain⟨xnm,xtg,xgn,xla,xro,xca,xL,xR⟩:=g
       simp only[golL]at hue
       subst hue
       have f0:wr.cell? ⟨bk,off+i*8,none⟩=some (.string xnm):=(hbw.cell (p:=⟨bk,off+i*8,none⟩) hlt).trans (hcell 0 _ rfl);have f1:wr.cell? ⟨bk,off+i*8+1,none⟩=some (.int .u32 xtg):=(hbw.cell (p:=⟨bk,off+i*8+1,none⟩) hlt).trans (hcell 1 _ rfl);have f2:wr.cell? ⟨bk,off+i*8+2,none⟩=some (.int .i64 xgn):=(hbw.cell (p:=⟨bk,off+i*8+2,none⟩) hlt).trans (hcell 2 _ rfl);have f3:wr.cell? ⟨bk,off+i*8+3,none⟩=some (.int .i64 xla):=(hbw.cell (p:=⟨bk,off+i*8+3,none⟩) hlt).trans (hcell 3 _ rfl);have f4:wr.cell? ⟨bk,off+i*8+4,none⟩=some (.int .i64 xro):=(hbw.cell (p:=⟨bk,off+i*8+4,none⟩) hlt).trans (hcell 4 _ rfl);have f5:wr.cell? ⟨bk,off+i*8+5,none⟩=some (.int .i64 xca):=(hbw.cell (p:=⟨bk,off+i*8+5,none⟩) hlt).trans (hcell 5 _ rfl);have f6:wr.cell? ⟨bk,off+i*8+6,none⟩=some (.slice xa xn xk):=(hbw.cell (p:=⟨bk,off+i*8+6,none⟩) hlt).trans (hcell 6 _ rfl);have f7:wr.cell? ⟨bk,off+i*8+7,none⟩=some (.slice xb xm xl):=(hbw.cell (p:=⟨bk,off+i*8+7,none⟩) hlt).trans (hcell 7 _ rfl)
       have hi1:IntKind.i64.wrap ((i:Int)+1)=((i+1:Nat):Int):=by have:=HMN.out;rw[IntKind.wrap_i64];omega
       obtain⟨gb,W4,hgb,hW4,V4,b4,z4⟩:=boxL wr [.string ⟨#[]⟩, .int .u32 0, .int .i64 0, .int .i64 0, .int .i64 0, .int .i64 0, .slice none 0 0, .slice none 0 0] 44
       have c0:=V4.c 0 rfl;have q0:=V4.q 0 rfl;have c1:=V4.c 1 rfl;have q1:=V4.q 1 rfl;have c2:=V4.c 2 rfl;have q2:=V4.q 2 rfl;have c3:=V4.c 3 rfl;have q3:=V4.q 3 rfl;have c4:=V4.c 4 rfl;have q4:=V4.q 4 rfl;have c5:=V4.c 5 rfl;have q5:=V4.q 5 rfl;have c6:=V4.c 6 rfl;have q6:=V4.q 6 rfl;have c7:=V4.c 7 rfl;have q7:=V4.q 7 rfl
       obtain⟨W5,hW5⟩: ∃W5,putL gb 0 [.string xnm, .int .u32 xtg, .int .i64 xgn, .int .i64 xla, .int .i64 xro, .int .i64 xca, .slice xa xn xk, .slice xb xm xl] W4=W5:=⟨_,rfl⟩
       have HV5:Hid (VarL W5 gb [.string xnm, .int .u32 xtg, .int .i64 xgn, .int .i64 xla, .int .i64 xro, .int .i64 xca, .slice xa xn xk, .slice xb xm xl]):=Lh (by rw[←hW5];exact putL_var [.string xnm, .int .u32 xtg, .int .i64 xgn, .int .i64 xla, .int .i64 xro, .int .i64 xca, .slice xa xn xk, .slice xb xm xl] [] [.string ⟨#[]⟩, .int .u32 0, .int .i64 0, .int .i64 0, .int .i64 0, .int .i64 0, .slice none 0 0, .slice none 0 0] W4 V4 rfl)
       have hb5:Below wr.heap.size wr W5:=by rw[←hW5];exact putL_below _ (by omega) _ _ b4
       have HB5:=Lh (below_step HBR.out hb5)
       have HBW5:=Lh (below_step HBW.out HB5.out)
       have HR5:=Lh (HR.out.below hb5)
       have HGN:=Lh (goal_named _ xnm _ W5 (HGB.out W5 HBW5.out) (by have:=HSA.out;omega))
       have x0:=(HV1.out.after HB5.out).c 0 rfl
       have d0:=HV5.out.c 0 rfl
       have hia:(i:Int)<(m:Int):=by omega
       simp only[putL,Ly]at hW5
       clear hgi hui hlt hcell hb hbw hbw0 hrow b4 z4 V4 hb5 e0
       go_wp2_with (first
        |(go_at_call 19;(with_reducible refine(HGN.out).mono ?_);rintro e w6 ⟨cs,bb,rfl,hor,h6⟩;have HB6:=Lh (below_step HB5.out h6);have HV6:=Lh (HV5.out.after h6);have HR6:=Lh (HR5.out.below h6);obtain⟨hb_,W7,hyb,hW7,V7,b7,z7⟩:=boxL w6 [.string ⟨#[]⟩, .int .u32 0, .int .i64 0, .int .i64 0, .int .i64 0, .int .i64 0, .slice none 0 0, .slice none 0 0] 44;have k0:=V7.c 0 rfl;have l0:=V7.q 0 rfl;have k1:=V7.c 1 rfl;have l1:=V7.q 1 rfl;have k2:=V7.c 2 rfl;have l2:=V7.q 2 rfl;have k3:=V7.c 3 rfl;have l3:=V7.q 3 rfl;have k4:=V7.c 4 rfl;have l4:=V7.q 4 rfl;have k5:=V7.c 5 rfl;have l5:=V7.q 5 rfl;have k6:=V7.c 6 rfl;have l6:=V7.q 6 rfl;have k7:=V7.c 7 rfl;have l7:=V7.q 7 rfl;rcases hor with⟨rfl,gd,ud,hf,rfl,hgd⟩|⟨rfl,hf,rfl⟩<;>first
         |(have HGD:=Lh hgd;obtain⟨lv,rv,hue,i1,i2⟩:=hgd;obtain⟨ya,yk,rfl,_⟩:=i1.size;obtain⟨yb,yl,rfl,_⟩:=i2.size;obtain⟨yn,hyn⟩: ∃n,(gd.labels.map labV).length=n:=⟨_,rfl⟩;obtain⟨ym,hym⟩: ∃n,(gd.rules.map rulV).length=n:=⟨_,rfl⟩;rw[hyn,hym]at hue;clear i1 i2 hyn hym;have HD4:=Lh (HRB.out HCA.out.2 gd (getG_memR hf));have HF:=Lh hf;obtain⟨ynm,ytg,ygn,yla,yro,yca,yL,yR⟩:=gd;simp only[golL]at hue;subst hue
           obtain⟨W8,hW8⟩: ∃W8,putL hb_ 0 [.string ynm, .int .u32 ytg, .int .i64 ygn, .int .i64 yla, .int .i64 yro, .int .i64 yca, .slice ya yn yk, .slice yb ym yl] W7=W8:=⟨_,rfl⟩;have HV8:Hid (VarL W8 hb_ [.string ynm, .int .u32 ytg, .int .i64 ygn, .int .i64 yla, .int .i64 yro, .int .i64 yca, .slice ya yn yk, .slice yb ym yl]):=Lh (by rw[←hW8];exact putL_var [.string ynm, .int .u32 ytg, .int .i64 ygn, .int .i64 yla, .int .i64 yro, .int .i64 yca, .slice ya yn yk, .slice yb ym yl] [] [.string ⟨#[]⟩, .int .u32 0, .int .i64 0, .int .i64 0, .int .i64 0, .int .i64 0, .slice none 0 0, .slice none 0 0] W7 V7 rfl);have hb8:Below w6.heap.size w6 W8:=(by rw[←hW8];exact putL_below _ (by omega) _ _ b7);have HB8:=Lh (below_step HB6.out hb8);have HR8:=Lh (HR6.out.below hb8);have HSZ8:Hid (B≤W8.heap.size):=Lh (by have:=HB8.out.size;have:=HBB.out;omega);have HRY:Hid (Turs W8 B _ (nowT a b n++outT a b (i+1))):=Lh (by rw[HSU.out];unfold goneT;rw[show getG b.goals xnm=_ from HF.out,List.append_nil];exact HR8.out);have HBY:=Lh HB8.out;have p0:=HV8.out.c 0 rfl;have p1:=HV8.out.c 1 rfl;have p2:=HV8.out.c 2 rfl;have p3:=HV8.out.c 3 rfl;have p4:=HV8.out.c 4 rfl;have p5:=HV8.out.c 5 rfl;have p6:=HV8.out.c 6 rfl;have p7:=HV8.out.c 7 rfl;have m0:=(HV6.out.after hb8).c 0 rfl;have m1:=(HV6.out.after hb8).c 1 rfl;have m2:=(HV6.out.after hb8).c 2 rfl;have m3:=(HV6.out.after hb8).c 3 rfl;have m4:=(HV6.out.after hb8).c 4 rfl;have m5:=(HV6.out.after hb8).c 5 rfl;have m6:=(HV6.out.after hb8).c 6 rfl;have m7:=(HV6.out.after hb8).c 7 rfl;simp only[putL,Ly]at hW8;clear hf h6 hb8 b7 z7 V7)
         |(simp only[zGol];obtain⟨W8,hW8⟩: ∃W8,putL hb_ 0 [.string ⟨#[]⟩, .int .u32 0, .int .i64 0, .int .i64 0, .int .i64 0, .int .i64 0, .slice none 0 0, .slice none 0 0] W7=W8:=⟨_,rfl⟩;have HV8:Hid (VarL W8 hb_ [.string ⟨#[]⟩, .int .u32 0, .int .i64 0, .int .i64 0, .int .i64 0, .int .i64 0, .slice none 0 0, .slice none 0 0]):=Lh (by rw[←hW8];exact putL_var [.string ⟨#[]⟩, .int .u32 0, .int .i64 0, .int .i64 0, .int .i64 0, .int .i64 0, .slice none 0 0, .slice none 0 0] [] [.string ⟨#[]⟩, .int .u32 0, .int .i64 0, .int .i64 0, .int .i64 0, .int .i64 0, .slice none 0 0, .slice none 0 0] W7 V7 rfl);have hb8:Below w6.heap.size w6 W8:=(by rw[←hW8];exact putL_below _ (by omega) _ _ b7);have HB8:=Lh (below_step HB6.out hb8);have HR8:=Lh (HR6.out.below hb8);have HSZ8:Hid (B≤W8.heap.size):=Lh (by have:=HB8.out.size;have:=HBB.out;omega);have HIB:=Lh (inone_any _ 4 _ W8 (HGI.out.below (below_step HBW.out HB8.out)) (Kz HG4.out (by decide)));have HACC:Hid (nowT a b n++outT a b (i+1)=(nowT a b n++outT a b i)++newT ⟨xnm,xtg,xgn,xla,xro,xca,xL,xR⟩ 4):=Lh (by rw[HSU.out];unfold goneT;rw[show getG b.goals xnm=_ from hf,List.append_assoc]);have HLE:Hid (((nowT a b n++outT a b i).map turV).length+((newT ⟨xnm,xtg,xgn,xla,xro,xca,xL,xR⟩ 4).map turV).length≤1000000):=Lh (by have:=HNL.out HCA.out.1 HCA.out.2 n;have:=HOL.out HCA.out.1 i;have hx:(newT ⟨xnm,xtg,xgn,xla,xro,xca,xL,xR⟩ 4).length≤5:=(by rw[newT_len];exact Nat.succ_le_succ HG4.out);rw[Ky,Ky,Kq];omega);have m0:=(HV6.out.after hb8).c 0 rfl;have m1:=(HV6.out.after hb8).c 1 rfl;have m2:=(HV6.out.after hb8).c 2 rfl;have m3:=(HV6.out.after hb8).c 3 rfl;have m4:=(HV6.out.after hb8).c 4 rfl;have m5:=(HV6.out.after hb8).c 5 rfl;have m6:=(HV6.out.after hb8).c 6 rfl;have m7:=(HV6.out.after hb8).c 7 rfl;simp only[putL,Ly]at hW8;clear hf h6 hb8 b7 z7 V7))
        |(go_at_call 21;(with_reducible refine(HIB.out).mono ?_);intro e W9 hx;obtain⟨ad,n9,c9,rfl,hn9,ht,h9⟩:=hx.form;have HB9:=Lh (below_step HB8.out h9);have HR9:=Lh (HR8.out.below h9);have HSZ9:Hid (B≤W9.heap.size):=Lh (Kz HSZ8.out h9.size);have HT9:=Lh ht;have HN9:=Lh hn9;clear h9 ht hn9;have HKX:=(‹∀(a:Act) (w_1:World),wpList _ _ _ _ a w_1→_›);refine HKX _ _ ?_;clear HKX;(refine wp_rowKs (T:=29) (t:=37) (sz:=3) rfl _ _ rfl Tryd.underlying29 info_turn rfl (by decide) (by decide) B _ _ rfl HR9.out ad n9 c9 _ rfl HN9.out.symm HT9.out.cellsIn (tur_one _) HLE.out HSZ9.out ?_);intro v' w' hrow' ho' _;have HRY:Hid (Turs w' B v' (nowT a b n++outT a b (i+1))):=Lh (by rw[HACC.out];exact turs_app hrow');have HBY:Hid (Below W1.heap.size W1 w'):=Lh (HB9.out.trans (by rw[HBB.out.1];exact ho'.bel));clear hrow' ho'))
       all_goals
        go_roundw
        case rel=>exact⟨i+1,by omega,by go_num,HRY.out,by have:=HBY.out;rw[HBB.out.1]at this;exact this⟩
        case measure=>simp[intOf];omega
      ·have en:m=i:=by omega
       subst en
       clear hrow hb hbw hbw0
       go_wp2
       go_ret2
       exact GivesPl.yes HCA.out.1 HCA.out.2 (by rw[HPE.out];exact HR.out.weaken HBB.out.2) (below_step HBW.out HBR.out)
end
end Go.Proofs.YtgmfkbamfnkbgaaDoor
