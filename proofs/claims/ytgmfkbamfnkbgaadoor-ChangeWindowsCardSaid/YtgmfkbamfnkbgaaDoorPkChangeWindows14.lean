/-
  Package change: what becomes of all: walked.
-/
import Derived.Test.YtgmfkbamfnkbgaaDoorPkChangeWindows11
import Derived.Test.YtgmfkbamfnkbgaaDoorPkChangeWindows12
set_option maxRecDepth 100000
set_option maxHeartbeats 16000000
namespace Go.Proofs.YtgmfkbamfnkbgaaDoor
open Lib renaming hid→Lh
open Nat renaming zero_add→Ly,le_trans→Kz
open List renaming getElem?_eq_getElem→Kh,length_append→Kq,length_map→Ky
section
open Go.RowKit
theorem RowK.cellsIn {t:TypeId} {sz:Nat} {w:World} {base n cap:Nat} {a:Option Addr} {vs:List (List Value)} (h:RowK t sz w base (.slice a n cap) vs):CellsAt sz w a vs:=
 ⟨h.wid,fun i hi=>by
  obtain⟨g,c,e,_⟩:=h.form (by omega)
  simp only[Value.slice.injEq]at e
  obtain⟨rfl,rfl,rfl⟩:=e
  exact⟨g,0,rfl,fun j hj=>by rw[Ly];exact h.at i j hi hj⟩⟩
theorem flat_len {α β:Type} (f:α→List β) (k:Nat): ∀l:List α,(∀x∈l,(f x).length≤k)→(l.flatMap f).length≤k*l.length
 | [],_=>by simp
 |x::l,h=>by
  have h1:=h x (List.mem_cons_self ..)
  have h2:=flat_len f k l (fun y hy=>h y (List.mem_cons_of_mem _ hy))
  rw[List.flatMap_cons,Kq,List.length_cons,Nat.mul_add]
  omega
theorem conf_rules {c:CfC} (h:ConfOk c) {g:GlC} (hg:g∈c.goals):g.rules.length≤4:=by
 obtain⟨i,hi,e⟩:=List.getElem_of_mem hg
 exact((h.go i g hi (by rw[Kh hi,e])).1).m2
theorem newT_len (g:GlC) (k:Int):(newT g k).length=g.rules.length+1:=by
 unfold newT
 simp
theorem bothT_len (a b:GlC):(bothT a b).length≤a.rules.length+b.rules.length+1:=by
 rw[bothT_eq a b rfl rfl,Kq]
 have:=headT_len a b b.rules.length
 have:=restT_len a b a.rules.length
 omega
theorem getG_memR {gs:List GlC} {n:ByteArray} {g:GlC} (h:getG gs n=some g):g∈gs:=List.mem_of_find?_eq_some h
theorem goalT_len {c1:CfC} (h:ConfOk c1) {g:GlC} (hg:g.rules.length≤4):(goalT c1.goals g).length≤9:=by
 unfold goalT
 cases e:getG c1.goals g.name with
 |none=>simp only;rw[newT_len];omega
 |some was=>simp only;have:=bothT_len was g;have:=conf_rules h (getG_memR e);omega
theorem goneT_len (gs:List GlC) {g:GlC} (hg:g.rules.length≤4):(goneT gs g).length≤9:=by
 unfold goneT
 cases e:getG gs g.name with
 |none=>simp only;rw[newT_len];omega
 |some was=>simp
def nowT (a b:CfC) (i:Nat):List TrC:=(b.goals.take i).flatMap (goalT a.goals)
def outT (a b:CfC) (i:Nat):List TrC:=(a.goals.take i).flatMap (goneT b.goals)
theorem nowT_succ (a b:CfC) (i:Nat) {g:GlC} (h:b.goals[i]?=some g):nowT a b (i+1)=nowT a b i++goalT a.goals g:=by
 unfold nowT
 rw[List.take_add_one,h,List.flatMap_append]
 simp
theorem outT_succ (a b:CfC) (i:Nat) {g:GlC} (h:a.goals[i]?=some g):outT a b (i+1)=outT a b i++goneT b.goals g:=by
 unfold outT
 rw[List.take_add_one,h,List.flatMap_append]
 simp
theorem nowT_len {a b:CfC} (h:ConfOk a) (h2:ConfOk b) (i:Nat):(nowT a b i).length≤54:=by
 have:=flat_len (goalT a.goals) 9 (b.goals.take i) (fun g hg=>goalT_len h (conf_rules h2 (List.mem_of_mem_take hg)))
 have h3:=h2.n1
 rw[List.length_take]at this
 unfold nowT
 omega
theorem outT_len {a b:CfC} (h:ConfOk a) (i:Nat):(outT a b i).length≤54:=by
 have:=flat_len (goneT b.goals) 9 (a.goals.take i) (fun g hg=>goneT_len _ (conf_rules h (List.mem_of_mem_take hg)))
 have h3:=h.n1
 rw[List.length_take]at this
 unfold outT
 omega
theorem plan_eq (a b:CfC) {m n:Nat} (hm:b.goals.length=m) (hn:a.goals.length=n):planS a.goals b.goals=nowT a b m++outT a b n:=by
 unfold planS nowT outT
 rw[←hm,←hn,List.take_length,List.take_length]
theorem turs_app {w:World} {base:Nat} {v:Value} {l m:List TrC} (h:RowK 37 3 w base v (l.map turV++m.map turV)):Turs w base v (l++m):=by
 unfold Turs
 rw[List.map_append]
 exact h
theorem GivesT.form {l:List TrC} {w w':World} {e:Ending} (h:GivesT l w e w'): ∃ad n c,e= .returned (.slice ad n c)∧(l.map turV).length=n∧Turs w' w.heap.size (.slice ad n c) l∧Below w.heap.size w w':=by
 obtain⟨v,h1,h2,h3⟩:=h
 obtain⟨a,c,e2⟩:=h2.size
 exact⟨a,_,c,by rw[h1,e2],rfl,by rw[←e2];exact h2,h3⟩
def GivesPl (a b:CfC) (w:World) (e:Ending) (w':World):Prop:=
 ((ConfOk a∧ConfOk b∧∃v,e= .returned (.tuple #[v, .int .i64 0])∧Turs w' w.heap.size v (planS a.goals b.goals))∨(¬(ConfOk a∧ConfOk b)∧e= .returned (.tuple #[.slice none 0 0, .int .i64 2])))∧Below w.heap.size w w'
theorem GivesPl.no {a b:CfC} {w w':World} (h: ¬(ConfOk a∧ConfOk b)) (hb:Below w.heap.size w w'):GivesPl a b w (.returned (.tuple #[.slice none 0 0, .int .i64 2])) w':=⟨Or.inr ⟨h,rfl⟩,hb⟩
theorem GivesPl.yes {a b:CfC} {w w':World} {v:Value} (h1:ConfOk a) (h2:ConfOk b) (h:Turs w' w.heap.size v (planS a.goals b.goals)) (hb:Below w.heap.size w w'):GivesPl a b w (.returned (.tuple #[v, .int .i64 0])) w':=⟨Or.inl ⟨h1,h2,v,rfl,h⟩,hb⟩
theorem plan_any (a b:CfC) (v1 v2:Value) (w:World) (env:Env w) (h1:ConfI w v1 a) (h2:ConfI w v2 b) (s1:CfS a) (s2:CfS b):Calls Tryd.prog 8 #[v1,v2] w (GivesPl a b w):=by
 obtain⟨p,hp⟩:=shq_of (ConfOk a)
 obtain⟨q,hq⟩:=shq_of (ConfOk b)
 have HP:=Lh hp
 have HQ:=Lh hq
 have HR1:=Lh (fun W (hb:Below w.heap.size w W)=>GivesQ.is hp (wright_any a v1 W (env.step hb) (h1.below hb) s1))
 have HR2:=Lh (fun W (hb:Below w.heap.size w W)=>GivesQ.is hq (wright_any b v2 W (env.step hb) (h2.below hb) s2))
 obtain⟨gv1,rfl,us,hk,hl,hg⟩:=h1
 obtain⟨gv2,rfl,ut,ik,il,ig⟩:=h2
 obtain⟨ga,gc,rfl,hgc⟩:=hk.size
 obtain⟨ia,ic,rfl,hic⟩:=ik.size
 obtain⟨m,hm⟩: ∃m,us.length=m:=⟨_,rfl⟩
 obtain⟨n,hn⟩: ∃n,ut.length=n:=⟨_,rfl⟩
 have HPE:=Lh (plan_eq a b (m:=n) (n:=m) (by rw[←hn,il]) (by rw[←hm,hl]))
 have HNS:=Lh (fun i g h=> @nowT_succ a b i g h)
 have HOS:=Lh (fun i g h=> @outT_succ a b i g h)
 have HNL:=Lh (fun(x:ConfOk a) (y:ConfOk b) i=>nowT_len x y i)
 have HOL:=Lh (fun(x:ConfOk a) i=> @outT_len a b x i)
 have HN0:Hid (nowT a b 0= []):=Lh (by unfold nowT;simp)
 have HO0:Hid (outT a b 0= []):=Lh (by unfold outT;simp)
 have HRA:=Lh (fun(x:ConfOk a) g (h:g∈a.goals)=>conf_rules x h)
 have HRB:=Lh (fun(x:ConfOk b) g (h:g∈b.goals)=>conf_rules x h)
 have HUA:Hid (∀i,i<m→∃g u,a.goals[i]?=some g∧us[i]?=some u∧GolI w u g):=Lh (fun i hi=>⟨a.goals[i],us[i],Kh (by omega),Kh (by omega),hg i _ _ (Kh (by omega)) (Kh (by omega))⟩)
 have HUB:Hid (∀i,i<n→∃g u,b.goals[i]?=some g∧ut[i]?=some u∧GolI w u g):=Lh (fun i hi=>⟨b.goals[i],ut[i],Kh (by omega),Kh (by omega),ig i _ _ (Kh (by omega)) (Kh (by omega))⟩)
 have HGA:=Lh (fun W (hb:Below w.heap.size w W)=>(⟨us,hk.below hb,hl,fun i u g x y=>(hg i u g x y).below hb⟩:GolsI W (.slice ga us.length gc) a.goals))
 have HGB:=Lh (fun W (hb:Below w.heap.size w W)=>(⟨ut,ik.below hb,il,fun i u g x y=>(ig i u g x y).below hb⟩:GolsI W (.slice ia ut.length ic) b.goals))
 have HKA:=Lh hk
 have HKB:=Lh ik
 have HMN:Hid (m≤1000000∧n≤1000000):=Lh ⟨by have:=s1.2;omega,by have:=s2.2;omega⟩
 have HSA:Hid (a.goals.length≤1000000∧b.goals.length≤1000000):=Lh ⟨s1.2,s2.2⟩
 rw[hm]at hgc HR1 HGA HKA ⊢
 rw[hn]at hic HR2 HGB HKB ⊢
 clear hp hq env s1 s2 hk hl hg ik il ig hm hn
 simp only[confL]at HR1 HR2 ⊢
 obtain⟨cb,W0,hcb,hW0,V0,b0,z0⟩:=boxL w [.slice ga m gc, .int .i64 a.room, .int .i64 a.reserve, .int .i64 a.first, .int .i64 a.cap, .int .i64 a.again] 26
 obtain⟨db,W1,hdb,hW1,V1,b1,z1⟩:=boxL W0 [.slice ia n ic, .int .i64 b.room, .int .i64 b.reserve, .int .i64 b.first, .int .i64 b.cap, .int .i64 b.again] 26
 have HV0:=Lh (V0.after b1)
 have HV1:=Lh V1
 have HBW:=Lh (below_step b0 b1)
 obtain⟨B,hB⟩: ∃B,W1.heap.size=B:=⟨_,rfl⟩
 have HBB:Hid (W1.heap.size=B∧w.heap.size≤B):=Lh ⟨hB,by have:=(below_step b0 b1).size;omega⟩
 have a0:=HV0.out.c 0 rfl;have a1:=HV0.out.c 1 rfl;have a2:=HV0.out.c 2 rfl;have a3:=HV0.out.c 3 rfl;have a4:=HV0.out.c 4 rfl;have a5:=HV0.out.c 5 rfl
 have e0:=HV1.out.c 0 rfl;have e1:=HV1.out.c 1 rfl;have e2:=HV1.out.c 2 rfl;have e3:=HV1.out.c 3 rfl;have e4:=HV1.out.c 4 rfl;have e5:=HV1.out.c 5 rfl
 clear V0 V1 b0 b1 z0 z1 hB
 have HRC1:=Lh (HR1.out W1 HBW.out)
 cases p
 ·have HNO:Hid (¬(ConfOk a∧ConfOk b)):=Lh (fun h=>by have:=HP.out.mpr h.1;cases this)
  go_enter Tryd.func8,Tryd.ntmps8
  go_wp2_with (go_at_call 18;(with_reducible refine(HRC1.out).mono ?_);rintro e W2 ⟨rfl,h2⟩;have HB2:=Lh (below_step HBW.out h2);clear h2)
  go_ret2
  exact GivesPl.no HNO.out HB2.out
 ·cases q
  ·have HNO:Hid (¬(ConfOk a∧ConfOk b)):=Lh (fun h=>by have:=HQ.out.mpr h.2;cases this)
   go_enter Tryd.func8,Tryd.ntmps8
   go_wp2_with (first
    |(go_at_call 18;(with_reducible refine(HRC1.out).mono ?_);rintro e W2 ⟨rfl,h2⟩;have HB2:=Lh (below_step HBW.out h2);clear HRC1;have r0:=(HV1.out.after h2).c 0 rfl;have r1:=(HV1.out.after h2).c 1 rfl;have r2:=(HV1.out.after h2).c 2 rfl;have r3:=(HV1.out.after h2).c 3 rfl;have r4:=(HV1.out.after h2).c 4 rfl;have r5:=(HV1.out.after h2).c 5 rfl;have HRC2:=Lh (HR2.out W2 HB2.out);clear h2)
    |(go_at_call 18;(with_reducible refine(HRC2.out).mono ?_);rintro e W3 ⟨rfl,h3⟩;have HB3:=Lh (below_step HB2.out h3);clear h3))
   go_ret2
   exact GivesPl.no HNO.out HB3.out
  ·have HCA:Hid (ConfOk a∧ConfOk b):=Lh ⟨HP.out.mp rfl,HQ.out.mp rfl⟩
   go_enter Tryd.func8,Tryd.ntmps8
   go_wp2_with (first
    |(go_at_call 18;(with_reducible refine(HRC1.out).mono ?_);rintro e W2 ⟨rfl,h2⟩;have HB2:=Lh h2;clear HRC1;have r0:=(HV1.out.after h2).c 0 rfl;have r1:=(HV1.out.after h2).c 1 rfl;have r2:=(HV1.out.after h2).c 2 rfl;have r3:=(HV1.out.after h2).c 3 rfl;have r4:=(HV1.out.after h2).c 4 rfl;have r5:=(HV1.out.after h2).c 5 rfl;have HRC2:=Lh (HR2.out W2 (below_step HBW.out HB2.out));clear h2)
    |(go_at_call 18;(with_reducible refine(HRC2.out).mono ?_);rintro e W3 ⟨rfl,h3⟩;have HB3:=Lh (below_step HB2.out h3);clear h3;have e0:=(HV1.out.after HB3.out).c 0 rfl))
   go_loopw [6,26] (fun v6 vi wr=> ∃i:Nat,i≤n∧vi= .int .i64 (i:Int)∧Turs wr B v6 (nowT a b i)∧Below B W1 wr) (fun _ vi _=>n-(intOf vi).toNat)
   case atStart=>exact⟨0,Nat.zero_le _,rfl,by rw[HN0.out];exact RowK.nil _ _ _ _,by have:=HB3.out;rw[HBB.out.1]at this;exact this⟩
   case round=>
    obtain⟨i,hi,rfl,hrow,hb⟩:=hrel
    have HR:=Lh hrow
    have hbw0:Below W1.heap.size W1 wr:=by rw[HBB.out.1];exact hb
    have HBR:=Lh hbw0
    have hbw:=below_step HBW.out hbw0
    by_cases hin:i<n
    ·obtain⟨g,u,hgi,hui,hgol⟩:=HUB.out i hin
     have HGI:=Lh hgol
     obtain⟨lv,rv,hue,i1,i2⟩:=hgol
     obtain⟨bk,off,rfl,hlt,hcell⟩:=HKB.out.at i _ hui
     obtain⟨xa,xk,rfl,_⟩:=i1.size
     obtain⟨xb,xl,rfl,_⟩:=i2.size
     obtain⟨xn,hxn⟩: ∃n,(g.labels.map labV).length=n:=⟨_,rfl⟩
     obtain⟨xm,hxm⟩: ∃n,(g.rules.map rulV).length=n:=⟨_,rfl⟩
     rw[hxn,hxm]at hue
     have HMG:=Lh (List.mem_of_getElem? hgi)
     have HSU:=Lh (HNS.out i g hgi)
     have HG4:=Lh (HRB.out HCA.out.2 g HMG.out)
     clear i1 i2 hxn hxm
     obtain⟨xnm,xtg,xgn,xla,xro,xca,xL,xR⟩:=g
     simp only[golL]at hue
     subst hue
     have f0:wr.cell? ⟨bk,off+i*8,none⟩=some (.string xnm):=(hbw.cell (p:=⟨bk,off+i*8,none⟩) hlt).trans (hcell 0 _ rfl);have f1:wr.cell? ⟨bk,off+i*8+1,none⟩=some (.int .u32 xtg):=(hbw.cell (p:=⟨bk,off+i*8+1,none⟩) hlt).trans (hcell 1 _ rfl);have f2:wr.cell? ⟨bk,off+i*8+2,none⟩=some (.int .i64 xgn):=(hbw.cell (p:=⟨bk,off+i*8+2,none⟩) hlt).trans (hcell 2 _ rfl);have f3:wr.cell? ⟨bk,off+i*8+3,none⟩=some (.int .i64 xla):=(hbw.cell (p:=⟨bk,off+i*8+3,none⟩) hlt).trans (hcell 3 _ rfl);have f4:wr.cell? ⟨bk,off+i*8+4,none⟩=some (.int .i64 xro):=(hbw.cell (p:=⟨bk,off+i*8+4,none⟩) hlt).trans (hcell 4 _ rfl);have f5:wr.cell? ⟨bk,off+i*8+5,none⟩=some (.int .i64 xca):=(hbw.cell (p:=⟨bk,off+i*8+5,none⟩) hlt).trans (hcell 5 _ rfl);have f6:wr.cell? ⟨bk,off+i*8+6,none⟩=some (.slice xa xn xk):=(hbw.cell (p:=⟨bk,off+i*8+6,none⟩) hlt).trans (hcell 6 _ rfl);have f7:wr.cell? ⟨bk,off+i*8+7,none⟩=some (.slice xb xm xl):=(hbw.cell (p:=⟨bk,off+i*8+7,none⟩) hlt).trans (hcell 7 _ rfl)
     have hi1:IntKind.i64.wrap ((i:Int)+1)=((i+1:Nat):Int):=by have:=HMN.out;rw[IntKind.wrap_i64];omega
     obtain⟨gb,W4,hgb,hW4,V4,b4,z4⟩:=boxL wr [.string ⟨#[]⟩, .int .u32 0, .int .i64 0, .int .i64 0, .int .i64 0, .int .i64 0, .slice none 0 0, .slice none 0 0] 44
     have c0:=V4.c 0 rfl;have q0:=V4.q 0 rfl;have c1:=V4.c 1 rfl;have q1:=V4.q 1 rfl;have c2:=V4.c 2 rfl;have q2:=V4.q 2 rfl;have c3:=V4.c 3 rfl;have q3:=V4.q 3 rfl;have c4:=V4.c 4 rfl;have q4:=V4.q 4 rfl;have c5:=V4.c 5 rfl;have q5:=V4.q 5 rfl;have c6:=V4.c 6 rfl;have q6:=V4.q 6 rfl;have c7:=V4.c 7 rfl;have q7:=V4.q 7 rfl
     obtain⟨W5,hW5⟩: ∃W5,putL gb 0 [.string xnm, .int .u32 xtg, .int .i64 xgn, .int .i64 xla, .int .i64 xro, .int .i64 xca, .slice xa xn xk, .slice xb xm xl] W4=W5:=⟨_,rfl⟩
     have HV5:Hid (VarL W5 gb [.string xnm, .int .u32 xtg, .int .i64 xgn, .int .i64 xla, .int .i64 xro, .int .i64 xca, .slice xa xn xk, .slice xb xm xl]):=Lh (by rw[←hW5];exact putL_var [.string xnm, .int .u32 xtg, .int .i64 xgn, .int .i64 xla, .int .i64 xro, .int .i64 xca, .slice xa xn xk, .slice xb xm xl] [] [.string ⟨#[]⟩, .int .u32 0, .int .i64 0, .int .i64 0, .int .i64 0, .int .i64 0, .slice none 0 0, .slice none 0 0] W4 V4 rfl)
     have hb5:Below wr.heap.size wr W5:=by rw[←hW5];exact putL_below _ (by omega) _ _ b4
     have HB5:=Lh (below_step HBR.out hb5)
     have HBW5:=Lh (below_step HBW.out HB5.out)
     have HR5:=Lh (HR.out.below hb5)
     have HGN:=Lh (goal_named _ xnm _ W5 (HGA.out W5 HBW5.out) (by have:=HSA.out;omega))
     have x0:=(HV0.out.after HB5.out).c 0 rfl
     have d0:=HV5.out.c 0 rfl
     have hia:(i:Int)<(n:Int):=by omega
     simp only[putL,Ly]at hW5
     clear hgi hui hlt hcell hb hbw hbw0 hrow b4 z4 V4 hb5 e0
     go_wp2_with (first
      |(go_at_call 19;(with_reducible refine(HGN.out).mono ?_);rintro e w6 ⟨cs,bb,rfl,hor,h6⟩;have HB6:=Lh (below_step HB5.out h6);have HV6:=Lh (HV5.out.after h6);have HR6:=Lh (HR5.out.below h6);obtain⟨hb_,W7,hyb,hW7,V7,b7,z7⟩:=boxL w6 [.string ⟨#[]⟩, .int .u32 0, .int .i64 0, .int .i64 0, .int .i64 0, .int .i64 0, .slice none 0 0, .slice none 0 0] 44;have k0:=V7.c 0 rfl;have l0:=V7.q 0 rfl;have k1:=V7.c 1 rfl;have l1:=V7.q 1 rfl;have k2:=V7.c 2 rfl;have l2:=V7.q 2 rfl;have k3:=V7.c 3 rfl;have l3:=V7.q 3 rfl;have k4:=V7.c 4 rfl;have l4:=V7.q 4 rfl;have k5:=V7.c 5 rfl;have l5:=V7.q 5 rfl;have k6:=V7.c 6 rfl;have l6:=V7.q 6 rfl;have k7:=V7.c 7 rfl;have l7:=V7.q 7 rfl;rcases hor with⟨rfl,gd,ud,hf,rfl,hgd⟩|⟨rfl,hf,rfl⟩<;>first
       |(have HGD:=Lh hgd;obtain⟨lv,rv,hue,i1,i2⟩:=hgd;obtain⟨ya,yk,rfl,_⟩:=i1.size;obtain⟨yb,yl,rfl,_⟩:=i2.size;obtain⟨yn,hyn⟩: ∃n,(gd.labels.map labV).length=n:=⟨_,rfl⟩;obtain⟨ym,hym⟩: ∃n,(gd.rules.map rulV).length=n:=⟨_,rfl⟩;rw[hyn,hym]at hue;clear i1 i2 hyn hym;have HD4:=Lh (HRA.out HCA.out.1 gd (getG_memR hf));have HF:=Lh hf;obtain⟨ynm,ytg,ygn,yla,yro,yca,yL,yR⟩:=gd;simp only[golL]at hue;subst hue;obtain⟨W8,hW8⟩: ∃W8,putL hb_ 0 [.string ynm, .int .u32 ytg, .int .i64 ygn, .int .i64 yla, .int .i64 yro, .int .i64 yca, .slice ya yn yk, .slice yb ym yl] W7=W8:=⟨_,rfl⟩;have HV8:Hid (VarL W8 hb_ [.string ynm, .int .u32 ytg, .int .i64 ygn, .int .i64 yla, .int .i64 yro, .int .i64 yca, .slice ya yn yk, .slice yb ym yl]):=Lh (by rw[←hW8];exact putL_var [.string ynm, .int .u32 ytg, .int .i64 ygn, .int .i64 yla, .int .i64 yro, .int .i64 yca, .slice ya yn yk, .slice yb ym yl] [] [.string ⟨#[]⟩, .int .u32 0, .int .i64 0, .int .i64 0, .int .i64 0, .int .i64 0, .slice none 0 0, .slice none 0 0] W7 V7 rfl);have hb8:Below w6.heap.size w6 W8:=(by rw[←hW8];exact putL_below _ (by omega) _ _ b7);have HB8:=Lh (below_step HB6.out hb8);have HR8:=Lh (HR6.out.below hb8);have HSZ8:Hid (B≤W8.heap.size):=Lh (by have:=HB8.out.size;have:=HBB.out;omega);have HIB:=Lh (inboth_any _ _ _ _ W8 (HGD.out.below (show Below W5.heap.size W5 W8 from below_step h6 hb8)) (HGI.out.below (below_step HBW.out HB8.out)) (Kz HD4.out (by decide)) (Kz HG4.out (by decide)));have HACC:Hid (nowT a b (i+1)=nowT a b i++bothT ⟨ynm,ytg,ygn,yla,yro,yca,yL,yR⟩ ⟨xnm,xtg,xgn,xla,xro,xca,xL,xR⟩):=Lh (by rw[HSU.out];unfold goalT;rw[show getG a.goals xnm=_ from HF.out]);have HLE:Hid (((nowT a b i).map turV).length+((bothT ⟨ynm,ytg,ygn,yla,yro,yca,yL,yR⟩ ⟨xnm,xtg,xgn,xla,xro,xca,xL,xR⟩).map turV).length≤1000000):=Lh (by have:=HNL.out HCA.out.1 HCA.out.2 (i+1);rw[HACC.out,Kq]at this;rw[Ky,Ky];omega);have p0:=HV8.out.c 0 rfl;have p1:=HV8.out.c 1 rfl;have p2:=HV8.out.c 2 rfl;have p3:=HV8.out.c 3 rfl;have p4:=HV8.out.c 4 rfl;have p5:=HV8.out.c 5 rfl;have p6:=HV8.out.c 6 rfl;have p7:=HV8.out.c 7 rfl;have m0:=(HV6.out.after hb8).c 0 rfl;have m1:=(HV6.out.after hb8).c 1 rfl;have m2:=(HV6.out.after hb8).c 2 rfl;have m3:=(HV6.out.after hb8).c 3 rfl;have m4:=(HV6.out.after hb8).c 4 rfl;have m5:=(HV6.out.after hb8).c 5 rfl;have m6:=(HV6.out.after hb8).c 6 rfl;have m7:=(HV6.out.after hb8).c 7 rfl;simp only[putL,Ly]at hW8;clear hf h6 hb8 b7 z7 V7)
       |(simp only[zGol];obtain⟨W8,hW8⟩: ∃W8,putL hb_ 0 [.string ⟨#[]⟩, .int .u32 0, .int .i64 0, .int .i64 0, .int .i64 0, .int .i64 0, .slice none 0 0, .slice none 0 0] W7=W8:=⟨_,rfl⟩;have HV8:Hid (VarL W8 hb_ [.string ⟨#[]⟩, .int .u32 0, .int .i64 0, .int .i64 0, .int .i64 0, .int .i64 0, .slice none 0 0, .slice none 0 0]):=Lh (by rw[←hW8];exact putL_var [.string ⟨#[]⟩, .int .u32 0, .int .i64 0, .int .i64 0, .int .i64 0, .int .i64 0, .slice none 0 0, .slice none 0 0] [] [.string ⟨#[]⟩, .int .u32 0, .int .i64 0, .int .i64 0, .int .i64 0, .int .i64 0, .slice none 0 0, .slice none 0 0] W7 V7 rfl);have hb8:Below w6.heap.size w6 W8:=(by rw[←hW8];exact putL_below _ (by omega) _ _ b7);have HB8:=Lh (below_step HB6.out hb8);have HR8:=Lh (HR6.out.below hb8);have HSZ8:Hid (B≤W8.heap.size):=Lh (by have:=HB8.out.size;have:=HBB.out;omega);have HIB:=Lh (inone_any _ 1 _ W8 (HGI.out.below (below_step HBW.out HB8.out)) (Kz HG4.out (by decide)));have HACC:Hid (nowT a b (i+1)=nowT a b i++newT ⟨xnm,xtg,xgn,xla,xro,xca,xL,xR⟩ 1):=Lh (by rw[HSU.out];unfold goalT;rw[show getG a.goals xnm=_ from hf]);have HLE:Hid (((nowT a b i).map turV).length+((newT ⟨xnm,xtg,xgn,xla,xro,xca,xL,xR⟩ 1).map turV).length≤1000000):=Lh (by have:=HNL.out HCA.out.1 HCA.out.2 (i+1);rw[HACC.out,Kq]at this;rw[Ky,Ky];omega);have m0:=(HV6.out.after hb8).c 0 rfl;have m1:=(HV6.out.after hb8).c 1 rfl;have m2:=(HV6.out.after hb8).c 2 rfl;have m3:=(HV6.out.after hb8).c 3 rfl;have m4:=(HV6.out.after hb8).c 4 rfl;have m5:=(HV6.out.after hb8).c 5 rfl;have m6:=(HV6.out.after hb8).c 6 rfl;have m7:=(HV6.out.after hb8).c 7 rfl;simp only[putL,Ly]at hW8;clear hf h6 hb8 b7 z7 V7))
      |(go_at_call 20;(with_reducible refine(HIB.out).mono ?_);intro e W9 hx;obtain⟨ad,n9,c9,rfl,hn9,ht,h9⟩:=hx.form;have HB9:=Lh (below_step HB8.out h9);have HR9:=Lh (HR8.out.below h9);have HSZ9:Hid (B≤W9.heap.size):=Lh (Kz HSZ8.out h9.size);have HT9:=Lh ht;have HN9:=Lh hn9;clear h9 ht hn9;have HKX:=(‹∀(a:Act) (w_1:World),wpList _ _ _ _ a w_1→_›);refine HKX _ _ ?_;clear HKX;(refine wp_rowKs (T:=29) (t:=37) (sz:=3) rfl _ _ rfl Tryd.underlying29 info_turn rfl (by decide) (by decide) B _ _ rfl HR9.out ad n9 c9 _ rfl HN9.out.symm HT9.out.cellsIn (tur_one _) HLE.out HSZ9.out ?_);intro v' w' hrow' ho' _;have HRY:Hid (Turs w' B v' (nowT a b (i+1))):=Lh (by rw[HACC.out];exact turs_app hrow');have HBY:Hid (Below W1.heap.size W1 w'):=Lh (HB9.out.trans (by rw[HBB.out.1];exact ho'.bel));clear hrow' ho')
      |(go_at_call 21;(with_reducible refine(HIB.out).mono ?_);intro e W9 hx;obtain⟨ad,n9,c9,rfl,hn9,ht,h9⟩:=hx.form;have HB9:=Lh (below_step HB8.out h9);have HR9:=Lh (HR8.out.below h9);have HSZ9:Hid (B≤W9.heap.size):=Lh (Kz HSZ8.out h9.size);have HT9:=Lh ht;have HN9:=Lh hn9;clear h9 ht hn9;have HKX:=(‹∀(a:Act) (w_1:World),wpList _ _ _ _ a w_1→_›);refine HKX _ _ ?_;clear HKX;(refine wp_rowKs (T:=29) (t:=37) (sz:=3) rfl _ _ rfl Tryd.underlying29 info_turn rfl (by decide) (by decide) B _ _ rfl HR9.out ad n9 c9 _ rfl HN9.out.symm HT9.out.cellsIn (tur_one _) HLE.out HSZ9.out ?_);intro v' w' hrow' ho' _;have HRY:Hid (Turs w' B v' (nowT a b (i+1))):=Lh (by rw[HACC.out];exact turs_app hrow');have HBY:Hid (Below W1.heap.size W1 w'):=Lh (HB9.out.trans (by rw[HBB.out.1];exact ho'.bel));clear hrow' ho'))
     all_goals
      go_roundw
      case rel=>exact⟨i+1,by omega,by go_num,HRY.out,by have:=HBY.out;rw[HBB.out.1]at this;exact this⟩
      case measure=>simp[intOf];omega
    ·have en:n=i:=by omega
     subst en
     have e0:=(HV0.out.after hbw0).c 0 rfl
     clear hrow hb hbw hbw0
     go_wp2
     go_loopw [6,52] (fun v6 vi wr=> ∃i:Nat,i≤m∧vi= .int .i64 (i:Int)∧Turs wr B v6 (nowT a b n++outT a b i)∧Below B W1 wr) (fun _ vi _=>m-(intOf vi).toNat)
     case atStart=>exact⟨0,Nat.zero_le _,rfl,by rw[HO0.out,List.append_nil];exact HR.out,by have:=HBR.out;rw[HBB.out.1]at this;exact this⟩
     case round=>
      clear HR HBR e0 hi
      obtain⟨i,hi,rfl,hrow,hb⟩:=hrel
      have HR:=Lh hrow
      have hbw0:Below W1.heap.size W1 wr:=by rw[HBB.out.1];exact hb
      have HBR:=Lh hbw0
      have hbw:=below_step HBW.out hbw0
      by_cases hin:i<m
      ·obtain⟨g,u,hgi,hui,hgol⟩:=HUA.out i hin
       have HGI:=Lh hgol
       obtain⟨lv,rv,hue,i1,i2⟩:=hgol
       obtain⟨bk,off,rfl,hlt,hcell⟩:=HKA.out.at i _ hui
       obtain⟨xa,xk,rfl,_⟩:=i1.size
       obtain⟨xb,xl,rfl,_⟩:=i2.size
       obtain⟨xn,hxn⟩: ∃n,(g.labels.map labV).length=n:=⟨_,rfl⟩
       obtain⟨xm,hxm⟩: ∃n,(g.rules.map rulV).length=n:=⟨_,rfl⟩
       rw[hxn,hxm]at hue
       have HMG:=Lh (List.mem_of_getElem? hgi)
       have HSU:=Lh (HOS.out i g hgi)
       have HG4:=Lh (HRA.out HCA.out.1 g HMG.out)
       clear i1 i2 hxn hxm
       obtain⟨xnm,xtg,xgn,xla,xro,xca,xL,xR⟩:=g
       simp only[golL]at hue
       subst hue
       have f0:wr.cell? ⟨bk,off+i*8,none⟩=some (.string xnm):=(hbw.cell (p:=⟨bk,off+i*8,none⟩) hlt).trans (hcell 0 _ rfl);have f1:wr.cell? ⟨bk,off+i*8+1,none⟩=some (.int .u32 xtg):=(hbw.cell (p:=⟨bk,off+i*8+1,none⟩) hlt).trans (hcell 1 _ rfl);have f2:wr.cell? ⟨bk,off+i*8+2,none⟩=some (.int .i64 xgn):=(hbw.cell (p:=⟨bk,off+i*8+2,none⟩) hlt).trans (hcell 2 _ rfl);have f3:wr.cell? ⟨bk,off+i*8+3,none⟩=some (.int .i64 xla):=(hbw.cell (p:=⟨bk,off+i*8+3,none⟩) hlt).trans (hcell 3 _ rfl);have f4:wr.cell? ⟨bk,off+i*8+4,none⟩=some (.int .i64 xro):=(hbw.cell (p:=⟨bk,off+i*8+4,none⟩) hlt).trans (hcell 4 _ rfl);have f5:wr.cell? ⟨bk,off+i*8+5,none⟩=some (.int .i64 xca):=(hbw.cell (p:=⟨bk,off+i*8+5,none⟩) hlt).trans (hcell 5 _ rfl);have f6:wr.cell? ⟨bk,off+i*8+6,none⟩=some (.slice xa xn xk):=(hbw.cell (p:=⟨bk,off+i*8+6,none⟩) hlt).trans (hcell 6 _ rfl);have f7:wr.cell? ⟨bk,off+i*8+7,none⟩=some (.slice xb xm xl):=(hbw.cell (p:=⟨bk,off+i*8+7,none⟩) hlt).trans (hcell 7 _ rfl)
       have hi1:IntKind.i64.wrap ((i:Int)+1)=((i+1:Nat):Int):=by have:=HMN.out;rw[IntKind.wrap_i64];omega
       obtain⟨gb,W4,hgb,hW4,V4,b4,z4⟩:=boxL wr [.string ⟨#[]⟩, .int .u32 0, .int .i64 0, .int .i64 0, .int .i64 0, .int .i64 0, .slice none 0 0, .slice none 0 0] 44
       have c0:=V4.c 0 rfl;have q0:=V4.q 0 rfl;have c1:=V4.c 1 rfl;have q1:=V4.q 1 rfl;have c2:=V4.c 2 rfl;have q2:=V4.q 2 rfl;have c3:=V4.c 3 rfl;have q3:=V4.q 3 rfl;have c4:=V4.c 4 rfl;have q4:=V4.q 4 rfl;have c5:=V4.c 5 rfl;have q5:=V4.q 5 rfl;have c6:=V4.c 6 rfl;have q6:=V4.q 6 rfl;have c7:=V4.c 7 rfl;have q7:=V4.q 7 rfl
       obtain⟨W5,hW5⟩: ∃W5,putL gb 0 [.string xnm, .int .u32 xtg, .int .i64 xgn, .int .i64 xla, .int .i64 xro, .int .i64 xca, .slice xa xn xk, .slice xb xm xl] W4=W5:=⟨_,rfl⟩
       have HV5:Hid (VarL W5 gb [.string xnm, .int .u32 xtg, .int .i64 xgn, .int .i64 xla, .int .i64 xro, .int .i64 xca, .slice xa xn xk, .slice xb xm xl]):=Lh (by rw[←hW5];exact putL_var [.string xnm, .int .u32 xtg, .int .i64 xgn, .int .i64 xla, .int .i64 xro, .int .i64 xca, .slice xa xn xk, .slice xb xm xl] [] [.string ⟨#[]⟩, .int .u32 0, .int .i64 0, .int .i64 0, .int .i64 0, .int .i64 0, .slice none 0 0, .slice none 0 0] W4 V4 rfl)
       have hb5:Below wr.heap.size wr W5:=by rw[←hW5];exact putL_below _ (by omega) _ _ b4
       have HB5:=Lh (below_step HBR.out hb5)
       have HBW5:=Lh (below_step HBW.out HB5.out)
       have HR5:=Lh (HR.out.below hb5)
       have HGN:=Lh (goal_named _ xnm _ W5 (HGB.out W5 HBW5.out) (by have:=HSA.out;omega))
       have x0:=(HV1.out.after HB5.out).c 0 rfl
       have d0:=HV5.out.c 0 rfl
       have hia:(i:Int)<(m:Int):=by omega
       simp only[putL,Ly]at hW5
       clear hgi hui hlt hcell hb hbw hbw0 hrow b4 z4 V4 hb5 e0
       go_wp2_with (first
        |(go_at_call 19;(with_reducible refine(HGN.out).mono ?_);rintro e w6 ⟨cs,bb,rfl,hor,h6⟩;have HB6:=Lh (below_step HB5.out h6);have HV6:=Lh (HV5.out.after h6);have HR6:=Lh (HR5.out.below h6);obtain⟨hb_,W7,hyb,hW7,V7,b7,z7⟩:=boxL w6 [.string ⟨#[]⟩, .int .u32 0, .int .i64 0, .int .i64 0, .int .i64 0, .int .i64 0, .slice none 0 0, .slice none 0 0] 44;have k0:=V7.c 0 rfl;have l0:=V7.q 0 rfl;have k1:=V7.c 1 rfl;have l1:=V7.q 1 rfl;have k2:=V7.c 2 rfl;have l2:=V7.q 2 rfl;have k3:=V7.c 3 rfl;have l3:=V7.q 3 rfl;have k4:=V7.c 4 rfl;have l4:=V7.q 4 rfl;have k5:=V7.c 5 rfl;have l5:=V7.q 5 rfl;have k6:=V7.c 6 rfl;have l6:=V7.q 6 rfl;have k7:=V7.c 7 rfl;have l7:=V7.q 7 rfl;rcases hor with⟨rfl,gd,ud,hf,rfl,hgd⟩|⟨rfl,hf,rfl⟩<;>first
         |(have HGD:=Lh hgd;obtain⟨lv,rv,hue,i1,i2⟩:=hgd;obtain⟨ya,yk,rfl,_⟩:=i1.size;obtain⟨yb,yl,rfl,_⟩:=i2.size;obtain⟨yn,hyn⟩: ∃n,(gd.labels.map labV).length=n:=⟨_,rfl⟩;obtain⟨ym,hym⟩: ∃n,(gd.rules.map rulV).length=n:=⟨_,rfl⟩;rw[hyn,hym]at hue;clear i1 i2 hyn hym;have HD4:=Lh (HRB.out HCA.out.2 gd (getG_memR hf));have HF:=Lh hf;obtain⟨ynm,ytg,ygn,yla,yro,yca,yL,yR⟩:=gd;simp only[golL]at hue;subst hue;obtain⟨W8,hW8⟩: ∃W8,putL hb_ 0 [.string ynm, .int .u32 ytg, .int .i64 ygn, .int .i64 yla, .int .i64 yro, .int .i64 yca, .slice ya yn yk, .slice yb ym yl] W7=W8:=⟨_,rfl⟩;have HV8:Hid (VarL W8 hb_ [.string ynm, .int .u32 ytg, .int .i64 ygn, .int .i64 yla, .int .i64 yro, .int .i64 yca, .slice ya yn yk, .slice yb ym yl]):=Lh (by rw[←hW8];exact putL_var [.string ynm, .int .u32 ytg, .int .i64 ygn, .int .i64 yla, .int .i64 yro, .int .i64 yca, .slice ya yn yk, .slice yb ym yl] [] [.string ⟨#[]⟩, .int .u32 0, .int .i64 0, .int .i64 0, .int .i64 0, .int .i64 0, .slice none 0 0, .slice none 0 0] W7 V7 rfl);have hb8:Below w6.heap.size w6 W8:=(by rw[←hW8];exact putL_below _ (by omega) _ _ b7);have HB8:=Lh (below_step HB6.out hb8);have HR8:=Lh (HR6.out.below hb8);have HSZ8:Hid (B≤W8.heap.size):=Lh (by have:=HB8.out.size;have:=HBB.out;omega);have HRY:Hid (Turs W8 B _ (nowT a b n++outT a b (i+1))):=Lh (by rw[HSU.out];unfold goneT;rw[show getG b.goals xnm=_ from HF.out,List.append_nil];exact HR8.out);have HBY:=Lh HB8.out;have p0:=HV8.out.c 0 rfl;have p1:=HV8.out.c 1 rfl;have p2:=HV8.out.c 2 rfl;have p3:=HV8.out.c 3 rfl;have p4:=HV8.out.c 4 rfl;have p5:=HV8.out.c 5 rfl;have p6:=HV8.out.c 6 rfl;have p7:=HV8.out.c 7 rfl;have m0:=(HV6.out.after hb8).c 0 rfl;have m1:=(HV6.out.after hb8).c 1 rfl;have m2:=(HV6.out.after hb8).c 2 rfl;have m3:=(HV6.out.after hb8).c 3 rfl;have m4:=(HV6.out.after hb8).c 4 rfl;have m5:=(HV6.out.after hb8).c 5 rfl;have m6:=(HV6.out.after hb8).c 6 rfl;have m7:=(HV6.out.after hb8).c 7 rfl;simp only[putL,Ly]at hW8;clear hf h6 hb8 b7 z7 V7)
         |(simp only[zGol];obtain⟨W8,hW8⟩: ∃W8,putL hb_ 0 [.string ⟨#[]⟩, .int .u32 0, .int .i64 0, .int .i64 0, .int .i64 0, .int .i64 0, .slice none 0 0, .slice none 0 0] W7=W8:=⟨_,rfl⟩;have HV8:Hid (VarL W8 hb_ [.string ⟨#[]⟩, .int .u32 0, .int .i64 0, .int .i64 0, .int .i64 0, .int .i64 0, .slice none 0 0, .slice none 0 0]):=Lh (by rw[←hW8];exact putL_var [.string ⟨#[]⟩, .int .u32 0, .int .i64 0, .int .i64 0, .int .i64 0, .int .i64 0, .slice none 0 0, .slice none 0 0] [] [.string ⟨#[]⟩, .int .u32 0, .int .i64 0, .int .i64 0, .int .i64 0, .int .i64 0, .slice none 0 0, .slice none 0 0] W7 V7 rfl);have hb8:Below w6.heap.size w6 W8:=(by rw[←hW8];exact putL_below _ (by omega) _ _ b7);have HB8:=Lh (below_step HB6.out hb8);have HR8:=Lh (HR6.out.below hb8);have HSZ8:Hid (B≤W8.heap.size):=Lh (by have:=HB8.out.size;have:=HBB.out;omega);have HIB:=Lh (inone_any _ 4 _ W8 (HGI.out.below (below_step HBW.out HB8.out)) (Kz HG4.out (by decide)));have HACC:Hid (nowT a b n++outT a b (i+1)=(nowT a b n++outT a b i)++newT ⟨xnm,xtg,xgn,xla,xro,xca,xL,xR⟩ 4):=Lh (by rw[HSU.out];unfold goneT;rw[show getG b.goals xnm=_ from hf,List.append_assoc]);have HLE:Hid (((nowT a b n++outT a b i).map turV).length+((newT ⟨xnm,xtg,xgn,xla,xro,xca,xL,xR⟩ 4).map turV).length≤1000000):=Lh (by have:=HNL.out HCA.out.1 HCA.out.2 n;have:=HOL.out HCA.out.1 i;have hx:(newT ⟨xnm,xtg,xgn,xla,xro,xca,xL,xR⟩ 4).length≤5:=(by rw[newT_len];exact Nat.succ_le_succ HG4.out);rw[Ky,Ky,Kq];omega);have m0:=(HV6.out.after hb8).c 0 rfl;have m1:=(HV6.out.after hb8).c 1 rfl;have m2:=(HV6.out.after hb8).c 2 rfl;have m3:=(HV6.out.after hb8).c 3 rfl;have m4:=(HV6.out.after hb8).c 4 rfl;have m5:=(HV6.out.after hb8).c 5 rfl;have m6:=(HV6.out.after hb8).c 6 rfl;have m7:=(HV6.out.after hb8).c 7 rfl;simp only[putL,Ly]at hW8;clear hf h6 hb8 b7 z7 V7))
        |(go_at_call 21;(with_reducible refine(HIB.out).mono ?_);intro e W9 hx;obtain⟨ad,n9,c9,rfl,hn9,ht,h9⟩:=hx.form;have HB9:=Lh (below_step HB8.out h9);have HR9:=Lh (HR8.out.below h9);have HSZ9:Hid (B≤W9.heap.size):=Lh (Kz HSZ8.out h9.size);have HT9:=Lh ht;have HN9:=Lh hn9;clear h9 ht hn9;have HKX:=(‹∀(a:Act) (w_1:World),wpList _ _ _ _ a w_1→_›);refine HKX _ _ ?_;clear HKX;(refine wp_rowKs (T:=29) (t:=37) (sz:=3) rfl _ _ rfl Tryd.underlying29 info_turn rfl (by decide) (by decide) B _ _ rfl HR9.out ad n9 c9 _ rfl HN9.out.symm HT9.out.cellsIn (tur_one _) HLE.out HSZ9.out ?_);intro v' w' hrow' ho' _;have HRY:Hid (Turs w' B v' (nowT a b n++outT a b (i+1))):=Lh (by rw[HACC.out];exact turs_app hrow');have HBY:Hid (Below W1.heap.size W1 w'):=Lh (HB9.out.trans (by rw[HBB.out.1];exact ho'.bel));clear hrow' ho'))
       all_goals
        go_roundw
        case rel=>exact⟨i+1,by omega,by go_num,HRY.out,by have:=HBY.out;rw[HBB.out.1]at this;exact this⟩
        case measure=>simp[intOf];omega
      ·have en:m=i:=by omega
       subst en
       clear hrow hb hbw hbw0
       go_wp2
       go_ret2
       exact GivesPl.yes HCA.out.1 HCA.out.2 (by rw[HPE.out];exact HR.out.weaken HBB.out.2) (below_step HBW.out HBR.out)
end
end Go.Proofs.YtgmfkbamfnkbgaaDoor
