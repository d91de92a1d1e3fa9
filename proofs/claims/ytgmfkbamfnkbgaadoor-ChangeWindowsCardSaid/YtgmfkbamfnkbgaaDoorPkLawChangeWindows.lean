/-
  Of any goal the windows that package change tells are, rising, all that its rules and its budget use: proved of any goal and in any memory, with the library's tables of first bytes as they are listed.
-/
import Derived.Test.YtgmfkbamfnkbgaaDoorPkChangeWindows14
import Derived.Test.YtgmfkbamfnkbgaaDoorPkChangeWindows15
import Derived.Test.YtgmfkbamfnkbgaaDoorPkChangeWindows16
import Derived.Test.YtgmfkbamfnkbgaaDoorPkChangeWindows13
import Derived.Test.YtgmfkbamfnkbgaaDoorCards
import Derived.Test.YtgmfkbamfnkbgaaDoorTie
import Derived.Below
import Derived.LaidMore
import Derived.Lay
import Derived.SevenTiedAt
import Derived.Stop.Joined
set_option maxRecDepth 100000
set_option maxHeartbeats 16000000
namespace Go.Proofs.YtgmfkbamfnkbgaaDoor
open Lib renaming hid→Lh
open Nat renaming zero_add→Ly,le_refl→Mz
open Go.RowKit.Below renaming refl→Mj
section
open Go.RowKit
theorem kw_nameC {n:ByteArray} (h: ∀z∈nums n,0≤z∧z<128) (h1:1≤(nums n).length∧(nums n).length≤24∧letterB ((nums n).getD 0 0)=true∧∀i,i<(nums n).length→nameOk (nums n) i=true):NameL (runesOf (nums n)):=by
 have:=runes_ascii (nums n) h []
 rw[List.append_nil,runes_nil,List.append_nil]at this
 rw[this];exact h1
def exR:RlC:=⟨⟨#[114]⟩,false,120,60,1,0,0⟩
def exG (t:Int):GlC:=⟨⟨#[97]⟩,t,60,0,0,0,[],[exR]⟩
def exC (t:Int):CfC:=⟨[exG t],1,0,1,1,0⟩
theorem AllU.one {α:Type} {P:α→Prop} {nm:α→ByteArray} {x:α} (h:P x):AllU P nm [x] 1:=fun j y hj hy=>by
 obtain rfl:j=0:=by omega
 rw[List.getElem?_cons_zero]at hy
 injection hy with hy
 subst hy
 exact⟨h,fun k z hk=>by omega⟩
theorem exR_ok:RuleOk 60 exR:=by
 refine⟨kw_nameC (by decide) (by decide),?_,?_,?_,?_,?_,?_,?_,?_,?_,?_,?_,?_,?_⟩<;>decide
theorem exG_ok (t:Int) (h1:1≤t) (h2:t≤999999):GoalOk (exG t):=by
 refine⟨kw_nameC (n:=⟨#[97]⟩) (by decide) (by decide),h1,h2,?_,?_,?_,?_,?_,?_,?_,?_,?_,?_,(fun j x hj=>by cases hj),?_,?_,AllU.one exR_ok⟩<;>simp[exG]
theorem exC_ok (t:Int) (h1:1≤t) (h2:t≤999999):ConfOk (exC t):=by
 refine⟨?_,AllU.one (exG_ok t h1 h2),?_,?_,?_,?_,?_,?_,?_,?_,?_,?_⟩<;>simp[exC]
theorem ex_plan:planS (exC 5).goals (exC 6).goals= [⟨⟨#[97]⟩,nNone,2⟩,⟨⟨#[97]⟩,⟨#[114]⟩,2⟩]:=by rfl
theorem VarL.inK {w:World} {p:Nat} {row:List Value} (h:VarL w p row):InK row.length w (.slice (some ⟨p,0,none⟩) 1 1) [row]:=
 ⟨_,_,rfl,Mz _,fun i u hu=>by
  have hi:i=0:=by have:=(List.getElem?_eq_some_iff.1 hu).1;simp at this;exact this
  subst hi
  rw[List.getElem?_cons_zero]at hu
  injection hu with hu
  subst hu
  exact⟨p,0,rfl,h.s,fun j y hj=>by simpa using h.c j hj⟩⟩
theorem nil_inK (sz:Nat) (w:World):InK sz w (.slice none 0 0) []:=⟨none,0,rfl,Mz _,fun i u hu=>by cases hu⟩
theorem exC_in {w:World} {rb gb:Nat} {t:Int} (h1:VarL w rb (rulV exR)) (h2:VarL w gb (golL (exG t) (.slice none 0 0) (.slice (some ⟨rb,0,none⟩) 1 1))):ConfI w (.agg (confL (.slice (some ⟨gb,0,none⟩) 1 1) (exC t)).toArray) (exC t):=
 ⟨_,rfl,_,h2.inK,rfl,fun i u g hu hg=>by
  have hi:i=0:=by have:=(List.getElem?_eq_some_iff.1 hu).1;simp at this;exact this
  subst hi
  rw[List.getElem?_cons_zero]at hu
  injection hu with hu
  have hg2: [exG t][0]?=some g:=hg
  rw[List.getElem?_cons_zero]at hg2
  injection hg2 with hg2
  subst hu hg2
  exact⟨_,_,rfl,nil_inK _ _,h1.inK⟩⟩
theorem exC_s (t:Int):CfS (exC t):=by
 refine⟨fun g hg=>?_,by simp[exC]⟩
 rw[List.mem_singleton.mp hg]
 refine⟨?_,fun l hl=>(by cases hl),fun r hr=>?_,?_,?_⟩
 ·show(1:Nat)≤_;omega
 ·rw[List.mem_singleton.mp hr];show(1:Nat)≤_;omega
 ·simp[exG]
 ·simp[exG]
theorem chg_awake (w:World) (env:Env w):Calls Tryd.prog 6 #[] w fun e w'=>e= .returned (.bool true)∧Below w.heap.size w w':=by
 obtain⟨nb,W0,hnb,hW0,V0,b0,z0⟩:=boxL w [.int .i64 0, .int .i64 0, .int .i64 0, .int .i64 0, .int .i64 0] 24
 have n0:=V0.c 0 rfl;have m0:=V0.q 0 rfl
 have n1:=V0.c 1 rfl;have m1:=V0.q 1 rfl
 have n2:=V0.c 2 rfl;have m2:=V0.q 2 rfl
 have n3:=V0.c 3 rfl;have m3:=V0.q 3 rfl
 have n4:=V0.c 4 rfl;have m4:=V0.q 4 rfl
 obtain⟨W1,hW1⟩: ∃W1,putL nb 0 [.int .i64 1, .int .i64 0, .int .i64 1, .int .i64 1, .int .i64 0] W0=W1:=⟨_,rfl⟩
 have V1:VarL W1 nb [.int .i64 1, .int .i64 0, .int .i64 1, .int .i64 1, .int .i64 0]:=by rw[←hW1];exact putL_var [.int .i64 1, .int .i64 0, .int .i64 1, .int .i64 1, .int .i64 0] [] [.int .i64 0, .int .i64 0, .int .i64 0, .int .i64 0, .int .i64 0] W0 V0 rfl
 have b1:Below w.heap.size w W1:=by rw[←hW1];exact putL_below _ (by omega) _ _ b0
 obtain⟨rb,W2,hrb,hW2,V2,b2,z2⟩:=boxL W1 [.string ⟨#[114]⟩, .bool false, .int .i64 120, .int .i64 60, .int .u64 1, .int .i64 0, .int .i64 0] 52
 obtain⟨gb,W3,hgb,hW3,V3,b3,z3⟩:=boxL W2 [.string ⟨#[]⟩, .int .u32 0, .int .i64 0, .int .i64 0, .int .i64 0, .int .i64 0, .slice none 0 0, .slice none 0 0] 44
 have c0:=V3.c 0 rfl;have q0:=V3.q 0 rfl
 have c1:=V3.c 1 rfl;have q1:=V3.q 1 rfl
 have c2:=V3.c 2 rfl;have q2:=V3.q 2 rfl
 have c3:=V3.c 3 rfl;have q3:=V3.q 3 rfl
 have c4:=V3.c 4 rfl;have q4:=V3.q 4 rfl
 have c5:=V3.c 5 rfl;have q5:=V3.q 5 rfl
 have c6:=V3.c 6 rfl;have q6:=V3.q 6 rfl
 have c7:=V3.c 7 rfl;have q7:=V3.q 7 rfl
 obtain⟨W4,hW4⟩: ∃W4,putL gb 0 [.string ⟨#[97]⟩, .int .u32 5, .int .i64 60, .int .i64 0, .int .i64 0, .int .i64 0, .slice none 0 0, .slice (some ⟨rb,0,none⟩) 1 1] W3=W4:=⟨_,rfl⟩
 have V4:VarL W4 gb [.string ⟨#[97]⟩, .int .u32 5, .int .i64 60, .int .i64 0, .int .i64 0, .int .i64 0, .slice none 0 0, .slice (some ⟨rb,0,none⟩) 1 1]:=by rw[←hW4];exact putL_var [.string ⟨#[97]⟩, .int .u32 5, .int .i64 60, .int .i64 0, .int .i64 0, .int .i64 0, .slice none 0 0, .slice (some ⟨rb,0,none⟩) 1 1] [] [.string ⟨#[]⟩, .int .u32 0, .int .i64 0, .int .i64 0, .int .i64 0, .int .i64 0, .slice none 0 0, .slice none 0 0] W3 V3 rfl
 have b4:Below W2.heap.size W2 W4:=by rw[←hW4];exact putL_below _ (by omega) _ _ b3
 obtain⟨hb_,W5,hhb,hW5,V5,b5,z5⟩:=boxL W4 [.string ⟨#[]⟩, .int .u32 0, .int .i64 0, .int .i64 0, .int .i64 0, .int .i64 0, .slice none 0 0, .slice none 0 0] 44
 have d0:=V5.c 0 rfl;have s0:=V5.q 0 rfl
 have d1:=V5.c 1 rfl;have s1:=V5.q 1 rfl
 have d2:=V5.c 2 rfl;have s2:=V5.q 2 rfl
 have d3:=V5.c 3 rfl;have s3:=V5.q 3 rfl
 have d4:=V5.c 4 rfl;have s4:=V5.q 4 rfl
 have d5:=V5.c 5 rfl;have s5:=V5.q 5 rfl
 have d6:=V5.c 6 rfl;have s6:=V5.q 6 rfl
 have d7:=V5.c 7 rfl;have s7:=V5.q 7 rfl
 have e0:=V4.c 0 rfl;have e1:=V4.c 1 rfl;have e2:=V4.c 2 rfl;have e3:=V4.c 3 rfl;have e4:=V4.c 4 rfl;have e5:=V4.c 5 rfl;have e6:=V4.c 6 rfl;have e7:=V4.c 7 rfl
 obtain⟨W6,hW6⟩: ∃W6,putL hb_ 0 [.string ⟨#[97]⟩, .int .u32 5, .int .i64 60, .int .i64 0, .int .i64 0, .int .i64 0, .slice none 0 0, .slice (some ⟨rb,0,none⟩) 1 1] W5=W6:=⟨_,rfl⟩
 have V6:VarL W6 hb_ [.string ⟨#[97]⟩, .int .u32 5, .int .i64 60, .int .i64 0, .int .i64 0, .int .i64 0, .slice none 0 0, .slice (some ⟨rb,0,none⟩) 1 1]:=by rw[←hW6];exact putL_var [.string ⟨#[97]⟩, .int .u32 5, .int .i64 60, .int .i64 0, .int .i64 0, .int .i64 0, .slice none 0 0, .slice (some ⟨rb,0,none⟩) 1 1] [] [.string ⟨#[]⟩, .int .u32 0, .int .i64 0, .int .i64 0, .int .i64 0, .int .i64 0, .slice none 0 0, .slice none 0 0] W5 V5 rfl
 have b6:Below W4.heap.size W4 W6:=by rw[←hW6];exact putL_below _ (by omega) _ _ b5
 have g1:=V6.c 1 rfl
 have r1:=V6.q 1 rfl
 obtain⟨W7,hW7⟩: ∃W7,W6.setCell ⟨hb_,1,none⟩ (.int .u32 6)=W7:=⟨_,rfl⟩
 have V7:VarL W7 hb_ [.string ⟨#[97]⟩, .int .u32 6, .int .i64 60, .int .i64 0, .int .i64 0, .int .i64 0, .slice none 0 0, .slice (some ⟨rb,0,none⟩) 1 1]:=by rw[←hW7];exact V6.set 1 (.int .u32 6) (by simp)
 have b7:Below W4.heap.size W4 W7:=by rw[←hW7];exact b6.setCell (Nat.le_of_eq hhb) _
 have V47:=V4.after b7
 have V17:=((V1.after b2).after b4).after b7
 have V27:=(V2.after b4).after b7
 have f0:=V47.c 0 rfl;have f1:=V47.c 1 rfl;have f2:=V47.c 2 rfl;have f3:=V47.c 3 rfl;have f4:=V47.c 4 rfl;have f5:=V47.c 5 rfl;have f6:=V47.c 6 rfl;have f7:=V47.c 7 rfl
 obtain⟨sb,W8,hsb,hW8,V8,b8,z8⟩:=boxL W7 [.string ⟨#[97]⟩, .int .u32 5, .int .i64 60, .int .i64 0, .int .i64 0, .int .i64 0, .slice none 0 0, .slice (some ⟨rb,0,none⟩) 1 1] 44
 have V18:=V17.after b8
 have V78:=V7.after b8
 have h0:=V18.c 0 rfl;have h1:=V18.c 1 rfl;have h2:=V18.c 2 rfl;have h3:=V18.c 3 rfl;have h4:=V18.c 4 rfl
 have i0:=V78.c 0 rfl;have i1:=V78.c 1 rfl;have i2:=V78.c 2 rfl;have i3:=V78.c 3 rfl;have i4:=V78.c 4 rfl;have i5:=V78.c 5 rfl;have i6:=V78.c 6 rfl;have i7:=V78.c 7 rfl
 obtain⟨tb,W9,htb,hW9,V9,b9,z9⟩:=boxL W8 [.string ⟨#[97]⟩, .int .u32 6, .int .i64 60, .int .i64 0, .int .i64 0, .int .i64 0, .slice none 0 0, .slice (some ⟨rb,0,none⟩) 1 1] 44
 have V19:=V18.after b9
 have j0:=V19.c 0 rfl;have j1:=V19.c 1 rfl;have j2:=V19.c 2 rfl;have j3:=V19.c 3 rfl;have j4:=V19.c 4 rfl
 have bw:Below w.heap.size w W9:=below_step (below_step (below_step (below_step (below_step b1 b2) b4) b7) b8) b9
 have HPL:Hid (Calls Tryd.prog 8 #[.agg #[.slice (some ⟨sb,0,none⟩) 1 1, .int .i64 1, .int .i64 0, .int .i64 1, .int .i64 1, .int .i64 0], .agg #[.slice (some ⟨tb,0,none⟩) 1 1, .int .i64 1, .int .i64 0, .int .i64 1, .int .i64 1, .int .i64 0]] W9 (GivesPl (exC 5) (exC 6) W9)):=Lh (plan_any (exC 5) (exC 6) _ _ W9 (env.step bw) (exC_in (t:=5) ((V27.after b8).after b9) (V8.after b9)) (exC_in (t:=6) ((V27.after b8).after b9) V9) (exC_s 5) (exC_s 6))
 have HBW:=Lh bw
 simp only[putL,Ly]at hW1 hW4 hW6
 clear V0 V1 V2 V3 V4 V5 V6 V7 V47 V17 V27 V8 V18 V78 V9 V19 b0 b1 b2 b3 b4 b5 b6 b7 b8 b9 bw z0 z2 z3 z5 z8 z9 env
 go_enter Tryd.func6,Tryd.ntmps6
 go_wp2_with (go_at_call 8;(with_reducible refine(HPL.out).mono ?_);rintro e W ⟨hor,hb⟩;have HB:=Lh (below_step HBW.out hb);obtain⟨_,_,v,rfl,ht⟩|⟨hno,_⟩:=hor<;>first
  |exact(hno ⟨exC_ok 5 (by decide) (by decide),exC_ok 6 (by decide) (by decide)⟩).elim
  |(rw[ex_plan]at ht;obtain⟨pb,pc,rfl,_⟩:=ht.form (by simp);have x0:=ht.at 0 0 (by simp) (by decide);have x1:=ht.at 0 1 (by simp) (by decide);have x2:=ht.at 0 2 (by simp) (by decide);have x3:=ht.at 1 0 (by simp) (by decide);have x4:=ht.at 1 1 (by simp) (by decide);have x5:=ht.at 1 2 (by simp) (by decide);simp only[turV,List.map_cons,List.map_nil,List.getD_cons_zero,List.getD_cons_succ,Nat.zero_mul,Nat.one_mul,Ly,Nat.add_zero,Nat.reduceAdd,nNone]at x0 x1 x2 x3 x4 x5;clear ht hb))
 go_ret
 exact⟨rfl,HB.out⟩
end
section
open Go.RowKit
theorem rwin_any (g:GlC) (u:List Value) (w:World) (hu:GolI w u g) (hl:g.rules.length≤400000):Calls Tryd.prog 17 #[.agg u.toArray] w (fun e w'=> ∃v,e= .returned v∧NumsAt (winS g) v w'∧Below w.heap.size w w'):=by
 by_cases h:g.rolling=0
 ·exact rwin_zero g u w hu hl h
 ·exact rwin_more g u w hu hl h
end
section
open Go.RowKit
theorem NumsAt.form {l:List Int} {v:Value} {w:World} (h:NumsAt l v w): ∃a c,v= .slice a l.length c:=by
 obtain⟨b,h⟩:=h
 obtain⟨a,c,e⟩:=h.size
 rw[List.length_map]at e
 exact⟨a,c,e⟩
theorem NumsAt.below {l:List Int} {v:Value} {w w':World} (h:NumsAt l v w) (hb:Below w.heap.size w w'):NumsAt l v w':=by
 obtain⟨b,h⟩:=h
 exact⟨b,h.below hb⟩
theorem same_yes (v1 v2:Value) (l:List Int) (w:World) (h1:NumsAt l v1 w) (h2:NumsAt l v2 w) (s1:l.length≤1000000):Calls Tryd.prog 16 #[v1,v2] w fun e w'=>e= .returned (.bool true)∧Below w.heap.size w w':=
 (rsame_any v1 v2 l l w h1 h2 s1).mono (fun e w' h=>⟨h.1.trans (by rw[decide_eq_true (rfl:l=l)]),h.2⟩)
theorem chgwindows_walk (g:GlC) (v0:Value) (w:World) (env:Env w) (a0: ∃u,v0= .agg u.toArray∧GolI w u g):Calls Tryd.prog 5 #[v0] w fun e w'=>e= .returned (.bool true)∧Below w.heap.size w w':=by
 obtain⟨u,rfl,hu⟩:=a0
 have HL0:Hid (LightG g→g.rules.length≤400000):=Lh (fun h=>by have:=h.2.2.1;omega)
 have HAW:=Lh (fun W (b:Below w.heap.size w W)=>chg_awake W (env.step b))
 have HHG:=Lh (fun W (b:Below w.heap.size w W)=>rhg_any g u W (hu.below b))
 have HPW:=Lh (fun(hs:LightG g) W (b:Below w.heap.size w W)=>win_any g u W (hu.below b) (HL0.out hs))
 have HRW:=Lh (fun(hs:LightG g) W (b:Below w.heap.size w W)=>rwin_any g u W (hu.below b) (HL0.out hs))
 have HRS:=Lh (win_rises g).1
 have HWL:Hid (LightG g→(winS g).length≤1000000):=Lh (fun h=>by have:=win_len g;have:=h.2.2.1;omega)
 obtain⟨lv,rv,rfl,i1,i2⟩:=hu
 obtain⟨la1,lc1,rfl,_⟩:=i1.size
 obtain⟨ra1,rc1,rfl,_⟩:=i2.size
 obtain⟨n1,hn1⟩: ∃n,(g.labels.map labV).length=n:=⟨_,rfl⟩
 obtain⟨m1,hm1⟩: ∃n,(g.rules.map rulV).length=n:=⟨_,rfl⟩
 rw[hn1,hm1]at HHG HPW HRW ⊢
 obtain⟨WS,hWS⟩: ∃A,winS g=A:=⟨_,rfl⟩
 rw[hWS]at HPW HRW HRS HWL
 obtain⟨n,hn⟩: ∃n,WS.length=n:=⟨_,rfl⟩
 have HN:=Lh hn
 obtain⟨LG,hLG⟩: ∃P,LightG g=P:=⟨_,rfl⟩
 rw[hLG]at HHG HPW HRW HWL
 clear hLG HL0 hWS hn hn1 hm1 i1 i2 env
 obtain⟨nm,tg,gn,la,ro,ca,L,R⟩:=g
 simp only[golL]at HHG HPW HRW ⊢
 obtain⟨gb,W0,hg,hW0,V0,b0,z0⟩:=boxL w [.string nm, .int .u32 tg, .int .i64 gn, .int .i64 la, .int .i64 ro, .int .i64 ca, .slice la1 n1 lc1, .slice ra1 m1 rc1] 44
 have HV0:=Lh V0
 have HB0:=Lh b0
 have HAW0:=Lh (HAW.out W0 b0)
 clear V0 b0 z0
 go_enter Tryd.func5,Tryd.ntmps5
 go_wp2_with (first
  |(go_at_call 6;(with_reducible refine(HAW0.out).mono ?_);rintro e W2 ⟨rfl,h⟩;have D2:=Lh h;clear h;have x0:=(HV0.out.after D2.out).c 0 rfl;have x1:=(HV0.out.after D2.out).c 1 rfl;have x2:=(HV0.out.after D2.out).c 2 rfl;have x3:=(HV0.out.after D2.out).c 3 rfl;have x4:=(HV0.out.after D2.out).c 4 rfl;have x5:=(HV0.out.after D2.out).c 5 rfl;have x6:=(HV0.out.after D2.out).c 6 rfl;have x7:=(HV0.out.after D2.out).c 7 rfl;have HX:=Lh (HHG.out W2 (below_step HB0.out D2.out)))
  |(go_at_call 14;(with_reducible refine(HX.out).mono ?_);rintro e W3 ⟨⟨q2,rfl,hq2⟩,h⟩;have D3:=Lh (below_step D2.out h);have HQ2:=Lh hq2;clear h hq2;clear x0 x1 x2 x3 x4 x5 x6 x7;have y0:=(HV0.out.after D3.out).c 0 rfl;have y1:=(HV0.out.after D3.out).c 1 rfl;have y2:=(HV0.out.after D3.out).c 2 rfl;have y3:=(HV0.out.after D3.out).c 3 rfl;have y4:=(HV0.out.after D3.out).c 4 rfl;have y5:=(HV0.out.after D3.out).c 5 rfl;have y6:=(HV0.out.after D3.out).c 6 rfl;have y7:=(HV0.out.after D3.out).c 7 rfl;cases q2))
 ·have HLG:Hid LG:=Lh (HQ2.out (by trivial))
  have HP3:=Lh (HPW.out HLG.out W3 (below_step HB0.out D3.out))
  have HNL:Hid (n≤1000000):=Lh (by have:=HWL.out HLG.out;have:=HN.out;omega)
  go_wp2_with (first
   |(go_at_call 15;(with_reducible refine(HP3.out).mono ?_);intro e W4 hx;obtain⟨v1,rfl,hv1,h4⟩:=hx.at;have D4:=Lh (below_step D3.out h4);obtain⟨a1,c1,rfl⟩:=hv1.form;rw[HN.out]at hv1 ⊢;have HV1:=Lh hv1;have HR4:=Lh (HRW.out HLG.out W4 (below_step HB0.out D4.out));clear h4 hv1;clear y0 y1 y2 y3 y4 y5 y6 y7;have z0:=(HV0.out.after D4.out).c 0 rfl;have z1:=(HV0.out.after D4.out).c 1 rfl;have z2:=(HV0.out.after D4.out).c 2 rfl;have z3:=(HV0.out.after D4.out).c 3 rfl;have z4:=(HV0.out.after D4.out).c 4 rfl;have z5:=(HV0.out.after D4.out).c 5 rfl;have z6:=(HV0.out.after D4.out).c 6 rfl;have z7:=(HV0.out.after D4.out).c 7 rfl)
   |(go_at_call 17;(with_reducible refine(HR4.out).mono ?_);rintro e W5 ⟨v2,rfl,hv2,h5⟩;have D5:=Lh (below_step D4.out h5);have HS5:=Lh (same_yes _ _ WS W5 (HV1.out.below h5) hv2 (by have:=HNL.out;have:=HN.out;omega));have HV5:=Lh (HV1.out.below h5);clear h5 hv2)
   |(go_at_call 16;(with_reducible refine(HS5.out).mono ?_);rintro e W6 ⟨rfl,h6⟩;have D6:=Lh (below_step D5.out h6);have HV6:=Lh (HV5.out.below h6);clear h6))
  go_loopw [4] (fun v4 wr=> ∃k:Nat,v4= .int .i64 ((k:Int)+1)∧k≤n∧Below W6.heap.size W6 wr) (fun v4 _=>n+1-(intOf v4).toNat)
  case atStart=>exact⟨0,rfl,Nat.zero_le _,Mj _ _⟩
  case round=>
   obtain⟨k,rfl,hk,hb⟩:=hrel
   have HB:=Lh hb
   by_cases hin:k+1<n
   ·obtain⟨bs,hrow⟩:=HV6.out
    obtain⟨ag,ac2,hae,_⟩:=hrow.form (by rw[List.length_map,HN.out];omega)
    simp only[Value.slice.injEq]at hae
    obtain⟨rfl,-,-⟩:=hae
    have HX2:Hid (∀W,Below wr.heap.size wr W→W.cell? ⟨ag,k,none⟩=some (.int .i64 (WS.getD k 0))∧W.cell? ⟨ag,k+1,none⟩=some (.int .i64 (WS.getD (k+1) 0))):=Lh (fun W h=>⟨num_cells (hrow.below (below_step HB.out h)) k (by rw[HN.out];omega),num_cells (hrow.below (below_step HB.out h)) (k+1) (by rw[HN.out];omega)⟩)
    have hlt:WS.getD k 0<WS.getD (k+1) 0:=by
     have h1:k<WS.length:=by rw[HN.out];omega
     have h2:k+1<WS.length:=by rw[HN.out];omega
     have:=List.pairwise_iff_getElem.mp HRS.out k (k+1) h1 h2 (by omega)
     simpa [List.getD_eq_getElem?_getD,h1,h2] using this
    obtain⟨x,hx⟩: ∃x,WS.getD k 0=x:=⟨_,rfl⟩
    obtain⟨y,hy⟩: ∃y,WS.getD (k+1) 0=y:=⟨_,rfl⟩
    rw[hx,hy]at HX2 hlt
    have hnl:=HNL.out
    have hw1:IntKind.i64.wrap (k:Int)=(k:Int):=by rw[IntKind.wrap_i64];omega
    have hi1:IntKind.i64.wrap ((k:Int)+1+1)=(k:Int)+1+1:=by rw[IntKind.wrap_i64];omega
    have hc1:(k:Int)+1<(n:Int):=by omega
    have hc2:(k:Int)<(n:Int):=by omega
    have hge: ¬y≤x:=by omega
    have hqc:decide (y≤x)=false:=decide_eq_false hge
    clear hx hy hb hrow hlt hnl
    go_wp2
    refine wp_region_mix 10 (TVs [.slice (some ⟨ag,0,none⟩) n c1, .int .i64 ((k:Int)+1), .int .i64 (k:Int), .pointer (some ⟨ag,k,none⟩), .int .i64 x, .slice (some ⟨ag,0,none⟩) n c1, .int .i64 ((k:Int)+1), .pointer (some ⟨ag,k+1,none⟩), .int .i64 y, .bool false]) (fun _=>false) (by kernel_rfl) (by kernel_rfl) (TVs.keep _) (fun _ _ _ h=>by cases h) ?_ ?_
    ·refine⟨?_,?_,?_,?_,?_,?_,?_,?_,?_,?_,trivial⟩
     all_goals
      intro u W hb hd
      have⟨x0,y0⟩:=HX2.out W hb
      simp only[List.take_succ_cons,List.take_zero,putAll,Act.put,List.setIfInBounds_toArray,List.set_cons_succ,List.set_cons_zero,Ly,Nat.reduceAdd]
      try (have e0:u _=List.getD _ _ _:=hd.1 rfl (by decide);rw[e0])
      try (have e1:u _=List.getD _ _ _:=hd.2.1 rfl (by decide);rw[e1])
      try (have e2:u _=List.getD _ _ _:=hd.2.2.1 rfl (by decide);rw[e2])
      try (have e3:u _=List.getD _ _ _:=hd.2.2.2.1 rfl (by decide);rw[e3])
      try (have e4:u _=List.getD _ _ _:=hd.2.2.2.2.1 rfl (by decide);rw[e4])
      try simp only[List.getD_cons_zero,List.getD_cons_succ]
      go_wp2
      first|exact Mj _ _|exact⟨congrArg Value.bool hqc,Mj _ _⟩|exact⟨_,rfl,congrArg Value.bool hqc,Mj _ _⟩|exact⟨_,rfl,congrArg Value.bool hqc,Mj _ _,fun h=>by simp at h⟩|exact⟨rfl,Mj _ _⟩|exact⟨_,rfl,rfl,Mj _ _⟩|exact⟨_,rfl,rfl,Mj _ _,fun h=>by simp at h⟩
    intro u W hbu hT _
    have eL:u 9= .bool false:=hT 9 (by decide)
    simp only[List.take_succ_cons,List.take_zero,List.drop_succ_cons,List.drop_zero,putAll,Act.put,List.setIfInBounds_toArray,List.set_cons_succ,List.set_cons_zero,Ly,Nat.reduceAdd]
    rw[eL]
    have HB3:=Lh (below_step HB.out hbu)
    clear hbu hT
    go_wp2
    go_roundw
    case rel=>exact⟨k+1,by push_cast;rfl,by omega,HB3.out⟩
    case measure=>simp[intOf];omega
   ·have hc1: ¬(k:Int)+1<(n:Int):=by omega
    clear hb
    go_wp2
    go_ret
    have HF:=below_step HB0.out (below_step D6.out HB.out)
    exact⟨rfl,by first|exact HF|(rw[hg]at HF;exact HF)⟩
 ·go_ret
  exact⟨rfl,below_step HB0.out D3.out⟩
end
section
open Go.ChangeShapes Go.WideShapes Go.ChangeAt Go.RowKit Go.Joins
theorem chgwindows_own:ownKnob Tryd.prog.godebug=none:=by kernel_rfl
theorem chgwindows_laidOut:laidOutB Tryd.prog=true:=by kernel_rfl
theorem chgwindows_lifted (os:Os) (started:os.Started) (H:Type) (enc:TypeId×Value→H):
  ReturnsInHanded {} Tryd.checked os 5 .any (fun w args=>(Rows.changeWindowsSpec.pre enc Tryd.prog Tryd.f5 Rows.changeWindowsRow.domain false w args∧laidMetH Tryd.prog Rows.changeWindowsRow.laid w)∧sizedMet enc Tryd.prog Tryd.f5 (OpenSpec.ofChange Rows.changeWindowsSpec) false w args) (Rows.changeWindowsSpec.post enc Tryd.prog Tryd.f5 false true false false):=by
 refine returnsInHanded_of_change_and (C:=Tryd.checked) (X:=fun w _=>laidMetH Tryd.prog Rows.changeWindowsRow.laid w) (fun _ _ _ hh h=>h.of_heap hh) chgwindows_own started (by kernel_rfl) Tryd.func5
  (ChangeSpec.witness_shaped (enc:=enc) (C:=Tryd.checked) (os:=os) (X:=fun w _=>laidMetH Tryd.prog Rows.changeWindowsRow.laid w) false (World.laidAll Tryd.prog os Rows.changeWindowsRow.laid) #[.agg #[.string ⟨#[]⟩, .int .u32 0, .int .i64 0, .int .i64 0, .int .i64 0, .int .i64 0, .slice none 0 0, .slice none 0 0]] 8 (World.laidAll_os _ _ _)
   (World.shaped_of_ZipB (by kernel_rfl) (by kernel_rfl)) (by kernel_rfl) (by kernel_rfl) (by kernel_rfl)
   (by rw[MakeChecks.laidMetH_plain _ _ _ (by kernel_rfl)];exact laidMet_laidAll _ (by kernel_rfl) (by kernel_rfl))) ?_
 intro W base args ds gs before hval0 hW _ _ hlaid _
 have hlaid2:laidMetH Tryd.prog Rows.changeWindowsRow.laid W:=hlaid
 rw[MakeChecks.laidMetH_plain _ _ _ (by kernel_rfl)]at hlaid2
 have htab:Env W:=utf_of_laid hlaid2 (by first|exact List.mem_of_getElem? (i:=1) (by kernel_rfl)|exact List.mem_of_getElem? (i:=0) (by kernel_rfl)|exact List.mem_of_getElem? (i:=2) (by kernel_rfl)|exact List.mem_of_getElem? (i:=3) (by kernel_rfl)|exact List.mem_of_getElem? (i:=4) (by kernel_rfl)) (by first|exact List.mem_of_getElem? (i:=0) (by kernel_rfl)|exact List.mem_of_getElem? (i:=1) (by kernel_rfl)|exact List.mem_of_getElem? (i:=2) (by kernel_rfl)|exact List.mem_of_getElem? (i:=3) (by kernel_rfl)|exact List.mem_of_getElem? (i:=4) (by kernel_rfl))
 clear hlaid hlaid2
 have hval: ∀(j:Nat) t v,Tryd.f5.params[j]?=some t→args[j]?=some v→Value.okWide Tryd.prog W .any base t v:=hval0
 have hW':=hW
 obtain⟨p,q,hA0,hV,rfl,hfz,hnd⟩:=hW
 have hA:DataW.TrodAll enc Tryd.prog W 0 (fun _=>true) true Tryd.f5.params.toList args.toList ds p:=hA0
 rw[Tryd.params5]at hA hval
 obtain⟨v0,vs0,d0,ds0,p0,q0,hargs,rfl,rfl,h0,r0⟩:=trodAll_cons hA
 obtain⟨rfl,rfl,rfl⟩:=trodAll_nil r0
 obtain rfl:args= #[v0]:=by cases args;simp_all
 obtain⟨rfl,rfl⟩:=trodVars_none hV
 have k0:=h0
 have lt0: ∀x∈p0,x.block<W.heap.size:=by obtain⟨m,hm⟩:=k0;exact DataW.trod_lt m _ _ _ hm
 obtain⟨l0,a0,b0⟩:=open_goal (hval 0 44 v0 rfl rfl) h0
 clear hA0 hval0
 refine(chgwindows_walk l0 v0 W htab a0).mono fun e W' ⟨he,bel⟩=>?_
 subst he
 exact⟨_,rfl,_,_,_,[],_,[],hW',trodAll_mk1 (shut_bool Tryd.underlying4 _),(trodAll_cons_mk (Below.trod chgwindows_laidOut (by kernel_rfl) (of_decide_eq_true (by kernel_rfl)) k0 bel lt0) trodAll_mk0),rfl,bel.frame _,fun h=>by cases h⟩
theorem chgwindows_over:Rows.changeWindowsRow.holds Tryd.pinned (OpenSpec.ofChange Rows.changeWindowsSpec):=
 OpenClaim.holds_of_wide 5 Tryd.f5 rfl rfl rfl rfl rfl rfl rfl ⟨rfl,rfl,rfl,rfl,rfl⟩ rfl rfl rfl rfl rfl (by kernel_rfl) Tryd.func5 (by kernel_rfl)
  (of_decide_eq_true (by kernel_rfl)) (by unfold Func.isWrapper;first|(rw[if_pos (by decide+kernel)];kernel_rfl)|(rw[if_neg (by decide+kernel)];exact⟨rfl,rfl⟩))
  (fun os started H enc _=>chgwindows_lifted os started H enc)
theorem change_windows_proved:Rows.ChangeWindowsCardSaid:=
 Claim7.holds_tied_plain_at .later [] Rows.changeWindowsCard.laidKinds true Rows.changeWindowsCard.stood.harness Rows.changeWindowsCard.stood.looks chgwindows_over (fun _ h=>by cases h) (by kernel_rfl) (fun _ h=>by cases h) changeWindows_row_tie rfl ⟨rfl,rfl⟩ (by kernel_rfl) rfl
  (fun f fn hf hfn=>by
   obtain rfl:f=5:=Option.some.inj ((show Tryd.prog.funcNamed "firebell/firebelllaw18.ChangeWindows" =some 5 by kernel_rfl).symm.trans hf)|>.symm
   obtain rfl:fn=Tryd.f5:=(Option.some.inj (Tryd.func5.symm.trans hfn)).symm
   exact⟨by kernel_rfl,fun j t ht=>by
    rw[Tryd.params5]at ht
    have hm:t∈ [44]:=by first|simpa using Array.mem_of_getElem? ht|(have h:=Array.mem_of_getElem? ht;simp at h ⊢;omega)|(have h:=Array.mem_of_getElem? ht;simp at h ⊢;rcases h with h|h|h<;>simp[h])
    have hall:([44].all fun u=> !Tryd.prog.wantsStandIn u)=true:=by kernel_rfl
    exact(show Tryd.prog.wantsStandIn t=false by simpa using List.all_eq_true.1 hall t hm)⟩)
  (by kernel_rfl)
end
end Go.Proofs.YtgmfkbamfnkbgaaDoor
