/-
  Package layout's printer shuts blocks, and writes an item: walked.
-/
import Derived.Test.YtiapmjkaappcfaaGreatDoorPkShowGoals09
set_option maxRecDepth 100000
set_option maxHeartbeats 8000000
namespace Go.Proofs.YtiapmjkaappcfaaGreatDoor
open Lib renaming hid→Lh
open List renaming setIfInBounds_toArray→Lq,set_cons_zero→Lj,set_cons_succ→Lk,getD_eq_getElem?_getD→Mk,getElem?_eq_getElem→Kh,length_append→Kq,take_succ_cons→Kj,length_map→Ky,take_zero→Jh,length_cons→Jq
open Nat renaming reduceAdd→Lx,zero_add→Ly,le_refl→Mz
open Act renaming put→Mq
open Go.RowKit.Below renaming refl→Mj
section
open Go.RowKit
theorem allN_iff {α:Type} {Q:α→Prop} {nm:α→ByteArray} {l:List α} {n:Nat} :AllN (fun i=> ∀x,l[i]?=some x→Q x) (l.map nm) n↔AllU Q nm l n:=by
 constructor
 ·intro h j x hj hx
  obtain⟨h1,h2⟩:=h j (nm x) hj (by rw[List.getElem?_map,hx];rfl)
  exact⟨h1 x hx,fun k y hk hy=>h2 k (nm y) hk (by rw[List.getElem?_map,hy];rfl)⟩
 ·intro h j y hj hy
  rw[List.getElem?_map,Option.map_eq_some_iff]at hy
  obtain⟨x,hx,rfl⟩:=hy
  refine⟨fun x' hx'=>(h j x' hj hx').1,fun k z hk hz=>?_⟩
  rw[List.getElem?_map,Option.map_eq_some_iff]at hz
  obtain⟨y,hy,rfl⟩:=hz
  exact(h j x hj hx).2 k y hk hy
theorem named_map {α:Type} {Q:ByteArray→List Value→Prop} {f:α→List Value} {nm:α→ByteArray} (l:List α) (h: ∀x,Q (nm x) (f x)):NamedK Q (l.map f) (l.map nm):=by
 refine⟨by rw[Ky,Ky],fun i u s hu hs=>?_⟩
 rw[List.getElem?_map,Option.map_eq_some_iff]at hu hs
 obtain⟨x,hx,rfl⟩:=hu
 obtain⟨y,hy,rfl⟩:=hs
 rw[hx]at hy
 injection hy with hy
 subst hy
 exact h x
theorem wrul_any (r:RlC) (g:Int) (w:World) (env:Env w) (hm:r.name.size≤4294967296):Calls Tryz.prog 34 #[.agg (rulV r).toArray, .int .i64 g] w (GivesQ (RuleOk g r) w):=by
 obtain⟨s,pg,lo,sh,fa,ho,ke⟩:=r
 simp only at hm
 obtain⟨gb,W1,hg,hW1,V1,b1,z1⟩:=boxL w [.string s, .bool pg, .int .i64 lo, .int .i64 sh, .int .u64 fa, .int .i64 ho, .int .i64 ke] 66
 obtain⟨q0,h0⟩:=shq_of (NameL (runesOf (nums s)))
 obtain⟨q1,h1⟩: ∃q,decide (1≤lo∧lo≤34560000)=q:=⟨_,rfl⟩
 obtain⟨q2,h2⟩: ∃q,decide (1≤g∧lo%g=0)=q:=⟨_,rfl⟩
 obtain⟨q3,h3⟩: ∃q,decide (1≤sh∧sh≤lo)=q:=⟨_,rfl⟩
 obtain⟨q4,h4⟩: ∃q,decide (1≤g∧sh%g=0)=q:=⟨_,rfl⟩
 obtain⟨q5,h5⟩: ∃q,decide (1≤fa∧fa≤1000000)=q:=⟨_,rfl⟩
 obtain⟨q6,h6⟩: ∃q,decide (0≤ho∧ho≤604800)=q:=⟨_,rfl⟩
 obtain⟨q7,h7⟩: ∃q,decide (0≤ke∧ke≤604800)=q:=⟨_,rfl⟩
 have HQ:Hid ((q0&&(q1&&(q2&&(q3&&(q4&&(q5&&(q6&&q7)))))))=true↔RuleOk g ⟨s,pg,lo,sh,fa,ho,ke⟩):=Lh (by
  rw[←h1,←h2,←h3,←h4,←h5,←h6,←h7]
  simp only[Bool.and_eq_true,decide_eq_true_eq,h0]
  exact⟨fun⟨a,⟨b1,b2⟩,⟨c1,c2⟩,⟨d1,d2⟩,⟨_,e2⟩,⟨f1,f2⟩,⟨g1,g2⟩,k1,k2⟩=>⟨a,b1,b2,c1,c2,d1,d2,e2,f1,f2,g1,g2,k1,k2⟩,fun h=>⟨h.nm,⟨h.l1,h.l2⟩,⟨h.g1,h.lg⟩,⟨h.s1,h.s2⟩,⟨h.g1,h.sg⟩,⟨h.f1,h.f2⟩,⟨h.h1,h.h2⟩,h.k1,h.k2⟩⟩)
 have HN:=Lh (GivesQ.is h0 (tname_any s W1 (env.step b1) hm))
 have H1:Hid (∀W,Calls Tryz.prog 64 #[.int .i64 lo, .int .i64 1, .int .i64 34560000] W fun e w'=>e= .returned (.bool q1)∧w'=W):=Lh (fun W=>by rw[←h1];exact betw_i64 _ _ _ W)
 have H2:Hid (q1=true→∀W,Calls Tryz.prog 65 #[.int .i64 lo, .int .i64 g] W fun e w'=>e= .returned (.bool q2)∧w'=W):=Lh (fun e W=>by rw[←h2];have:=of_decide_eq_true (h1.trans e);exact mult_any _ _ W (by omega))
 have H3:Hid (∀W,Calls Tryz.prog 64 #[.int .i64 sh, .int .i64 1, .int .i64 lo] W fun e w'=>e= .returned (.bool q3)∧w'=W):=Lh (fun W=>by rw[←h3];exact betw_i64 _ _ _ W)
 have H4:Hid (q1=true→q3=true→∀W,Calls Tryz.prog 65 #[.int .i64 sh, .int .i64 g] W fun e w'=>e= .returned (.bool q4)∧w'=W):=Lh (fun e e2 W=>by rw[←h4];have:=of_decide_eq_true (h1.trans e);have:=of_decide_eq_true (h3.trans e2);exact mult_any _ _ W (by omega))
 have H5:Hid (∀W,Calls Tryz.prog 74 #[.int .u64 fa, .int .u64 1, .int .u64 1000000] W fun e w'=>e= .returned (.bool q5)∧w'=W):=Lh (fun W=>by rw[←h5];exact betw_u64 _ _ _ W)
 have H6:Hid (∀W,Calls Tryz.prog 64 #[.int .i64 ho, .int .i64 0, .int .i64 604800] W fun e w'=>e= .returned (.bool q6)∧w'=W):=Lh (fun W=>by rw[←h6];exact betw_i64 _ _ _ W)
 have H7:Hid (∀W,Calls Tryz.prog 64 #[.int .i64 ke, .int .i64 0, .int .i64 604800] W fun e w'=>e= .returned (.bool q7)∧w'=W):=Lh (fun W=>by rw[←h7];exact betw_i64 _ _ _ W)
 have HB:=Lh b1
 have HV:=Lh V1
 have c0:=V1.c 0 rfl
 clear env hm b1 z1 V1 h0 h1 h2 h3 h4 h5 h6 h7
 show Calls Tryz.prog 34 #[.agg #[.string s, .bool pg, .int .i64 lo, .int .i64 sh, .int .u64 fa, .int .i64 ho, .int .i64 ke], .int .i64 g] w _
 rcases ch (q:=q0) (ch (q:=q1) (ch (q:=q2) (ch (q:=q3) (ch (q:=q4) (ch (q:=q5) (ch (q:=q6) (eqb q7)))))))with rfl|⟨rfl,rfl|⟨rfl,rfl|⟨rfl,rfl|⟨rfl,rfl|⟨rfl,rfl|⟨rfl,rfl|⟨rfl,rfl|rfl⟩⟩⟩⟩⟩⟩⟩
 all_goals
  go_enter Tryz.func34,Tryz.ntmps34
  go_wp2_with (first
  |(go_at_call 62;(with_reducible refine(HN.out).mono ?_);rintro e W2 ⟨rfl,h⟩;have DD:=Lh h;have d2:=(HV.out.after h).c 2 rfl;have d3:=(HV.out.after h).c 3 rfl;have d4:=(HV.out.after h).c 4 rfl;have d5:=(HV.out.after h).c 5 rfl;have d6:=(HV.out.after h).c 6 rfl;clear h)
  |(go_at_call 64;(with_reducible refine(H1.out _).mono ?_);rintro e w' ⟨rfl,rfl⟩)
  |(go_at_call 65;(with_reducible refine(H2.out (by trivial) _).mono ?_);rintro e w' ⟨rfl,rfl⟩)
  |(go_at_call 64;(with_reducible refine(H3.out _).mono ?_);rintro e w' ⟨rfl,rfl⟩)
  |(go_at_call 65;(with_reducible refine(H4.out (by trivial) (by trivial) _).mono ?_);rintro e w' ⟨rfl,rfl⟩)
  |(go_at_call 74;(with_reducible refine(H5.out _).mono ?_);rintro e w' ⟨rfl,rfl⟩)
  |(go_at_call 64;(with_reducible refine(H6.out _).mono ?_);rintro e w' ⟨rfl,rfl⟩)
  |(go_at_call 64;(with_reducible refine(H7.out _).mono ?_);rintro e w' ⟨rfl,rfl⟩))
  go_ret
  exact⟨_,rfl,by simpa using HQ.out,below_step HB.out DD.out⟩
theorem wrulc_any (r:RlC) (g:Int) (gb:Nat) (w:World) (env:Env w) (hm:r.name.size≤4294967296) (hg:w.cell? ⟨gb,2,none⟩=some (.int .i64 g)) (hgb:gb<w.heap.size):Calls Tryz.prog 61 #[.agg (rulV r).toArray, .pointer (some ⟨gb,0,none⟩)] w (GivesQ (RuleOk g r) w):=by
 obtain⟨q,hq⟩:=shq_of (RuleOk g r)
 have HQ:=Lh hq
 obtain⟨s,pg,lo,sh,fa,ho,ke⟩:=r
 obtain⟨rb,W1,hr,hW1,V1,b1,z1⟩:=boxL w [.string s, .bool pg, .int .i64 lo, .int .i64 sh, .int .u64 fa, .int .i64 ho, .int .i64 ke] 66
 have x2:=(b1.cell (p:=⟨gb,2,none⟩) hgb).trans hg
 have HR:=Lh (GivesQ.is hq (wrul_any ⟨s,pg,lo,sh,fa,ho,ke⟩ g W1 (env.step b1) hm))
 have HB:=Lh b1
 have c0:=V1.c 0 rfl;have c1:=V1.c 1 rfl;have c2:=V1.c 2 rfl;have c3:=V1.c 3 rfl;have c4:=V1.c 4 rfl;have c5:=V1.c 5 rfl;have c6:=V1.c 6 rfl
 simp only[rulV]at HR
 clear env hm hg b1 z1 V1 hq
 show Calls Tryz.prog 61 #[.agg #[.string s, .bool pg, .int .i64 lo, .int .i64 sh, .int .u64 fa, .int .i64 ho, .int .i64 ke], .pointer (some ⟨gb,0,none⟩)] w _
 go_enter Tryz.func61,Tryz.ntmps61
 go_wp2_with (go_at_call 34;(with_reducible refine(HR.out).mono ?_);rintro e W2 ⟨rfl,h⟩;have DD:=Lh h;clear h)
 go_ret
 exact⟨_,rfl,HQ.out,below_step HB.out DD.out⟩
def GolS (g:GlC):Prop:=g.name.size≤4294967296∧(∀l∈g.labels,l.1.size≤4294967296∧l.2.size≤4294967296)∧(∀r∈g.rules,r.name.size≤4294967296)∧g.labels.length≤1000000∧g.rules.length≤1000000
theorem wgol_any (g:GlC) (u:List Value) (w:World) (env:Env w) (hu:GolI w u g) (hs:GolS g):Calls Tryz.prog 32 #[.agg u.toArray] w (GivesQ (GoalOk g) w):=by
 obtain⟨lv,rv,rfl,hl,hr⟩:=hu
 obtain⟨s0,s1,s2,s3,s4⟩:=hs
 obtain⟨nm,tg,gr,la,ro,ca,L,R⟩:=g
 simp only at s0 s1 s2 s3 s4 hl hr
 obtain⟨la1,lc1,rfl,_⟩:=hl.size
 obtain⟨ra1,rc1,rfl,_⟩:=hr.size
 rw[Ky]at hl hr ⊢
 rw[Ky]
 obtain⟨n,hn⟩: ∃n,L.length=n:=⟨_,rfl⟩
 obtain⟨m,hmm⟩: ∃n,R.length=n:=⟨_,rfl⟩
 rw[hn]at hl s3 ⊢
 rw[hmm]at hr s4 ⊢
 obtain⟨gb,W1,hg,hW1,V1,b1,z1⟩:=boxL w [.string nm, .int .u32 tg, .int .i64 gr, .int .i64 la, .int .i64 ro, .int .i64 ca, .slice la1 n lc1, .slice ra1 m rc1] 54
 obtain⟨q0,h0⟩:=shq_of (NameL (runesOf (nums nm)))
 obtain⟨q8,h8⟩:=shq_of (AllU LabOk (·.1) L n)
 obtain⟨q10,h10⟩:=shq_of (AllU (RuleOk gr) (·.name) R m)
 obtain⟨q1,h1⟩: ∃q,decide (1≤tg∧tg≤999999)=q:=⟨_,rfl⟩
 obtain⟨q2,h2⟩: ∃q,decide (1≤gr∧gr≤86400)=q:=⟨_,rfl⟩
 obtain⟨q3,h3⟩: ∃q,decide (0≤la∧la≤86400)=q:=⟨_,rfl⟩
 obtain⟨q4,h4⟩: ∃q,decide (0≤ro∧ro≤34560000)=q:=⟨_,rfl⟩
 obtain⟨q5,h5⟩: ∃q,decide (1≤gr∧ro%gr=0)=q:=⟨_,rfl⟩
 obtain⟨q6,h6⟩: ∃q,decide (0≤ca∧ca≤2)=q:=⟨_,rfl⟩
 obtain⟨q7,h7⟩: ∃q,decide (0≤(n:Int)∧(n:Int)≤4)=q:=⟨_,rfl⟩
 obtain⟨q9,h9⟩: ∃q,decide (1≤(m:Int)∧(m:Int)≤4)=q:=⟨_,rfl⟩
 have HQ:Hid ((q0&&(q1&&(q2&&(q3&&(q4&&(q5&&(q6&&(q7&&(q8&&(q9&&q10))))))))))=true↔GoalOk ⟨nm,tg,gr,la,ro,ca,L,R⟩):=Lh (by
  rw[←h1,←h2,←h3,←h4,←h5,←h6,←h7,←h9]
  simp only[Bool.and_eq_true,decide_eq_true_eq,h0,h8,h10]
  subst hn hmm
  exact⟨fun⟨a,⟨b1,b2⟩,⟨c1,c2⟩,⟨d1,d2⟩,⟨e1,e2⟩,⟨_,f2⟩,⟨g1,g2⟩,⟨_,k2⟩,k3,⟨k4,k5⟩,k6⟩=>⟨a,b1,b2,c1,c2,d1,d2,e1,e2,f2,g1,g2,by simp only;omega,k3,by simp only;omega,by simp only;omega,k6⟩,
   fun h=>⟨h.nm,⟨h.t1,h.t2⟩,⟨h.g1,h.g2⟩,⟨h.l1,h.l2⟩,⟨h.r1,h.r2⟩,⟨h.g1,h.rg⟩,⟨h.c1,h.c2⟩,⟨by omega,by have:=h.n1;simp only at this;omega⟩,h.la,⟨by have:=h.m1;simp only at this;omega,by have:=h.m2;simp only at this;omega⟩,h.ru⟩⟩)
 have HN:=Lh (GivesQ.is h0 (tname_any nm W1 (env.step b1) s0))
 have H1:Hid (∀W,Calls Tryz.prog 63 #[.int .u32 tg, .int .u32 1, .int .u32 999999] W fun e w'=>e= .returned (.bool q1)∧w'=W):=Lh (fun W=>by rw[←h1];exact betw_u32 _ _ _ W)
 have H2:Hid (∀W,Calls Tryz.prog 64 #[.int .i64 gr, .int .i64 1, .int .i64 86400] W fun e w'=>e= .returned (.bool q2)∧w'=W):=Lh (fun W=>by rw[←h2];exact betw_i64 _ _ _ W)
 have H3:Hid (∀W,Calls Tryz.prog 64 #[.int .i64 la, .int .i64 0, .int .i64 86400] W fun e w'=>e= .returned (.bool q3)∧w'=W):=Lh (fun W=>by rw[←h3];exact betw_i64 _ _ _ W)
 have H4:Hid (∀W,Calls Tryz.prog 64 #[.int .i64 ro, .int .i64 0, .int .i64 34560000] W fun e w'=>e= .returned (.bool q4)∧w'=W):=Lh (fun W=>by rw[←h4];exact betw_i64 _ _ _ W)
 have H5:Hid (q4=true→∀W,Calls Tryz.prog 65 #[.int .i64 ro, .int .i64 gr] W fun e w'=>e= .returned (.bool q5)∧w'=W):=Lh (fun e W=>by rw[←h5];have:=of_decide_eq_true (h4.trans e);exact mult_any _ _ W (by omega))
 have H6:Hid (∀W,Calls Tryz.prog 51 #[.int .i64 ca, .int .i64 0, .int .i64 2] W fun e w'=>e= .returned (.bool q6)∧w'=W):=Lh (fun W=>by rw[←h6];exact betw_int _ _ _ W)
 have H7:Hid (∀W,Calls Tryz.prog 51 #[.int .i64 (n:Int), .int .i64 0, .int .i64 4] W fun e w'=>e= .returned (.bool q7)∧w'=W):=Lh (fun W=>by rw[←h7];exact betw_int _ _ _ W)
 have H9:Hid (∀W,Calls Tryz.prog 51 #[.int .i64 (m:Int), .int .i64 1, .int .i64 4] W fun e w'=>e= .returned (.bool q9)∧w'=W):=Lh (fun W=>by rw[←h9];exact betw_int _ _ _ W)
 have HLA:Hid (∀W,Below W1.heap.size W1 W→Calls Tryz.prog 66 #[.slice la1 n lc1, .func (.func 67) #[] #[], .func (.func 68) #[] #[]] W fun e w'=>e= .returned (.bool q8)∧Below W.heap.size W w'):=Lh (fun W b=>by
  refine GivesQ.is (h8.trans ?_) (label_all (fun i=> ∀x,L[i]?=some x→LabOk x) (L.map labV) (L.map (·.1)) _ W (hl.below (below_step b1 b)) (named_map L fun x=>⟨_,rfl⟩) (by rw[Ky];omega) (fun i u hu W' b'=>?_))
  ·rw[Ky,hn];exact allN_iff.symm
  ·rw[List.getElem?_map,Option.map_eq_some_iff]at hu
   obtain⟨x,hx,rfl⟩:=hu
   have hmem:=List.mem_of_getElem? hx
   refine(wlab_any x W' (env.step (below_step (below_step b1 b) b')) (s1 x hmem).1 (s1 x hmem).2).mono ?_
   rintro e w' ⟨q,e1,e2,e3⟩
   exact⟨q,e1,e2.trans ⟨fun h y hy=>by rw[hx]at hy;injection hy with hy;rw[←hy];exact h,fun h=>h x hx⟩,e3⟩)
 have HRU:Hid (∀W,Below W1.heap.size W1 W→Calls Tryz.prog 69 #[.slice ra1 m rc1, .func (.func 61) #[] #[.pointer (some ⟨gb,0,none⟩)], .func (.func 70) #[] #[]] W fun e w'=>e= .returned (.bool q10)∧Below W.heap.size W w'):=Lh (fun W b=>by
  refine GivesQ.is (h10.trans ?_) (rule_all gb (fun i=> ∀x,R[i]?=some x→RuleOk gr x) (R.map rulV) (R.map (·.name)) _ W (hr.below (below_step b1 b)) (named_map R fun x=>⟨_,_,_,_,_,_,rfl⟩) (by rw[Ky];omega) (fun i u hu W' b'=>?_))
  ·rw[Ky,hmm];exact allN_iff.symm
  ·rw[List.getElem?_map,Option.map_eq_some_iff]at hu
   obtain⟨x,hx,rfl⟩:=hu
   have hmem:=List.mem_of_getElem? hx
   have V2:=V1.after (below_step b b')
   refine(wrulc_any x gr gb W' (env.step (below_step (below_step b1 b) b')) (s2 x hmem) (V2.c 2 rfl) V2.s).mono ?_
   rintro e w' ⟨q,e1,e2,e3⟩
   exact⟨q,e1,e2.trans ⟨fun h y hy=>by rw[hx]at hy;injection hy with hy;rw[←hy];exact h,fun h=>h x hx⟩,e3⟩)
 have hmf: ∀(fn:Fn) (first cap:Array Value) (w:World),(Instr.makeFunc fn first cap).run Tryz.prog w= .ok (.func fn first cap) w:=fun _ _ _ _=>rfl
 have HB:=Lh b1
 have HV:=Lh V1
 have c0:=V1.c 0 rfl
 clear env s0 s1 s2 s3 s4 hl hr hn hmm b1 z1 V1 h0 h1 h2 h3 h4 h5 h6 h7 h8 h9 h10
 show Calls Tryz.prog 32 #[.agg #[.string nm, .int .u32 tg, .int .i64 gr, .int .i64 la, .int .i64 ro, .int .i64 ca, .slice la1 n lc1, .slice ra1 m rc1]] w _
 rcases ch (q:=q0) (ch (q:=q1) (ch (q:=q2) (ch (q:=q3) (ch (q:=q4) (ch (q:=q5) (ch (q:=q6) (ch (q:=q7) (ch (q:=q8) (ch (q:=q9) (eqb q10))))))))))with rfl|⟨rfl,rfl|⟨rfl,rfl|⟨rfl,rfl|⟨rfl,rfl|⟨rfl,rfl|⟨rfl,rfl|⟨rfl,rfl|⟨rfl,rfl|⟨rfl,rfl|⟨rfl,rfl|rfl⟩⟩⟩⟩⟩⟩⟩⟩⟩⟩
 all_goals
  go_enter Tryz.func32,Tryz.ntmps32
  go_wp2_with (first
  |(go_at_call 62;(with_reducible refine(HN.out).mono ?_);rintro e W2 ⟨rfl,h⟩;have DD:=Lh h;clear h;have d1:=(HV.out.after DD.out).c 1 rfl;have d2:=(HV.out.after DD.out).c 2 rfl;have d3:=(HV.out.after DD.out).c 3 rfl;have d4:=(HV.out.after DD.out).c 4 rfl;have d5:=(HV.out.after DD.out).c 5 rfl;have d6:=(HV.out.after DD.out).c 6 rfl;have d7:=(HV.out.after DD.out).c 7 rfl;skip)
  |(go_at_call 63;(with_reducible refine(H1.out _).mono ?_);rintro e w' ⟨rfl,rfl⟩)
  |(go_at_call 64;(with_reducible refine(H2.out _).mono ?_);rintro e w' ⟨rfl,rfl⟩)
  |(go_at_call 64;(with_reducible refine(H3.out _).mono ?_);rintro e w' ⟨rfl,rfl⟩)
  |(go_at_call 64;(with_reducible refine(H4.out _).mono ?_);rintro e w' ⟨rfl,rfl⟩)
  |(go_at_call 65;(with_reducible refine(H5.out (by trivial) _).mono ?_);rintro e w' ⟨rfl,rfl⟩)
  |(go_at_call 51;(with_reducible refine(H6.out _).mono ?_);rintro e w' ⟨rfl,rfl⟩)
  |(go_at_call 51;(with_reducible refine(H7.out _).mono ?_);rintro e w' ⟨rfl,rfl⟩)
  |(go_at_call 51;(with_reducible refine(H9.out _).mono ?_);rintro e w' ⟨rfl,rfl⟩)
  |(go_at_call 66;(with_reducible refine(HLA.out _ DD.out).mono ?_);rintro e W3 ⟨rfl,h⟩;have DE:=Lh (below_step DD.out h);clear h;have k7:=(HV.out.after DE.out).c 7 rfl;skip)
  |(go_at_call 69;(with_reducible refine(HRU.out _ DE.out).mono ?_);rintro e W4 ⟨rfl,h⟩;have DF:=Lh (below_step DE.out h);clear h))
  go_ret
  exact⟨_,rfl,by simpa using HQ.out,below_step HB.out (by first|exact DF.out|exact DE.out|exact DD.out)⟩
end
section
theorem runes_size {s:ByteArray} (h: ∀r∈runesOf (nums s),0≤r):s.size≤4*(runesOf (nums s)).length:=by
 have hb:=(good_back (nums_byte s) h).2
 have hf: ∀l:List Int,(l.flatMap encL).length≤4*l.length:=fun l=>by
  induction l with
  |nil=>simp
  |cons z l ih=>rw[List.flatMap_cons,Kq,Jq];have:=encL_len z;omega
 have:=hf (runesOf (nums s))
 rw[hb,nums_length]at this
 exact this
theorem name_size {s:ByteArray} (h:NameL (runesOf (nums s))):s.size≤2000:=by
 have:=runes_size (s:=s) (fun r hr=>by
  have:=name_within h r hr
  unfold withinB letterB digitB at this
  simp at this
  omega)
 have:=h.2.1
 omega
theorem word_size {t:Tk3} (h:WordR t):t.s.size≤2000:=by
 obtain⟨hl,hh,hr⟩:=h
 have e0:(⟨#[]⟩:ByteArray).size=0:=rfl
 rcases hr with⟨_,h,_⟩|⟨_,h,h2,_⟩|⟨_,h⟩|⟨_,h,_⟩|⟨_,h,_⟩|⟨_,h,_⟩
 ·exact name_size h
 ·have:=runes_size (s:=t.s) (good_mem h)
  omega
 all_goals (rw[h,e0];omega)
theorem EachR.light: ∀ {L:List It},EachR L→NumsR L→LightL L
 | [],_,_=>by simp[LightL]
 | .mk n w k kids a b::l,h,hn=>by
  rw[EachR]at h
  rw[NumsR]at hn
  rw[LightL]
  obtain⟨h1,h2,h3,h4,h5,h6⟩:=h
  refine⟨⟨name_size h1,by show w.length≤20;omega,fun t ht=>⟨word_size (h4 t ht),hn.1 t ht⟩⟩,EachR.light h5 hn.2.1,EachR.light h6 hn.2.2⟩
def exA:ByteArray:=⟨#[114,117,108,101,32,97,123,102,111,114,32,50,109,59,125]⟩
def exAToks:List (TkV×Nat):= [(⟨1,[114,117,108,101],0⟩,0),(⟨1,[97],0⟩,5),(⟨7,[],0⟩,6),(⟨1,[102,111,114],0⟩,7),(⟨6,[],120⟩,11),(⟨9,[],0⟩,13),(⟨8,[],0⟩,14)]
end
section
open Go.RowKit
def NotOk (ro re fi ca ag:Int):Prop:=(1≤ro∧ro≤64)∧(0≤re∧re≤ro)∧(1≤fi∧fi≤86400)∧(fi≤ca∧ca≤604800)∧(0≤ag∧ag≤2592000)
theorem wnot_any (ro re fi ca ag:Int) (w:World):Calls Tryz.prog 54 #[.agg #[.int .i64 ro, .int .i64 re, .int .i64 fi, .int .i64 ca, .int .i64 ag]] w (GivesQ (NotOk ro re fi ca ag) w):=by
 obtain⟨gb,W1,hg,hW1,V1,b1,z1⟩:=boxL w [.int .i64 ro, .int .i64 re, .int .i64 fi, .int .i64 ca, .int .i64 ag] 25
 obtain⟨q0,h0⟩: ∃q,decide (1≤ro∧ro≤64)=q:=⟨_,rfl⟩
 obtain⟨q1,h1⟩: ∃q,decide (0≤re∧re≤ro)=q:=⟨_,rfl⟩
 obtain⟨q2,h2⟩: ∃q,decide (1≤fi∧fi≤86400)=q:=⟨_,rfl⟩
 obtain⟨q3,h3⟩: ∃q,decide (fi≤ca∧ca≤604800)=q:=⟨_,rfl⟩
 obtain⟨q4,h4⟩: ∃q,decide (0≤ag∧ag≤2592000)=q:=⟨_,rfl⟩
 have HQ:Hid ((q0&&(q1&&(q2&&(q3&&q4))))=true↔NotOk ro re fi ca ag):=Lh (by
  rw[←h0,←h1,←h2,←h3,←h4]
  simp only[Bool.and_eq_true,decide_eq_true_eq]
  exact Iff.rfl)
 have H0:Hid (∀W,Calls Tryz.prog 51 #[.int .i64 ro, .int .i64 1, .int .i64 64] W fun e w'=>e= .returned (.bool q0)∧w'=W):=Lh (fun W=>by rw[←h0];exact betw_int _ _ _ W)
 have H1:Hid (∀W,Calls Tryz.prog 51 #[.int .i64 re, .int .i64 0, .int .i64 ro] W fun e w'=>e= .returned (.bool q1)∧w'=W):=Lh (fun W=>by rw[←h1];exact betw_int _ _ _ W)
 have H2:Hid (∀W,Calls Tryz.prog 64 #[.int .i64 fi, .int .i64 1, .int .i64 86400] W fun e w'=>e= .returned (.bool q2)∧w'=W):=Lh (fun W=>by rw[←h2];exact betw_i64 _ _ _ W)
 have H3:Hid (∀W,Calls Tryz.prog 64 #[.int .i64 ca, .int .i64 fi, .int .i64 604800] W fun e w'=>e= .returned (.bool q3)∧w'=W):=Lh (fun W=>by rw[←h3];exact betw_i64 _ _ _ W)
 have H4:Hid (∀W,Calls Tryz.prog 64 #[.int .i64 ag, .int .i64 0, .int .i64 2592000] W fun e w'=>e= .returned (.bool q4)∧w'=W):=Lh (fun W=>by rw[←h4];exact betw_i64 _ _ _ W)
 have HB:=Lh b1
 have c0:=V1.c 0 rfl
 have c1:=V1.c 1 rfl
 have c2:=V1.c 2 rfl
 have c3:=V1.c 3 rfl
 have c4:=V1.c 4 rfl
 clear b1 z1 V1 h0 h1 h2 h3 h4
 rcases ch (q:=q0) (ch (q:=q1) (ch (q:=q2) (ch (q:=q3) (eqb q4))))with rfl|⟨rfl,rfl|⟨rfl,rfl|⟨rfl,rfl|⟨rfl,rfl|rfl⟩⟩⟩⟩
 all_goals
  go_enter Tryz.func54,Tryz.ntmps54
  go_wp2_with (first
  |(go_at_call 51;(with_reducible refine(H0.out _).mono ?_);rintro e w' ⟨rfl,rfl⟩)
  |(go_at_call 51;(with_reducible refine(H1.out _).mono ?_);rintro e w' ⟨rfl,rfl⟩)
  |(go_at_call 64;(with_reducible refine(H2.out _).mono ?_);rintro e w' ⟨rfl,rfl⟩)
  |(go_at_call 64;(with_reducible refine(H3.out _).mono ?_);rintro e w' ⟨rfl,rfl⟩)
  |(go_at_call 64;(with_reducible refine(H4.out _).mono ?_);rintro e w' ⟨rfl,rfl⟩))
  go_ret
  exact⟨_,rfl,by simpa using HQ.out,HB.out⟩
def CfS (c:CfC):Prop:=(∀g∈c.goals,GolS g)∧c.goals.length≤1000000
theorem wright_any (c:CfC) (cv:Value) (w:World) (env:Env w) (hc:ConfI w cv c) (hs:CfS c):Calls Tryz.prog 26 #[cv] w (GivesQ (ConfOk c) w):=by
 obtain⟨gv,rfl,us,hK,hL,hE⟩:=hc
 obtain⟨s0,s1⟩:=hs
 obtain⟨G,ro,re,fi,ca,ag⟩:=c
 simp only at s0 s1 hL hE
 obtain⟨a,cap,rfl,_⟩:=hK.size
 obtain⟨n,hn⟩: ∃n,us.length=n:=⟨_,rfl⟩
 have hGn:G.length=n:=hL.symm.trans hn
 rw[hn]at hK ⊢
 obtain⟨gb,W1,hg,hW1,V1,b1,z1⟩:=boxL w [.slice a n cap, .int .i64 ro, .int .i64 re, .int .i64 fi, .int .i64 ca, .int .i64 ag] 27
 obtain⟨q1,h1⟩:=shq_of (AllU GoalOk (·.name) G n)
 obtain⟨q2,h2⟩:=shq_of (NotOk ro re fi ca ag)
 obtain⟨q0,h0⟩: ∃q,decide (0≤(n:Int)∧(n:Int)≤6)=q:=⟨_,rfl⟩
 have HQ:Hid ((q0&&(q1&&q2))=true↔ConfOk ⟨G,ro,re,fi,ca,ag⟩):=Lh (by
  rw[←h0]
  simp only[Bool.and_eq_true,decide_eq_true_eq,h1,h2]
  subst hGn
  exact⟨fun⟨⟨_,a⟩,b,⟨c1,c2⟩,⟨d1,d2⟩,⟨e1,e2⟩,⟨f1,f2⟩,g1,g2⟩=>⟨by simp only;omega,b,c1,c2,d1,d2,e1,e2,f1,f2,g1,g2⟩,
   fun h=>⟨⟨by omega,by have:=h.n1;simp only at this;omega⟩,h.go,⟨h.r1,h.r2⟩,⟨h.v1,h.v2⟩,⟨h.f1,h.f2⟩,⟨h.c1,h.c2⟩,h.a1,h.a2⟩⟩)
 have H0:Hid (∀W,Calls Tryz.prog 51 #[.int .i64 (n:Int), .int .i64 0, .int .i64 6] W fun e w'=>e= .returned (.bool q0)∧w'=W):=Lh (fun W=>by rw[←h0];exact betw_int _ _ _ W)
 have HGA:Hid (∀W,Below W1.heap.size W1 W→Calls Tryz.prog 52 #[.slice a n cap, .func (.func 32) #[] #[], .func (.func 53) #[] #[]] W fun e w'=>e= .returned (.bool q1)∧Below W.heap.size W w'):=Lh (fun W b=>by
  refine GivesQ.is (h1.trans ?_) (goal_all (fun i=> ∀x,G[i]?=some x→GoalOk x) us (G.map (·.name)) _ W (hK.below (below_step b1 b)) ⟨by rw[Ky,hL],fun i u s hu hs=>?_⟩ (by omega) (fun i u hu W' b'=>?_))
  ·rw[hn];exact allN_iff.symm
  ·rw[List.getElem?_map,Option.map_eq_some_iff]at hs
   obtain⟨x,hx,rfl⟩:=hs
   obtain⟨lv,rv,rfl,i1,i2⟩:=hE i u x hu hx
   obtain⟨_,_,rfl,_⟩:=i1.size
   obtain⟨_,_,rfl,_⟩:=i2.size
   exact⟨_,_,_,_,_,_,_,_,_,_,_,rfl⟩
  ·have hi:i<G.length:=by have:=(List.getElem?_eq_some_iff.1 hu).1;omega
   have hx:G[i]?=some G[i]:=Kh hi
   have hb:=below_step (below_step b1 b) b'
   refine(wgol_any G[i] u W' (env.step hb) ((hE i u _ hu hx).below hb) (s0 _ (List.getElem_mem hi))).mono ?_
   rintro e w' ⟨q,e1,e2,e3⟩
   exact⟨q,e1,e2.trans ⟨fun h y hy=>by rw[hx]at hy;injection hy with hy;rw[←hy];exact h,fun h=>h _ hx⟩,e3⟩)
 have HNO:=Lh (fun W=>GivesQ.is h2 (wnot_any ro re fi ca ag W))
 have HB:=Lh b1
 have HV:=Lh V1
 have c0:=V1.c 0 rfl
 clear env s0 s1 hK hL hE hn hGn b1 z1 V1 h0 h1 h2
 show Calls Tryz.prog 26 #[.agg #[.slice a n cap, .int .i64 ro, .int .i64 re, .int .i64 fi, .int .i64 ca, .int .i64 ag]] w _
 rcases ch (q:=q0) (ch (q:=q1) (eqb q2))with rfl|⟨rfl,rfl|⟨rfl,rfl|rfl⟩⟩
 all_goals
  go_enter Tryz.func26,Tryz.ntmps26
  go_wp2_with (first
  |(go_at_call 51;(with_reducible refine(H0.out _).mono ?_);rintro e w' ⟨rfl,rfl⟩)
  |(go_at_call 52;(with_reducible refine(HGA.out _ (Mj _ _)).mono ?_);rintro e W2 ⟨rfl,h⟩;have DD:=Lh h;clear h;have d1:=(HV.out.after DD.out).c 1 rfl;have d2:=(HV.out.after DD.out).c 2 rfl;have d3:=(HV.out.after DD.out).c 3 rfl;have d4:=(HV.out.after DD.out).c 4 rfl;have d5:=(HV.out.after DD.out).c 5 rfl;skip)
  |(go_at_call 54;(with_reducible refine(HNO.out _).mono ?_);rintro e W3 ⟨rfl,h⟩;have DE:=Lh (below_step DD.out h);clear h))
  go_ret
  exact⟨_,rfl,by simpa using HQ.out,by first|exact below_step HB.out DE.out|exact below_step HB.out DD.out|exact HB.out⟩
end
section
open Go.RowKit
structure PrF (B b:Nat) (op:Int) (zs:List Int) (w:World):Prop where
 hB:B≤b
 ex: ∃p v,(p= .pointer none∨p= .pointer (some ⟨b,0,none⟩))∧w.heap[b]?=some (.cells #[p,v, .int .i64 op] 144 (0,0))∧w.ownsRowF B 5 1 v zs.length (u8s zs)∧v.ownBlock≠some b
theorem PrF.lt {B b:Nat} {op:Int} {zs:List Int} {w:World} (h:PrF B b op zs w):b<w.heap.size:=by
 obtain⟨_,p,v,_,hb,_⟩:=h
 exact(Array.getElem?_eq_some_iff.1 hb).1
theorem PrF.open_ {B b:Nat} {op:Int} {zs:List Int} {w:World} (h:PrF B b op zs w):w.cell? ⟨b,2,none⟩=some (.int .i64 op)∧∀o,w.frozen? ⟨b,o,none⟩=false:=by
 obtain⟨_,p,v,_,hb,_⟩:=h
 exact⟨by rw[Lib.cell_of_heap hb];rfl,fun o=>Lib.frozen_of_heap hb o⟩
theorem PrF.put2 {B b:Nat} {op:Int} {zs:List Int} {w:World} (h:PrF B b op zs w) (y:Int):PrF B b y zs (w.setCell ⟨b,2,none⟩ (.int .i64 y)):=by
 obtain⟨hB,p,v,hp,hb,ho,hn⟩:=h
 exact⟨hB,p,v,hp,by simp[World.setCell,Array.getElem?_modify,hb],own_put ho hn _ _,hn⟩
theorem PrF.new (w:World) (B b:Nat) (hb:b=w.heap.size) (hB:B≤b):PrF B b 0 [] (w.alloc (.cells #[.pointer none, .slice none 0 0, .int .i64 0] 144)):=by
 subst hb
 exact⟨hB, .pointer none, .slice none 0 0,Or.inl rfl,heap_alloc_new w _,World.ownsRowF_nil _ _ _ _,(by intro h;cases h)⟩
theorem PrF.stay {B b:Nat} {op:Int} {zs:List Int} {w w':World} (h:PrF B b op zs w) (hs: ∀k,k<w.heap.size→B≤k→(k=b∨∃cur fz,w.heap[k]?=some (.cells cur 5 fz))→w'.heap[k]?=w.heap[k]?):PrF B b op zs w':=by
 have hlt:=h.lt
 obtain⟨hB,p,v,hp,hb,ho,hn⟩:=h
 refine⟨hB,p,v,hp,(hs b hlt hB (Or.inl rfl)).trans hb,⟨ho.1,?_⟩,hn⟩
 rcases ho.2 with hx|⟨g,cap,cur,fz,hv,hbg,hg,rest⟩
 ·exact Or.inl hx
 ·exact Or.inr ⟨g,cap,cur,fz,hv,hbg,(hs g (Array.getElem?_eq_some_iff.1 hg).1 hbg (Or.inr ⟨cur,fz,hg⟩)).trans hg,rest⟩
theorem PrF.below {B b:Nat} {op:Int} {zs:List Int} {w w':World} (h:PrF B b op zs w) (hb:Below w.heap.size w w'):PrF B b op zs w':=h.stay (fun k hk _ _=>hb.block k hk)
theorem ccp_new (b:Nat) (w:World) (h0:w.cell? ⟨b,0,none⟩=some (.pointer none)) (hsh:w.shape? b=some (144,3)) (hfz:w.frozen? ⟨b,0,none⟩=false):
  Calls Tryz.prog 228 #[.pointer (some ⟨b,0,none⟩)] w fun e w'=>e= .returned (.tuple #[])∧w'=w.setCell ⟨b,0,none⟩ (.pointer (some ⟨b,0,none⟩)):=by
 obtain⟨j,hj,hjs⟩:=Option.map_eq_some_iff.1 (show(Tryz.prog.info? 142).map (·.size)=some 2 by kernel_rfl)
 go_enter Tryz.func228,Tryz.ntmps228
 go_wp2
 rw[Lib.run_to_unsafe w ⟨b,0,none⟩ Tryz.underlying139 Tryz.underlying298 hj (by rw[hjs];decide) hsh (Nat.zero_lt_succ 2)]
 simp only[Result.andThen]
 rw[Oper.upon_value]
 go_wp2
 rw[run_callFunc_extern Tryz.func258 (by kernel_rfl) (by kernel_rfl) (by kernel_rfl) (e:=Extern.AbiNoEscape.same) (by kernel_rfl)]
 rw[Lib.run_noEscape]
 simp only[Result.andThen]
 rw[Oper.upon_value]
 go_wp2
 rw[Lib.run_from_unsafe w ⟨b,0,none⟩ Tryz.underlying298 Tryz.underlying139 hj hsh (by kernel_rfl)]
 simp only[Result.andThen]
 rw[Oper.upon_value]
 go_wp2
 go_end0
 exact⟨rfl,rfl⟩
theorem ccp_any (B b:Nat) (op:Int) (zs:List Int) (w:World) (h:PrF B b op zs w):
  Calls Tryz.prog 228 #[.pointer (some ⟨b,0,none⟩)] w fun e w'=>e= .returned (.tuple #[])∧KF B b w w'∧B≤b∧
   ∃v,w'.heap[b]?=some (.cells #[.pointer (some ⟨b,0,none⟩),v, .int .i64 op] 144 (0,0))∧w'.ownsRowF B 5 1 v zs.length (u8s zs)∧v.ownBlock≠some b:=by
 obtain⟨hB,p,v,hp,hb,ho,hn⟩:=h
 rcases hp with rfl|rfl
 ·refine(ccp_new b w (by rw[Lib.cell_of_heap hb];rfl) (by simp[World.shape?,hb]) (Lib.frozen_of_heap hb 0)).mono ?_
  rintro e w' ⟨rfl,rfl⟩
  exact⟨rfl,(KF.refl B b w).put hB _ _,hB,v,by simp[World.setCell,Array.getElem?_modify,hb],own_put ho hn _ _,hn⟩
 ·refine(cc_used b w (by rw[Lib.cell_of_heap hb];rfl)).mono ?_
  rintro e w' ⟨rfl,rfl⟩
  exact⟨rfl,KF.refl _ _ _,hB,v,hb,ho,hn⟩
theorem wbytep_any (B b:Nat) (op:Int) (zs:List Int) (c:Int) (w:World) (h:PrF B b op zs w) (hlen:zs.length+1≤140737488355328) (hBw:B≤w.heap.size):
  Calls Tryz.prog 204 #[.pointer (some ⟨b,0,none⟩), .int .u8 c] w fun e w'=>e= .returned .nilIface∧PrF B b op (zs++ [c]) w'∧KF B b w w':=by
 obtain⟨i0,hi,hz0,hz1,hz2⟩:=u8_info
 go_enter Tryz.func204,Tryz.ntmps204
 go_wp2_with (go_at_call 228;refine(ccp_any B b op zs _ h).mono ?_)
 rintro e w1 ⟨rfl,hk1,hB,v,hbk,hown,hne⟩
 have c0:w1.cell? ⟨b,0,none⟩=some (.pointer (some ⟨b,0,none⟩)):=by rw[Lib.cell_of_heap hbk];rfl
 have c1:w1.cell? ⟨b,1,none⟩=some v:=by rw[Lib.cell_of_heap hbk];rfl
 have hs1:=hk1.1.size
 go_wp2_with (at_builtin;refine wpList_append_ownF _ rfl _ _ 140 rfl B 5 i0 (.int .u8 0) 1 1 Tryz.underlying140 hi hz0 hz1 hz2 rfl (by decide) _ _ _ rfl (hown.alloc _) ⟨w1.heap.size,0,none⟩ 1 1 [.int .u8 c] rfl rfl ?c1 ?c2 ?c3 ?c4 ?c5 ?_)
 case c1=>
  intro j u hj
  match j,hj with
  |0,hj=>simp at hj;subst hj;simp[Addr.add]
 case c2=>intro u hu;simp at hu;subst hu;rfl
 case c3=>unfold maxLen;omega
 case c4=>omega
 case c5=>simp;omega
 intro v' w2 hown' hgrow _
 have hlt:b<w1.heap.size:=(Array.getElem?_eq_some_iff.1 hbk).1
 have hb2:w2.heap[b]?=some (.cells #[.pointer (some ⟨b,0,none⟩),v, .int .i64 op] 144 (0,0)):=by
  rw[hgrow.block b (by simp;omega) (fun e=>hne e.symm),Lib.alloc_old w1 _ b hlt]
  exact hbk
 have d0:w2.cell? ⟨b,0,none⟩=some (.pointer (some ⟨b,0,none⟩)):=by rw[Lib.cell_of_heap hb2];rfl
 have d1:w2.cell? ⟨b,1,none⟩=some v:=by rw[Lib.cell_of_heap hb2];rfl
 have f1:w2.frozen? ⟨b,1,none⟩=false:=Lib.frozen_of_heap hb2 1
 have HO:=Lh hown'
 obtain⟨g,cap,rfl⟩: ∃g cap,v'= .slice (some ⟨g,0,none⟩) (zs.length+1) cap:=by
  rcases hown'.2 with⟨_,h0⟩|⟨g,cap,cur,fz,hv,_⟩
  ·omega
  ·exact⟨g,cap,hv⟩
 have hne2:=Lib.ownBlock_neF hown' hb2 (by decide)
 clear hown'
 go_wp2
 go_ret
 refine⟨rfl,⟨hB,_,_,Or.inr rfl,?_,?_,hne2⟩,?_,?_⟩
 ·simp[World.setCell,Array.getElem?_modify,hb2]
 ·have:=HO.out
  rw[Kq,u8s_append]
  exact own_put this hne2 _ _
 ·exact((hk1.1.alloc (by omega) _).grown hgrow (by simp;omega) (fun k hk=>(hown.lt k hk).1)).setCell (p:=⟨b,1,none⟩) hB _
 ·exact((hk1.2.alloc _).grown hgrow (Lib.ownsRowF_kind (hown.alloc _))).setCell ⟨b,1,none⟩ rfl _
theorem wstrp_any (B b:Nat) (op:Int) (zs ys:List Int) (hy: ∀z∈ys,0≤z∧z≤255) (w:World) (h:PrF B b op zs w) (hlen:zs.length+ys.length≤140737488355328) (hBw:B≤w.heap.size):
  Calls Tryz.prog 202 #[.pointer (some ⟨b,0,none⟩), .string (strOfNums ys)] w fun e w'=>e= .returned (.tuple #[.int .i64 ys.length, .nilIface])∧PrF B b op (zs++ys) w'∧KF B b w w':=by
 obtain⟨i0,hi,hz0,hz1,hz2⟩:=u8_info
 have hcells:=u8s_str hy
 have hsz:=str_size ys
 generalize strOfNums ys=s at hcells hsz ⊢
 have HS:=Lh hsz
 have HC:=Lh hcells
 clear hcells hsz
 go_enter Tryz.func202,Tryz.ntmps202
 go_wp2_with (go_at_call 228;refine(ccp_any B b op zs _ h).mono ?_)
 rintro e w1 ⟨rfl,hk1,hB,v,hbk,hown,hne⟩
 have c0:w1.cell? ⟨b,0,none⟩=some (.pointer (some ⟨b,0,none⟩)):=by rw[Lib.cell_of_heap hbk];rfl
 have c1:w1.cell? ⟨b,1,none⟩=some v:=by rw[Lib.cell_of_heap hbk];rfl
 have hs1:=hk1.1.size
 go_wp2_with (at_builtin;refine Lib.wpList_append_own_stringF _ rfl _ _ 140 9 rfl B 5 i0 Tryz.underlying140 Tryz.underlying9 hi hz0 hz1 hz2 _ _ _ rfl hown s rfl ?c3 ?c4 ?c5 ?_)
 case c3=>rw[HS.out];unfold maxLen;omega
 case c4=>rw[HS.out];omega
 case c5=>omega
 intro v' w2 hown' hgrow _
 have hlt:b<w1.heap.size:=(Array.getElem?_eq_some_iff.1 hbk).1
 have hb2:w2.heap[b]?=some (.cells #[.pointer (some ⟨b,0,none⟩),v, .int .i64 op] 144 (0,0)):=by
  rw[hgrow.block b hlt (fun e=>hne e.symm)]
  exact hbk
 have d0:w2.cell? ⟨b,0,none⟩=some (.pointer (some ⟨b,0,none⟩)):=by rw[Lib.cell_of_heap hb2];rfl
 have d1:w2.cell? ⟨b,1,none⟩=some v:=by rw[Lib.cell_of_heap hb2];rfl
 have f1:w2.frozen? ⟨b,1,none⟩=false:=Lib.frozen_of_heap hb2 1
 have H':=Lh hown'
 have hne2:=Lib.ownBlock_neF hown' hb2 (by decide)
 obtain⟨ao,n',cap,rfl⟩: ∃ao n' cap,v'= .slice ao n' cap:=by
  rcases hown'.2 with⟨hv,_⟩|⟨g,cap,cur,fz,hv,_⟩
  ·exact⟨_,_,_,hv⟩
  ·exact⟨_,_,_,hv⟩
 clear hown'
 go_wp2
 go_ret2
 refine⟨?_,⟨hB,_,_,Or.inr rfl,?_,?_,hne2⟩,?_,(hk1.2.grown hgrow (Lib.ownsRowF_kind hown)).setCell ⟨b,1,none⟩ rfl _⟩
 ·rw[HS.out];rfl
 ·simp[World.setCell,Array.getElem?_modify,hb2]
 ·have:=H'.out
  rw[HS.out,HC.out]at this
  rw[Kq,u8s_append]
  exact own_put this hne2 _ _
 ·exact(hk1.1.grown hgrow (by omega) (fun k hk=>(hown.lt k hk).1)).setCell (p:=⟨b,1,none⟩) hB _
end
section
open Go.RowKit
theorem ind_any (x:Int) (d:Nat) (w:World) (hx:x=((d-1:Nat):Int)) (hd:d≤4):
  Calls Tryz.prog 203 #[.string ⟨#[32,32]⟩, .int .i64 x] w fun e w'=>e= .returned (.string (strOfNums (indP d)))∧Below w.heap.size w w':=by
 subst hx
 refine(Tryz.strings_Repeat ⟨#[32,32]⟩ (d-1) w (by omega) (by show 2*(d-1)≤_;omega)).mono ?_
 rintro e w' ⟨rfl,g⟩
 refine⟨?_,g⟩
 have:d=0∨d=1∨d=2∨d=3∨d=4:=by omega
 rcases this with rfl|rfl|rfl|rfl|rfl<;>rfl
def PartsIs (w:World) (v:Value) (ps:List (List Int)):Prop:=
 ∃a cap,v= .slice a ps.length cap∧ps.length≤cap∧∀i,i<ps.length→∃pb off c fz,a=some ⟨pb,off,none⟩∧w.heap[pb]?=some (.cells c 9 fz)∧w.cell? ⟨pb,off+i,none⟩=some (.string (strOfNums (ps.getD i [])))
theorem PartsIs.size {w:World} {v:Value} {ps:List (List Int)} (h:PartsIs w v ps): ∃a cap,v= .slice a ps.length cap:=by
 obtain⟨a,cap,e,_⟩:=h;exact⟨a,cap,e⟩
theorem PartsIs.keep {w w':World} {v:Value} {ps:List (List Int)} (h:PartsIs w v ps) (hs: ∀(k:Nat) (c:Array Value) (fz:Nat×Nat),w.heap[k]?=some (Obj.cells c 9 fz)→w'.heap[k]?=w.heap[k]?):PartsIs w' v ps:=by
 obtain⟨a,cap,rfl,hc,hcell⟩:=h
 refine⟨a,cap,rfl,hc,fun i hi=>?_⟩
 obtain⟨pb,off,c,fz,rfl,h1,h2⟩:=hcell i hi
 have e:=hs pb c fz h1
 exact⟨pb,off,c,fz,rfl,e.trans h1,(World.cell?_of_block (a:=⟨pb,off+i,none⟩) e).trans h2⟩
theorem PartsIs.kf {B b:Nat} {w w':World} {v:Value} {ps:List (List Int)} (h:PartsIs w v ps) (hk:KF B b w w') (hb: ∀(c:Array Value) (fz:Nat×Nat),w.heap[b]?≠some (Obj.cells c 9 fz)):PartsIs w' v ps:=
 h.keep (fun k c fz e=>by
  rw[e]
  exact hk.2 k _ e (fun x=>by cases x;exact hb c fz e) (fun c' fz' x=>by cases x))
theorem PrF.nostr {B b:Nat} {op:Int} {zs:List Int} {w:World} (h:PrF B b op zs w): ∀(c:Array Value) (fz:Nat×Nat),w.heap[b]?≠some (Obj.cells c 9 fz):=fun c fz e=>by
 obtain⟨_,p,v,_,hb,_⟩:=h
 rw[hb]at e
 cases e
theorem KF.of {B b:Nat} {w w':World} (h:Below w.heap.size w w') (hB:B≤w.heap.size):KF B b w w':=⟨h.mono hB,fun k _ hk _ _=>(h.block k (Array.getElem?_eq_some_iff.1 hk).1).trans hk⟩
theorem flat_take {ps:List (List Int)} {i:Nat} (h:i<ps.length):(ps.take (i+1)).flatten=(ps.take i).flatten++ps.getD i []:=by
 rw[List.take_add_one,Mk,Kh h,List.flatten_append]
 simp
theorem flat_take_len (ps:List (List Int)) (i:Nat):(ps.take i).flatten.length≤ps.flatten.length:=by
 have e:ps.flatten=(ps.take i).flatten++(ps.drop i).flatten:=by rw[←List.flatten_append,List.take_append_drop]
 rw[e,Kq];omega
theorem ind_bytes (d:Nat): ∀z∈indP d,0≤z∧z≤255:=fun z hz=>by
 have:=List.eq_of_mem_replicate hz;omega
theorem ind_len (d:Nat):(indP d).length=2*(d-1):=by unfold indP;simp
theorem lline_any (B b:Nat) (op:Int) (zs:List Int) (d:Nat) (v:Value) (ps:List (List Int)) (w:World) (h:PrF B b op zs w) (hp:PartsIs w v ps) (hd1:1≤d) (hd4:d≤4) (hby: ∀p∈ps,∀z∈p,0≤z∧z≤255) (hlen:zs.length+ps.flatten.length≤100000000000) (hps:ps.length≤1000000) (hBw:B≤w.heap.size):
  Calls Tryz.prog 155 #[.pointer (some ⟨b,0,none⟩), .int .i64 (d:Int),v] w fun e w'=>e= .returned (.tuple #[])∧PrF B b op (zs++(indP d++(ps.flatten++ [10]))) w'∧KF B b w w':=by
 obtain⟨a,cap,rfl⟩:=hp.size
 obtain⟨n,hn⟩: ∃n,ps.length=n:=⟨_,rfl⟩
 obtain⟨d1,hd⟩: ∃x,d-1=x:=⟨_,rfl⟩
 have hw1:IntKind.i64.wrap ((d:Int)-1)=(d1:Int):=by rw[IntKind.wrap_i64];omega
 have hI:=ind_any (d1:Int) d
 obtain⟨I,hI2⟩: ∃I,strOfNums (indP d)=I:=⟨_,rfl⟩
 rw[hI2]at hI
 have HI:=Lh (fun W=>hI W (by rw[hd]) hd4)
 have HI2:=Lh hI2
 have HN:=Lh hn
 have HH:=Lh h
 have HP:=Lh hp
 have HBY:=Lh hby
 have HLEN:=Lh hlen
 have hil:(indP d).length≤6:=by rw[ind_len];omega
 have HIL:=Lh hil
 have HWI:Hid (∀W,Below w.heap.size w W→Calls Tryz.prog 202 #[.pointer (some ⟨b,0,none⟩), .string I] W fun e w'=>e= .returned (.tuple #[.int .i64 (indP d).length, .nilIface])∧PrF B b op (zs++indP d) w'∧KF B b W w'):=Lh (fun W hb=>by
  have:=wstrp_any B b op zs (indP d) (ind_bytes d) W (h.below hb) (by omega) (by have:=hb.size;omega)
  rw[hI2]at this
  exact this)
 rw[hn]at hps ⊢
 clear h hp hby hlen hn hI hI2 hd
 go_enter Tryz.func155,Tryz.ntmps155
 go_wp2
 refine wp_region_mix 6 (TLst [.pointer (some ⟨b,0,none⟩), .pointer (some ⟨b,0,none⟩), .pointer (some ⟨b,0,none⟩), .int .i64 (d:Int), .int .i64 (d1:Int), .string I]) (fun _=>false) (by kernel_rfl) (by kernel_rfl) (fun _ _ _ _ h _=>h) (fun _ _ _ h=>by cases h) ?_ ?_
 ·simp only[Kj,Jh]
  refine(StepsAll.cons ?_ (StepsAll.cons ?_ (StepsAll.cons ?_ (StepsAll.cons ?_ (StepsAll.cons ?_ (StepsAll.cons ?_ StepsAll.nil))))))
  ·intro u W hb hd
   simp only[putAll,Mq,Lq,Lk,Lj,Ly,Lx]
   go_wp2
   first|exact⟨rfl,Mj _ _⟩|exact⟨_,rfl,rfl,Mj _ _,fun h=>by simp at h⟩|exact⟨_,rfl,rfl,Mj _ _⟩|exact⟨rfl,Mj _ _,fun h=>by simp at h⟩
  ·intro u W hb hd
   have e0:u 0= .pointer (some ⟨b,0,none⟩):=hd.1 rfl (by decide)
   simp only[putAll,Mq,Lq,Lk,Lj,Ly,Lx]
   rw[e0]
   go_wp2
   first|exact⟨rfl,Mj _ _⟩|exact⟨_,rfl,rfl,Mj _ _,fun h=>by simp at h⟩|exact⟨_,rfl,rfl,Mj _ _⟩|exact⟨rfl,Mj _ _,fun h=>by simp at h⟩
  ·intro u W hb hd
   have e0:u 1= .pointer (some ⟨b,0,none⟩):=hd.1 rfl (by decide)
   simp only[putAll,Mq,Lq,Lk,Lj,Ly,Lx]
   rw[e0]
   go_wp2
   first|exact⟨rfl,Mj _ _⟩|exact⟨_,rfl,rfl,Mj _ _,fun h=>by simp at h⟩|exact⟨_,rfl,rfl,Mj _ _⟩|exact⟨rfl,Mj _ _,fun h=>by simp at h⟩
  ·intro u W hb hd
   simp only[putAll,Mq,Lq,Lk,Lj,Ly,Lx]
   go_wp2
   first|exact⟨rfl,Mj _ _⟩|exact⟨_,rfl,rfl,Mj _ _,fun h=>by simp at h⟩|exact⟨_,rfl,rfl,Mj _ _⟩|exact⟨rfl,Mj _ _,fun h=>by simp at h⟩
  ·intro u W hb hd
   have e0:u 3= .int .i64 (d:Int):=hd.1 rfl (by decide)
   simp only[putAll,Mq,Lq,Lk,Lj,Ly,Lx]
   rw[e0]
   go_wp2
   first|exact⟨rfl,Mj _ _⟩|exact⟨_,rfl,rfl,Mj _ _,fun h=>by simp at h⟩|exact⟨_,rfl,rfl,Mj _ _⟩|exact⟨rfl,Mj _ _,fun h=>by simp at h⟩
  ·intro u W hb hd
   have e0:u 4= .int .i64 (d1:Int):=hd.1 rfl (by decide)
   simp only[putAll,Mq,Lq,Lk,Lj,Ly,Lx]
   rw[e0]
   go_wp2_with (go_at_call 203;(with_reducible refine(HI.out _).mono ?_);rintro e w5 ⟨rfl,g5⟩)
   first|exact⟨rfl,g5⟩|exact⟨_,rfl,g5⟩|exact⟨_,rfl,rfl,g5⟩|exact⟨_,rfl,rfl,g5,fun h=>by simp at h⟩
 ·intro u W hb hT _
  have e0:u 0= .pointer (some ⟨b,0,none⟩):=hT 0 (by decide)
  have e1:u 1= .pointer (some ⟨b,0,none⟩):=hT 1 (by decide)
  have e2:u 2= .pointer (some ⟨b,0,none⟩):=hT 2 (by decide)
  have e3:u 3= .int .i64 (d:Int):=hT 3 (by decide)
  have e4:u 4= .int .i64 (d1:Int):=hT 4 (by decide)
  have e5:u 5= .string I:=hT 5 (by decide)
  have HBW:=Lh hb
  clear hb hT
  simp only[Kj,Jh,List.drop_succ_cons,List.drop_zero,putAll,Mq,Lq,Lk,Lj,Ly,Lx]
  rw[e0,e1,e2,e3,e4,e5]
  clear e0 e1 e2 e3 e4 e5
  go_wp2_with (go_at_call 202;(with_reducible refine(HWI.out _ HBW.out).mono ?_);rintro e w6 ⟨rfl,p6,k6⟩;have P6:=Lh p6;have K6:=Lh ((KF.of (b:=b) HBW.out hBw).trans k6);clear p6 k6)
  go_loopw [17] (fun v17 wr=> ∃i:Nat,i≤n∧v17= .int .i64 (i:Int)∧PrF B b op (zs++indP d++(ps.take i).flatten) wr∧KF B b w wr) (fun v17 _=>n-(intOf v17).toNat)
  case atStart=>exact⟨0,Nat.zero_le _,rfl,by simpa using P6.out,K6.out⟩
  case round=>
   obtain⟨i,hi,rfl,hpr,hkr⟩:=hrel
   have HKR:=Lh hkr
   have HPR:=Lh hpr
   by_cases hin:i<n
   ·have hpp:=HP.out.kf hkr HH.out.nostr
    obtain⟨a',cap',he,hc,hcell⟩:=hpp
    injection he with e1 e2 e3
    subst e1
    obtain⟨pb,off,c,fz,rfl,h1,h2⟩:=hcell i (by rw[HN.out];exact hin)
    have hmem:ps.getD i []∈ps:=by
     rw[Mk,Kh (by rw[HN.out];exact hin)]
     exact List.getElem_mem _
    have hfl:=flat_take (ps:=ps) (i:=i) (by rw[HN.out];exact hin)
    have hfl2:=flat_take_len ps (i+1)
    rw[hfl,Kq]at hfl2
    have hlen:=HLEN.out
    have hil:=HIL.out
    have HWS:=Lh (wstrp_any B b op (zs++indP d++(ps.take i).flatten) (ps.getD i []) (HBY.out _ hmem) wr hpr (by simp only[Kq];omega) (by have:=hkr.1.size;omega))
    have HFL:=Lh hfl
    obtain⟨X,hX⟩: ∃X,strOfNums (ps.getD i [])=X:=⟨_,rfl⟩
    rw[hX]at h2 HWS
    have hi1:IntKind.i64.wrap ((i:Int)+1)=((i+1:Nat):Int):=by rw[IntKind.wrap_i64];omega
    clear hcell hpr hkr hmem hfl hfl2 hlen hil hX h1 e3
    go_wp2_with (go_at_call 202;(with_reducible refine(HWS.out).mono ?_);rintro e w7 ⟨rfl,p7,k7⟩;have P7:=Lh p7;have K7:=Lh (HKR.out.trans k7);clear p7 k7)
    go_roundw
    case rel=>exact⟨i+1,by omega,by go_num,by rw[HFL.out,←List.append_assoc];exact P7.out,K7.out⟩
    case measure=>simp[intOf];omega
   ·have en:n=i:=by omega
    subst en
    have hfl:(ps.take n).flatten=ps.flatten:=by rw[←HN.out,List.take_length]
    rw[hfl]at hpr
    have hlen:=HLEN.out
    have hil:=HIL.out
    have HWB:=Lh (wbytep_any B b op (zs++indP d++ps.flatten) 10 wr hpr (by simp only[Kq];omega) (by have:=hkr.1.size;omega))
    clear hpr hkr hfl hlen hil
    go_wp2_with (go_at_call 204;(with_reducible refine(HWB.out).mono ?_);rintro e w7 ⟨rfl,p7,k7⟩;have P7:=Lh p7;have K7:=Lh (HKR.out.trans k7);clear p7 k7)
    go_end0
    exact⟨rfl,by have:=P7.out;simpa using this,K7.out⟩
end
section
open Go.RowKit
def shutP:Nat→Nat→List Int
 |0,_=> []
 |o+1,d=>if d≤o+1 then indP (o+1)++([125,10]++shutP o d)else []
theorem shutP_no {o d:Nat} (h:o<d):shutP o d= []:=by
 cases o with
 |zero=>rfl
 |succ o=>rw[shutP,if_neg (by omega)]
theorem shutP_yes {o d:Nat} (h1:1≤o) (h:d≤o):shutP o d=indP o++([125,10]++shutP (o-1) d):=by
 obtain⟨n,rfl⟩: ∃n,o=n+1:=⟨o-1,by omega⟩
 rw[shutP,if_pos h];rfl
theorem shutP_len: ∀(o d:Nat),o≤4→(shutP o d).length≤10*o
 |0,d,_=>by simp[shutP]
 |o+1,d,h=>by
  rw[shutP]
  split
  ·have:=shutP_len o d (by omega)
   simp only[Kq,ind_len,Jq,List.length_nil]
   omega
  ·simp
def openOf (b:Nat) (w:World):Nat:=match w.cell? ⟨b,2,none⟩with
 |some (.int _ x)=>x.toNat
 |_=>0
theorem PrF.openOf {B b:Nat} {o:Nat} {zs:List Int} {w:World} (h:PrF B b (o:Int) zs w):openOf b w=o:=by
 unfold Proofs.YtiapmjkaappcfaaGreatDoor.openOf
 rw[h.open_.1]
 simp
theorem lit_parts (w:World) (s:List Int) (S:ByteArray) (hS:strOfNums s=S):PartsIs (w.alloc (.cells #[.string S] 9)) (.slice (some ⟨w.heap.size,0,none⟩) 1 1) [s]:=by
 subst hS
 refine⟨_,1,rfl,Mz _,fun i hi=>?_⟩
 obtain rfl:i=0:=by simp at hi;omega
 exact⟨w.heap.size,0,_,_,rfl,heap_alloc_new w _,by simp⟩
theorem lshut_any (B b:Nat) (o0:Nat) (zs:List Int) (d:Nat) (w:World) (h:PrF B b (o0:Int) zs w) (hd1:1≤d) (ho:o0≤4) (hlen:zs.length≤10000000000) (hBw:B≤w.heap.size):
  Calls Tryz.prog 94 #[.pointer (some ⟨b,0,none⟩), .int .i64 (d:Int)] w fun e w'=>e= .returned (.tuple #[])∧PrF B b ((min o0 (d-1):Nat):Int) (zs++shutP o0 d) w'∧KF B b w w':=by
 have HH:=Lh h
 have HLEN:=Lh hlen
 have HB:=Lh hBw
 clear h hlen hBw
 go_enter Tryz.func94,Tryz.ntmps94
 go_wp2
 go_loopw [4] (fun _ wr=> ∃(o:Nat) (X:List Int),o≤o0∧(o=o0∨d≤o+1)∧PrF B b (o:Int) (zs++X) wr∧KF B b w wr∧X++shutP o d=shutP o0 d) (fun _ wr=>openOf b wr)
 case atStart=>exact⟨o0,[],Mz _,Or.inl rfl,by rw[List.append_nil];exact HH.out,KF.refl _ _ _,rfl⟩
 case round=>
  obtain⟨o,X,ho1,ho2,hpr,hkr,hX⟩:=hrel
  have HPR:=Lh hpr
  have HKR:=Lh hkr
  have HX:=Lh hX
  obtain⟨c2,q2⟩:=hpr.open_
  have z2:=q2 2
  by_cases hdo:d≤o
  ·have hdo':(d:Int)≤(o:Int):=by omega
   have hXl:X.length≤40:=by
    have h1:=congrArg List.length hX
    have h2:=shutP_len o0 d ho
    rw[Kq]at h1
    omega
   have hlen:=HLEN.out
   have hB:=HB.out
   obtain⟨W1,hW1⟩: ∃W1,wr.alloc (.cells #[.string ⟨#[125]⟩] 9)=W1:=⟨_,rfl⟩
   have g1:Below wr.heap.size wr W1:=by rw[←hW1];exact(Mj _ _).alloc (Mz _) _
   have hL:=lline_any B b (o:Int) (zs++X) o (.slice (some ⟨wr.heap.size,0,none⟩) 1 1) [[125]] W1 (hpr.below g1) (by rw[←hW1];exact lit_parts wr [125] _ rfl) (by omega) (by omega) (by intro p hp z hz;rw[List.mem_singleton.mp hp]at hz;rw[List.mem_singleton.mp hz];omega)
    (by simp only[Kq,List.flatten_cons,List.flatten_nil,Jq,List.length_nil];omega) (by decide) (by have:=hkr.1.size;have:=g1.size;omega)
   have HL:=Lh hL
   have HK1:=Lh (KF.of (B:=B) (b:=b) g1 (by have:=hkr.1.size;omega))
   have hw:IntKind.i64.wrap ((o:Int)-1)=((o-1:Nat):Int):=by rw[IntKind.wrap_i64];omega
   have e1:(W1.cell? ⟨b,2,none⟩)=some (.int .i64 (o:Int)):=(hpr.below g1).open_.1
   clear hL g1 hpr hkr hX hXl hlen hB q2
   go_wp2_with (go_at_call 155;(with_reducible refine(HL.out).mono ?_);rintro e w2 ⟨rfl,p2,k2⟩;have P2:=Lh p2;have K2:=Lh ((HKR.out.trans HK1.out).trans k2);have x2:=p2.open_.1;have y2:=p2.open_.2 2;clear p2 k2)
   have hB:=P2.out.hB
   go_roundw
   case rel=>exact⟨o-1,X++(indP o++ [125,10]),by omega,by omega,by have:=P2.out.put2 ((o-1:Nat):Int);simpa using this,K2.out.put hB _ _,by rw[←HX.out,shutP_yes (o:=o) (by omega) hdo];simp⟩
   case measure=>
    have h1:=HPR.out.openOf
    have h2:=(P2.out.put2 ((o-1:Nat):Int)).openOf
    rw[h1,h2]
    omega
  ·have hdo': ¬(d:Int)≤(o:Int):=by omega
   have hom:min o0 (d-1)=o:=by omega
   have HOM:=Lh hom
   have hXX:X=shutP o0 d:=by
    have:=HX.out
    rw[shutP_no (by omega),List.append_nil]at this
    exact this
   subst hXX
   clear hpr hkr hX q2 hom
   go_wp2
   go_end0
   exact⟨rfl,by rw[HOM.out];exact HPR.out,HKR.out⟩
end
end Go.Proofs.YtiapmjkaappcfaaGreatDoor
