/-
  A slice's length; what is above the last one: plain.
-/
import Derived.Test.YtgmfkbamfnkbgaaDoorPkChangeWindows09
import Derived.Test.YtgmfkbamfnkbgaaDoorPkChangeWindows08
import Derived.Test.YtgmfkbamfnkbgaaDoorPkChangeWindows10
set_option maxRecDepth 100000
set_option maxHeartbeats 8000000
namespace Go.Proofs.YtgmfkbamfnkbgaaDoor
open Lib renaming hid→Lh
open List renaming setIfInBounds_toArray→Lq,set_cons_zero→Lj,set_cons_succ→Lk,getD_eq_getElem?_getD→Mk,getElem?_eq_getElem→Kh,take_succ_cons→Kj,length_map→Ky,take_zero→Jh,drop_succ_cons→Jj,drop_zero→Jk
open Nat renaming reduceAdd→Lx,zero_add→Ly
open Go.RowKit.Below renaming refl→Mj
section
open Go.RowKit
theorem allN_iff {α:Type} {Q:α→Prop} {nm:α→ByteArray} {l:List α} {n:Nat} :AllN (fun i=> ∀x,l[i]?=some x→Q x) (l.map nm) n↔AllU Q nm l n:=by
 constructor
 ·intro h j x hj hx
  obtain⟨h1,h2⟩:=h j (nm x) hj (by rw[List.getElem?_map,hx];rfl)
  exact⟨h1 x hx,fun k y hk hy=>h2 k (nm y) hk (by rw[List.getElem?_map,hy];rfl)⟩
 ·intro h j y hj hy
  rw[List.getElem?_map,Option.map_eq_some_iff]at hy
  obtain⟨x,hx,rfl⟩:=hy
  refine⟨fun x' hx'=>(h j x' hj hx').1,fun k z hk hz=>?_⟩
  rw[List.getElem?_map,Option.map_eq_some_iff]at hz
  obtain⟨y,hy,rfl⟩:=hz
  exact(h j x hj hx).2 k y hk hy
theorem named_map {α:Type} {Q:ByteArray→List Value→Prop} {f:α→List Value} {nm:α→ByteArray} (l:List α) (h: ∀x,Q (nm x) (f x)):NamedK Q (l.map f) (l.map nm):=by
 refine⟨by rw[Ky,Ky],fun i u s hu hs=>?_⟩
 rw[List.getElem?_map,Option.map_eq_some_iff]at hu hs
 obtain⟨x,hx,rfl⟩:=hu
 obtain⟨y,hy,rfl⟩:=hs
 rw[hx]at hy
 injection hy with hy
 subst hy
 exact h x
theorem wrul_any (r:RlC) (g:Int) (w:World) (env:Env w) (hm:r.name.size≤4294967296):Calls Tryd.prog 51 #[.agg (rulV r).toArray, .int .i64 g] w (GivesQ (RuleOk g r) w):=by
 obtain⟨s,pg,lo,sh,fa,ho,ke⟩:=r
 simp only at hm
 obtain⟨gb,W1,hg,hW1,V1,b1,z1⟩:=boxL w [.string s, .bool pg, .int .i64 lo, .int .i64 sh, .int .u64 fa, .int .i64 ho, .int .i64 ke] 52
 obtain⟨q0,h0⟩:=shq_of (NameL (runesOf (nums s)))
 obtain⟨q1,h1⟩: ∃q,decide (1≤lo∧lo≤34560000)=q:=⟨_,rfl⟩
 obtain⟨q2,h2⟩: ∃q,decide (1≤g∧lo%g=0)=q:=⟨_,rfl⟩
 obtain⟨q3,h3⟩: ∃q,decide (1≤sh∧sh≤lo)=q:=⟨_,rfl⟩
 obtain⟨q4,h4⟩: ∃q,decide (1≤g∧sh%g=0)=q:=⟨_,rfl⟩
 obtain⟨q5,h5⟩: ∃q,decide (1≤fa∧fa≤1000000)=q:=⟨_,rfl⟩
 obtain⟨q6,h6⟩: ∃q,decide (0≤ho∧ho≤604800)=q:=⟨_,rfl⟩
 obtain⟨q7,h7⟩: ∃q,decide (0≤ke∧ke≤604800)=q:=⟨_,rfl⟩
 have HQ:Hid ((q0&&(q1&&(q2&&(q3&&(q4&&(q5&&(q6&&q7)))))))=true↔RuleOk g ⟨s,pg,lo,sh,fa,ho,ke⟩):=Lh (by
  rw[←h1,←h2,←h3,←h4,←h5,←h6,←h7]
  simp only[Bool.and_eq_true,decide_eq_true_eq,h0]
  exact⟨fun⟨a,⟨b1,b2⟩,⟨c1,c2⟩,⟨d1,d2⟩,⟨_,e2⟩,⟨f1,f2⟩,⟨g1,g2⟩,k1,k2⟩=>⟨a,b1,b2,c1,c2,d1,d2,e2,f1,f2,g1,g2,k1,k2⟩,fun h=>⟨h.nm,⟨h.l1,h.l2⟩,⟨h.g1,h.lg⟩,⟨h.s1,h.s2⟩,⟨h.g1,h.sg⟩,⟨h.f1,h.f2⟩,⟨h.h1,h.h2⟩,h.k1,h.k2⟩⟩)
 have HN:=Lh (GivesQ.is h0 (tname_any s W1 (env.step b1) hm))
 have H1:Hid (∀W,Calls Tryd.prog 54 #[.int .i64 lo, .int .i64 1, .int .i64 34560000] W fun e w'=>e= .returned (.bool q1)∧w'=W):=Lh (fun W=>by rw[←h1];exact betw_i64 _ _ _ W)
 have H2:Hid (q1=true→∀W,Calls Tryd.prog 55 #[.int .i64 lo, .int .i64 g] W fun e w'=>e= .returned (.bool q2)∧w'=W):=Lh (fun e W=>by rw[←h2];have:=of_decide_eq_true (h1.trans e);exact mult_any _ _ W (by omega))
 have H3:Hid (∀W,Calls Tryd.prog 54 #[.int .i64 sh, .int .i64 1, .int .i64 lo] W fun e w'=>e= .returned (.bool q3)∧w'=W):=Lh (fun W=>by rw[←h3];exact betw_i64 _ _ _ W)
 have H4:Hid (q1=true→q3=true→∀W,Calls Tryd.prog 55 #[.int .i64 sh, .int .i64 g] W fun e w'=>e= .returned (.bool q4)∧w'=W):=Lh (fun e e2 W=>by rw[←h4];have:=of_decide_eq_true (h1.trans e);have:=of_decide_eq_true (h3.trans e2);exact mult_any _ _ W (by omega))
 have H5:Hid (∀W,Calls Tryd.prog 77 #[.int .u64 fa, .int .u64 1, .int .u64 1000000] W fun e w'=>e= .returned (.bool q5)∧w'=W):=Lh (fun W=>by rw[←h5];exact betw_u64 _ _ _ W)
 have H6:Hid (∀W,Calls Tryd.prog 54 #[.int .i64 ho, .int .i64 0, .int .i64 604800] W fun e w'=>e= .returned (.bool q6)∧w'=W):=Lh (fun W=>by rw[←h6];exact betw_i64 _ _ _ W)
 have H7:Hid (∀W,Calls Tryd.prog 54 #[.int .i64 ke, .int .i64 0, .int .i64 604800] W fun e w'=>e= .returned (.bool q7)∧w'=W):=Lh (fun W=>by rw[←h7];exact betw_i64 _ _ _ W)
 have HB:=Lh b1
 have HV:=Lh V1
 have c0:=V1.c 0 rfl
 clear env hm b1 z1 V1 h0 h1 h2 h3 h4 h5 h6 h7
 show Calls Tryd.prog 51 #[.agg #[.string s, .bool pg, .int .i64 lo, .int .i64 sh, .int .u64 fa, .int .i64 ho, .int .i64 ke], .int .i64 g] w _
 rcases ch (q:=q0) (ch (q:=q1) (ch (q:=q2) (ch (q:=q3) (ch (q:=q4) (ch (q:=q5) (ch (q:=q6) (eqb q7)))))))with rfl|⟨rfl,rfl|⟨rfl,rfl|⟨rfl,rfl|⟨rfl,rfl|⟨rfl,rfl|⟨rfl,rfl|⟨rfl,rfl|rfl⟩⟩⟩⟩⟩⟩⟩
 all_goals
  go_enter Tryd.func51,Tryd.ntmps51
  go_wp2_with (first
  |(go_at_call 52;(with_reducible refine(HN.out).mono ?_);rintro e W2 ⟨rfl,h⟩;have DD:=Lh h;have d2:=(HV.out.after h).c 2 rfl;have d3:=(HV.out.after h).c 3 rfl;have d4:=(HV.out.after h).c 4 rfl;have d5:=(HV.out.after h).c 5 rfl;have d6:=(HV.out.after h).c 6 rfl;clear h)
  |(go_at_call 54;(with_reducible refine(H1.out _).mono ?_);rintro e w' ⟨rfl,rfl⟩)
  |(go_at_call 55;(with_reducible refine(H2.out (by trivial) _).mono ?_);rintro e w' ⟨rfl,rfl⟩)
  |(go_at_call 54;(with_reducible refine(H3.out _).mono ?_);rintro e w' ⟨rfl,rfl⟩)
  |(go_at_call 55;(with_reducible refine(H4.out (by trivial) (by trivial) _).mono ?_);rintro e w' ⟨rfl,rfl⟩)
  |(go_at_call 77;(with_reducible refine(H5.out _).mono ?_);rintro e w' ⟨rfl,rfl⟩)
  |(go_at_call 54;(with_reducible refine(H6.out _).mono ?_);rintro e w' ⟨rfl,rfl⟩)
  |(go_at_call 54;(with_reducible refine(H7.out _).mono ?_);rintro e w' ⟨rfl,rfl⟩))
  go_ret
  exact⟨_,rfl,by simpa using HQ.out,below_step HB.out DD.out⟩
theorem wrulc_any (r:RlC) (g:Int) (gb:Nat) (w:World) (env:Env w) (hm:r.name.size≤4294967296) (hg:w.cell? ⟨gb,2,none⟩=some (.int .i64 g)) (hgb:gb<w.heap.size):Calls Tryd.prog 50 #[.agg (rulV r).toArray, .pointer (some ⟨gb,0,none⟩)] w (GivesQ (RuleOk g r) w):=by
 obtain⟨q,hq⟩:=shq_of (RuleOk g r)
 have HQ:=Lh hq
 obtain⟨s,pg,lo,sh,fa,ho,ke⟩:=r
 obtain⟨rb,W1,hr,hW1,V1,b1,z1⟩:=boxL w [.string s, .bool pg, .int .i64 lo, .int .i64 sh, .int .u64 fa, .int .i64 ho, .int .i64 ke] 52
 have x2:=(b1.cell (p:=⟨gb,2,none⟩) hgb).trans hg
 have HR:=Lh (GivesQ.is hq (wrul_any ⟨s,pg,lo,sh,fa,ho,ke⟩ g W1 (env.step b1) hm))
 have HB:=Lh b1
 have c0:=V1.c 0 rfl;have c1:=V1.c 1 rfl;have c2:=V1.c 2 rfl;have c3:=V1.c 3 rfl;have c4:=V1.c 4 rfl;have c5:=V1.c 5 rfl;have c6:=V1.c 6 rfl
 simp only[rulV]at HR
 clear env hm hg b1 z1 V1 hq
 show Calls Tryd.prog 50 #[.agg #[.string s, .bool pg, .int .i64 lo, .int .i64 sh, .int .u64 fa, .int .i64 ho, .int .i64 ke], .pointer (some ⟨gb,0,none⟩)] w _
 go_enter Tryd.func50,Tryd.ntmps50
 go_wp2_with (go_at_call 51;(with_reducible refine(HR.out).mono ?_);rintro e W2 ⟨rfl,h⟩;have DD:=Lh h;clear h)
 go_ret
 exact⟨_,rfl,HQ.out,below_step HB.out DD.out⟩
def GolS (g:GlC):Prop:=g.name.size≤4294967296∧(∀l∈g.labels,l.1.size≤4294967296∧l.2.size≤4294967296)∧(∀r∈g.rules,r.name.size≤4294967296)∧g.labels.length≤1000000∧g.rules.length≤1000000
theorem wgol_any (g:GlC) (u:List Value) (w:World) (env:Env w) (hu:GolI w u g) (hs:GolS g):Calls Tryd.prog 33 #[.agg u.toArray] w (GivesQ (GoalOk g) w):=by
 obtain⟨lv,rv,rfl,hl,hr⟩:=hu
 obtain⟨s0,s1,s2,s3,s4⟩:=hs
 obtain⟨nm,tg,gr,la,ro,ca,L,R⟩:=g
 simp only at s0 s1 s2 s3 s4 hl hr
 obtain⟨la1,lc1,rfl,_⟩:=hl.size
 obtain⟨ra1,rc1,rfl,_⟩:=hr.size
 rw[Ky]at hl hr ⊢
 rw[Ky]
 obtain⟨n,hn⟩: ∃n,L.length=n:=⟨_,rfl⟩
 obtain⟨m,hmm⟩: ∃n,R.length=n:=⟨_,rfl⟩
 rw[hn]at hl s3 ⊢
 rw[hmm]at hr s4 ⊢
 obtain⟨gb,W1,hg,hW1,V1,b1,z1⟩:=boxL w [.string nm, .int .u32 tg, .int .i64 gr, .int .i64 la, .int .i64 ro, .int .i64 ca, .slice la1 n lc1, .slice ra1 m rc1] 44
 obtain⟨q0,h0⟩:=shq_of (NameL (runesOf (nums nm)))
 obtain⟨q8,h8⟩:=shq_of (AllU LabOk (·.1) L n)
 obtain⟨q10,h10⟩:=shq_of (AllU (RuleOk gr) (·.name) R m)
 obtain⟨q1,h1⟩: ∃q,decide (1≤tg∧tg≤999999)=q:=⟨_,rfl⟩
 obtain⟨q2,h2⟩: ∃q,decide (1≤gr∧gr≤86400)=q:=⟨_,rfl⟩
 obtain⟨q3,h3⟩: ∃q,decide (0≤la∧la≤86400)=q:=⟨_,rfl⟩
 obtain⟨q4,h4⟩: ∃q,decide (0≤ro∧ro≤34560000)=q:=⟨_,rfl⟩
 obtain⟨q5,h5⟩: ∃q,decide (1≤gr∧ro%gr=0)=q:=⟨_,rfl⟩
 obtain⟨q6,h6⟩: ∃q,decide (0≤ca∧ca≤2)=q:=⟨_,rfl⟩
 obtain⟨q7,h7⟩: ∃q,decide (0≤(n:Int)∧(n:Int)≤4)=q:=⟨_,rfl⟩
 obtain⟨q9,h9⟩: ∃q,decide (1≤(m:Int)∧(m:Int)≤4)=q:=⟨_,rfl⟩
 have HQ:Hid ((q0&&(q1&&(q2&&(q3&&(q4&&(q5&&(q6&&(q7&&(q8&&(q9&&q10))))))))))=true↔GoalOk ⟨nm,tg,gr,la,ro,ca,L,R⟩):=Lh (by
  rw[←h1,←h2,←h3,←h4,←h5,←h6,←h7,←h9]
  simp only[Bool.and_eq_true,decide_eq_true_eq,h0,h8,h10]
  subst hn hmm
  exact⟨fun⟨a,⟨b1,b2⟩,⟨c1,c2⟩,⟨d1,d2⟩,⟨e1,e2⟩,⟨_,f2⟩,⟨g1,g2⟩,⟨_,k2⟩,k3,⟨k4,k5⟩,k6⟩=>⟨a,b1,b2,c1,c2,d1,d2,e1,e2,f2,g1,g2,by simp only;omega,k3,by simp only;omega,by simp only;omega,k6⟩,
   fun h=>⟨h.nm,⟨h.t1,h.t2⟩,⟨h.g1,h.g2⟩,⟨h.l1,h.l2⟩,⟨h.r1,h.r2⟩,⟨h.g1,h.rg⟩,⟨h.c1,h.c2⟩,⟨by omega,by have:=h.n1;simp only at this;omega⟩,h.la,⟨by have:=h.m1;simp only at this;omega,by have:=h.m2;simp only at this;omega⟩,h.ru⟩⟩)
 have HN:=Lh (GivesQ.is h0 (tname_any nm W1 (env.step b1) s0))
 have H1:Hid (∀W,Calls Tryd.prog 53 #[.int .u32 tg, .int .u32 1, .int .u32 999999] W fun e w'=>e= .returned (.bool q1)∧w'=W):=Lh (fun W=>by rw[←h1];exact betw_u32 _ _ _ W)
 have H2:Hid (∀W,Calls Tryd.prog 54 #[.int .i64 gr, .int .i64 1, .int .i64 86400] W fun e w'=>e= .returned (.bool q2)∧w'=W):=Lh (fun W=>by rw[←h2];exact betw_i64 _ _ _ W)
 have H3:Hid (∀W,Calls Tryd.prog 54 #[.int .i64 la, .int .i64 0, .int .i64 86400] W fun e w'=>e= .returned (.bool q3)∧w'=W):=Lh (fun W=>by rw[←h3];exact betw_i64 _ _ _ W)
 have H4:Hid (∀W,Calls Tryd.prog 54 #[.int .i64 ro, .int .i64 0, .int .i64 34560000] W fun e w'=>e= .returned (.bool q4)∧w'=W):=Lh (fun W=>by rw[←h4];exact betw_i64 _ _ _ W)
 have H5:Hid (q4=true→∀W,Calls Tryd.prog 55 #[.int .i64 ro, .int .i64 gr] W fun e w'=>e= .returned (.bool q5)∧w'=W):=Lh (fun e W=>by rw[←h5];have:=of_decide_eq_true (h4.trans e);exact mult_any _ _ W (by omega))
 have H6:Hid (∀W,Calls Tryd.prog 31 #[.int .i64 ca, .int .i64 0, .int .i64 2] W fun e w'=>e= .returned (.bool q6)∧w'=W):=Lh (fun W=>by rw[←h6];exact betw_int _ _ _ W)
 have H7:Hid (∀W,Calls Tryd.prog 31 #[.int .i64 (n:Int), .int .i64 0, .int .i64 4] W fun e w'=>e= .returned (.bool q7)∧w'=W):=Lh (fun W=>by rw[←h7];exact betw_int _ _ _ W)
 have H9:Hid (∀W,Calls Tryd.prog 31 #[.int .i64 (m:Int), .int .i64 1, .int .i64 4] W fun e w'=>e= .returned (.bool q9)∧w'=W):=Lh (fun W=>by rw[←h9];exact betw_int _ _ _ W)
 have HLA:Hid (∀W,Below W1.heap.size W1 W→Calls Tryd.prog 56 #[.slice la1 n lc1, .func (.func 57) #[] #[], .func (.func 58) #[] #[]] W fun e w'=>e= .returned (.bool q8)∧Below W.heap.size W w'):=Lh (fun W b=>by
  refine GivesQ.is (h8.trans ?_) (label_all (fun i=> ∀x,L[i]?=some x→LabOk x) (L.map labV) (L.map (·.1)) _ W (hl.below (below_step b1 b)) (named_map L fun x=>⟨_,rfl⟩) (by rw[Ky];omega) (fun i u hu W' b'=>?_))
  ·rw[Ky,hn];exact allN_iff.symm
  ·rw[List.getElem?_map,Option.map_eq_some_iff]at hu
   obtain⟨x,hx,rfl⟩:=hu
   have hmem:=List.mem_of_getElem? hx
   refine(wlab_any x W' (env.step (below_step (below_step b1 b) b')) (s1 x hmem).1 (s1 x hmem).2).mono ?_
   rintro e w' ⟨q,e1,e2,e3⟩
   exact⟨q,e1,e2.trans ⟨fun h y hy=>by rw[hx]at hy;injection hy with hy;rw[←hy];exact h,fun h=>h x hx⟩,e3⟩)
 have HRU:Hid (∀W,Below W1.heap.size W1 W→Calls Tryd.prog 59 #[.slice ra1 m rc1, .func (.func 50) #[] #[.pointer (some ⟨gb,0,none⟩)], .func (.func 60) #[] #[]] W fun e w'=>e= .returned (.bool q10)∧Below W.heap.size W w'):=Lh (fun W b=>by
  refine GivesQ.is (h10.trans ?_) (rule_all gb (fun i=> ∀x,R[i]?=some x→RuleOk gr x) (R.map rulV) (R.map (·.name)) _ W (hr.below (below_step b1 b)) (named_map R fun x=>⟨_,_,_,_,_,_,rfl⟩) (by rw[Ky];omega) (fun i u hu W' b'=>?_))
  ·rw[Ky,hmm];exact allN_iff.symm
  ·rw[List.getElem?_map,Option.map_eq_some_iff]at hu
   obtain⟨x,hx,rfl⟩:=hu
   have hmem:=List.mem_of_getElem? hx
   have V2:=V1.after (below_step b b')
   refine(wrulc_any x gr gb W' (env.step (below_step (below_step b1 b) b')) (s2 x hmem) (V2.c 2 rfl) V2.s).mono ?_
   rintro e w' ⟨q,e1,e2,e3⟩
   exact⟨q,e1,e2.trans ⟨fun h y hy=>by rw[hx]at hy;injection hy with hy;rw[←hy];exact h,fun h=>h x hx⟩,e3⟩)
 have hmf: ∀(fn:Fn) (first cap:Array Value) (w:World),(Instr.makeFunc fn first cap).run Tryd.prog w= .ok (.func fn first cap) w:=fun _ _ _ _=>rfl
 have HB:=Lh b1
 have HV:=Lh V1
 have c0:=V1.c 0 rfl
 clear env s0 s1 s2 s3 s4 hl hr hn hmm b1 z1 V1 h0 h1 h2 h3 h4 h5 h6 h7 h8 h9 h10
 show Calls Tryd.prog 33 #[.agg #[.string nm, .int .u32 tg, .int .i64 gr, .int .i64 la, .int .i64 ro, .int .i64 ca, .slice la1 n lc1, .slice ra1 m rc1]] w _
 rcases ch (q:=q0) (ch (q:=q1) (ch (q:=q2) (ch (q:=q3) (ch (q:=q4) (ch (q:=q5) (ch (q:=q6) (ch (q:=q7) (ch (q:=q8) (ch (q:=q9) (eqb q10))))))))))with rfl|⟨rfl,rfl|⟨rfl,rfl|⟨rfl,rfl|⟨rfl,rfl|⟨rfl,rfl|⟨rfl,rfl|⟨rfl,rfl|⟨rfl,rfl|⟨rfl,rfl|⟨rfl,rfl|rfl⟩⟩⟩⟩⟩⟩⟩⟩⟩⟩
 all_goals
  go_enter Tryd.func33,Tryd.ntmps33
  go_wp2_with (first
  |(go_at_call 52;(with_reducible refine(HN.out).mono ?_);rintro e W2 ⟨rfl,h⟩;have DD:=Lh h;clear h;have d1:=(HV.out.after DD.out).c 1 rfl;have d2:=(HV.out.after DD.out).c 2 rfl;have d3:=(HV.out.after DD.out).c 3 rfl;have d4:=(HV.out.after DD.out).c 4 rfl;have d5:=(HV.out.after DD.out).c 5 rfl;have d6:=(HV.out.after DD.out).c 6 rfl;have d7:=(HV.out.after DD.out).c 7 rfl;skip)
  |(go_at_call 53;(with_reducible refine(H1.out _).mono ?_);rintro e w' ⟨rfl,rfl⟩)
  |(go_at_call 54;(with_reducible refine(H2.out _).mono ?_);rintro e w' ⟨rfl,rfl⟩)
  |(go_at_call 54;(with_reducible refine(H3.out _).mono ?_);rintro e w' ⟨rfl,rfl⟩)
  |(go_at_call 54;(with_reducible refine(H4.out _).mono ?_);rintro e w' ⟨rfl,rfl⟩)
  |(go_at_call 55;(with_reducible refine(H5.out (by trivial) _).mono ?_);rintro e w' ⟨rfl,rfl⟩)
  |(go_at_call 31;(with_reducible refine(H6.out _).mono ?_);rintro e w' ⟨rfl,rfl⟩)
  |(go_at_call 31;(with_reducible refine(H7.out _).mono ?_);rintro e w' ⟨rfl,rfl⟩)
  |(go_at_call 31;(with_reducible refine(H9.out _).mono ?_);rintro e w' ⟨rfl,rfl⟩)
  |(go_at_call 56;(with_reducible refine(HLA.out _ DD.out).mono ?_);rintro e W3 ⟨rfl,h⟩;have DE:=Lh (below_step DD.out h);clear h;have k7:=(HV.out.after DE.out).c 7 rfl;skip)
  |(go_at_call 59;(with_reducible refine(HRU.out _ DE.out).mono ?_);rintro e W4 ⟨rfl,h⟩;have DF:=Lh (below_step DE.out h);clear h))
  go_ret
  exact⟨_,rfl,by simpa using HQ.out,below_step HB.out (by first|exact DF.out|exact DE.out|exact DD.out)⟩
end
section
open Go.RowKit
theorem rsame_any (v1 v2:Value) (l1 l2:List Int) (w:World) (h1:NumsAt l1 v1 w) (h2:NumsAt l2 v2 w) (s1:l1.length≤1000000):
  Calls Tryd.prog 16 #[v1,v2] w fun e w'=>e= .returned (.bool (decide (l1=l2)))∧Below w.heap.size w w':=by
 obtain⟨b1,r1⟩:=h1
 obtain⟨b2,r2⟩:=h2
 obtain⟨a1,c1,rfl⟩:=r1.size
 obtain⟨a2,c2,rfl⟩:=r2.size
 obtain⟨n,hn⟩: ∃n,(l1.map numL).length=n:=⟨_,rfl⟩
 obtain⟨m,hm⟩: ∃n,(l2.map numL).length=n:=⟨_,rfl⟩
 rw[hn]at r1 ⊢
 rw[hm]at r2 ⊢
 rw[Ky]at hn hm
 by_cases hnm:n=m
 ·subst hnm
  have R1:=Lh r1
  have R2:=Lh r2
  have HL:=Lh (And.intro hn hm)
  have hs:n≤1000000:=by omega
  clear r1 r2 s1 hn hm
  go_enter Tryd.func16,Tryd.ntmps16
  go_wp2
  go_loopw [5] (fun v5 wr=> ∃i:Nat,i≤n∧v5= .int .i64 (i:Int)∧Below w.heap.size w wr∧Hid (∀j,j<i→l1.getD j 0=l2.getD j 0)) (fun v5 _=>n-(intOf v5).toNat)
  case atStart=>exact⟨0,Nat.zero_le _,rfl,Mj _ _,Lh (fun j hj=>by omega)⟩
  case round=>
   obtain⟨i,hi,rfl,hb,HJ⟩:=hrel
   have HB:=Lh hb
   by_cases hin:i<n
   ·obtain⟨g1,d1,e1,-⟩:=R1.out.form (by rw[Ky];have:=HL.out;omega)
    simp only[Value.slice.injEq]at e1
    obtain⟨rfl,-,-⟩:=e1
    obtain⟨g2,d2,e2,-⟩:=R2.out.form (by rw[Ky];have:=HL.out;omega)
    simp only[Value.slice.injEq]at e2
    obtain⟨rfl,-,-⟩:=e2
    have HX:Hid (∀W,Below wr.heap.size wr W→W.cell? ⟨g1,i,none⟩=some (.int .i64 (l1.getD i 0))∧W.cell? ⟨g2,i,none⟩=some (.int .i64 (l2.getD i 0))):=Lh (fun W h=>⟨num_cells (R1.out.below (below_step HB.out h)) i (by have:=HL.out;omega),num_cells (R2.out.below (below_step HB.out h)) i (by have:=HL.out;omega)⟩)
    obtain⟨x,hx⟩: ∃x,l1.getD i 0=x:=⟨_,rfl⟩
    obtain⟨y,hy⟩: ∃y,l2.getD i 0=y:=⟨_,rfl⟩
    rw[hx,hy]at HX
    have HXY:=Lh (And.intro hx hy)
    have hi1:IntKind.i64.wrap ((i:Int)+1)=((i+1:Nat):Int):=by rw[IntKind.wrap_i64];omega
    have hin2:(i:Int)<(n:Int):=by omega
    clear hx hy hb
    by_cases he:x=y
    ·subst he
     have HE:=Lh (show l1.getD i 0=l2.getD i 0 by rw[HXY.out.1,HXY.out.2])
     go_wp2
     refine wp_region_mix 9 (TVs [.slice (some ⟨g1,0,none⟩) n c1, .int .i64 (i:Int), .pointer (some ⟨g1,i,none⟩), .int .i64 x, .slice (some ⟨g2,0,none⟩) n c2, .int .i64 (i:Int), .pointer (some ⟨g2,i,none⟩), .int .i64 x, .bool false]) (fun _=>false) (by kernel_rfl) (by kernel_rfl) (TVs.keep _) (fun _ _ _ h=>by cases h) ?_ ?_
     ·refine⟨?_,?_,?_,?_,?_,?_,?_,?_,?_,trivial⟩
      all_goals
       intro u W hb hd
       have⟨x0,y0⟩:=HX.out W hb
       simp only[Kj,Jh,putAll,Act.put,Lq,Lk,Lj,Ly,Lx]
       try (have e0:u _=List.getD _ _ _:=hd.1 rfl (by decide);rw[e0])
       try (have e1:u _=List.getD _ _ _:=hd.2.1 rfl (by decide);rw[e1])
       try (have e2:u _=List.getD _ _ _:=hd.2.2.1 rfl (by decide);rw[e2])
       try (have e3:u _=List.getD _ _ _:=hd.2.2.2.1 rfl (by decide);rw[e3])
       try (have e4:u _=List.getD _ _ _:=hd.2.2.2.2.1 rfl (by decide);rw[e4])
       try simp only[List.getD_cons_zero,List.getD_cons_succ]
       go_wp2
       first|exact Mj _ _|exact⟨congrArg Value.bool hne,Mj _ _⟩|exact⟨rfl,Mj _ _⟩|exact⟨_,rfl,rfl,Mj _ _⟩|exact⟨_,rfl,rfl,Mj _ _,fun h=>by simp at h⟩|exact⟨by simp[*],Mj _ _⟩|exact⟨_,rfl,by simp[*],Mj _ _⟩|exact⟨_,rfl,by simp[*],Mj _ _,fun h=>by simp at h⟩
     intro u W hbu hT _
     have eL:u 8= .bool false:=hT 8 (by decide)
     simp only[Kj,Jh,Jj,Jk,putAll,Act.put,Lq,Lk,Lj,Ly,Lx]
     rw[eL]
     have HB3:=Lh (below_step HB.out hbu)
     clear hbu hT
     go_wp2
     go_roundw
     case rel=>exact⟨i+1,by omega,by go_num,HB3.out,Lh (fun j hj=>by
      rcases Nat.lt_or_ge j i with hx|hx
      ·exact HJ.out j hx
      ·obtain rfl:j=i:=by omega
       exact HE.out)⟩
     case measure=>simp[intOf];omega
    ·have HE:=Lh (show l1≠l2 from fun e=>he (by rw[←HXY.out.1,←HXY.out.2,e]))
     have hne:(x !=y)=true:=by simpa using he
     go_wp2
     refine wp_region_mix 9 (TVs [.slice (some ⟨g1,0,none⟩) n c1, .int .i64 (i:Int), .pointer (some ⟨g1,i,none⟩), .int .i64 x, .slice (some ⟨g2,0,none⟩) n c2, .int .i64 (i:Int), .pointer (some ⟨g2,i,none⟩), .int .i64 y, .bool true]) (fun _=>false) (by kernel_rfl) (by kernel_rfl) (TVs.keep _) (fun _ _ _ h=>by cases h) ?_ ?_
     ·refine⟨?_,?_,?_,?_,?_,?_,?_,?_,?_,trivial⟩
      all_goals
       intro u W hb hd
       have⟨x0,y0⟩:=HX.out W hb
       simp only[Kj,Jh,putAll,Act.put,Lq,Lk,Lj,Ly,Lx]
       try (have e0:u _=List.getD _ _ _:=hd.1 rfl (by decide);rw[e0])
       try (have e1:u _=List.getD _ _ _:=hd.2.1 rfl (by decide);rw[e1])
       try (have e2:u _=List.getD _ _ _:=hd.2.2.1 rfl (by decide);rw[e2])
       try (have e3:u _=List.getD _ _ _:=hd.2.2.2.1 rfl (by decide);rw[e3])
       try (have e4:u _=List.getD _ _ _:=hd.2.2.2.2.1 rfl (by decide);rw[e4])
       try simp only[List.getD_cons_zero,List.getD_cons_succ]
       go_wp2
       first|exact Mj _ _|exact⟨congrArg Value.bool hne,Mj _ _⟩|exact⟨rfl,Mj _ _⟩|exact⟨_,rfl,rfl,Mj _ _⟩|exact⟨_,rfl,rfl,Mj _ _,fun h=>by simp at h⟩|exact⟨by simp[*],Mj _ _⟩|exact⟨_,rfl,by simp[*],Mj _ _⟩|exact⟨_,rfl,by simp[*],Mj _ _,fun h=>by simp at h⟩
     intro u W hbu hT _
     have eL:u 8= .bool true:=hT 8 (by decide)
     simp only[Kj,Jh,Jj,Jk,putAll,Act.put,Lq,Lk,Lj,Ly,Lx]
     rw[eL]
     have HB3:=Lh (below_step HB.out hbu)
     clear hbu hT
     go_wp2
     go_ret
     exact⟨by rw[decide_eq_false HE.out];rfl,HB3.out⟩
   ·have en:n=i:=by omega
    subst en
    clear hb
    go_wp2
    go_ret
    refine⟨?_,HB.out⟩
    have hll:=HL.out
    have he:l1=l2:=by
     refine List.ext_getElem (by omega) (fun j h1 h2=>?_)
     have:=HJ.out j (by omega)
     simpa [Mk,h1,h2] using this
    rw[decide_eq_true he]
    rfl
 ·have hnm2: ¬(n:Int)=(m:Int):=by omega
  have HE:=Lh (show l1≠l2 from fun e=>hnm (by rw[←hn,←hm,e]))
  clear r1 r2 s1 hn hm
  go_enter Tryd.func16,Tryd.ntmps16
  go_wp2
  go_ret
  exact⟨by rw[decide_eq_false HE.out];rfl,Mj _ _⟩
end
section
open Go.RowKit
def NotOk (ro re fi ca ag:Int):Prop:=(1≤ro∧ro≤64)∧(0≤re∧re≤ro)∧(1≤fi∧fi≤86400)∧(fi≤ca∧ca≤604800)∧(0≤ag∧ag≤2592000)
theorem wnot_any (ro re fi ca ag:Int) (w:World):Calls Tryd.prog 35 #[.agg #[.int .i64 ro, .int .i64 re, .int .i64 fi, .int .i64 ca, .int .i64 ag]] w (GivesQ (NotOk ro re fi ca ag) w):=by
 obtain⟨gb,W1,hg,hW1,V1,b1,z1⟩:=boxL w [.int .i64 ro, .int .i64 re, .int .i64 fi, .int .i64 ca, .int .i64 ag] 24
 obtain⟨q0,h0⟩: ∃q,decide (1≤ro∧ro≤64)=q:=⟨_,rfl⟩
 obtain⟨q1,h1⟩: ∃q,decide (0≤re∧re≤ro)=q:=⟨_,rfl⟩
 obtain⟨q2,h2⟩: ∃q,decide (1≤fi∧fi≤86400)=q:=⟨_,rfl⟩
 obtain⟨q3,h3⟩: ∃q,decide (fi≤ca∧ca≤604800)=q:=⟨_,rfl⟩
 obtain⟨q4,h4⟩: ∃q,decide (0≤ag∧ag≤2592000)=q:=⟨_,rfl⟩
 have HQ:Hid ((q0&&(q1&&(q2&&(q3&&q4))))=true↔NotOk ro re fi ca ag):=Lh (by
  rw[←h0,←h1,←h2,←h3,←h4]
  simp only[Bool.and_eq_true,decide_eq_true_eq]
  exact Iff.rfl)
 have H0:Hid (∀W,Calls Tryd.prog 31 #[.int .i64 ro, .int .i64 1, .int .i64 64] W fun e w'=>e= .returned (.bool q0)∧w'=W):=Lh (fun W=>by rw[←h0];exact betw_int _ _ _ W)
 have H1:Hid (∀W,Calls Tryd.prog 31 #[.int .i64 re, .int .i64 0, .int .i64 ro] W fun e w'=>e= .returned (.bool q1)∧w'=W):=Lh (fun W=>by rw[←h1];exact betw_int _ _ _ W)
 have H2:Hid (∀W,Calls Tryd.prog 54 #[.int .i64 fi, .int .i64 1, .int .i64 86400] W fun e w'=>e= .returned (.bool q2)∧w'=W):=Lh (fun W=>by rw[←h2];exact betw_i64 _ _ _ W)
 have H3:Hid (∀W,Calls Tryd.prog 54 #[.int .i64 ca, .int .i64 fi, .int .i64 604800] W fun e w'=>e= .returned (.bool q3)∧w'=W):=Lh (fun W=>by rw[←h3];exact betw_i64 _ _ _ W)
 have H4:Hid (∀W,Calls Tryd.prog 54 #[.int .i64 ag, .int .i64 0, .int .i64 2592000] W fun e w'=>e= .returned (.bool q4)∧w'=W):=Lh (fun W=>by rw[←h4];exact betw_i64 _ _ _ W)
 have HB:=Lh b1
 have c0:=V1.c 0 rfl
 have c1:=V1.c 1 rfl
 have c2:=V1.c 2 rfl
 have c3:=V1.c 3 rfl
 have c4:=V1.c 4 rfl
 clear b1 z1 V1 h0 h1 h2 h3 h4
 rcases ch (q:=q0) (ch (q:=q1) (ch (q:=q2) (ch (q:=q3) (eqb q4))))with rfl|⟨rfl,rfl|⟨rfl,rfl|⟨rfl,rfl|⟨rfl,rfl|rfl⟩⟩⟩⟩
 all_goals
  go_enter Tryd.func35,Tryd.ntmps35
  go_wp2_with (first
  |(go_at_call 31;(with_reducible refine(H0.out _).mono ?_);rintro e w' ⟨rfl,rfl⟩)
  |(go_at_call 31;(with_reducible refine(H1.out _).mono ?_);rintro e w' ⟨rfl,rfl⟩)
  |(go_at_call 54;(with_reducible refine(H2.out _).mono ?_);rintro e w' ⟨rfl,rfl⟩)
  |(go_at_call 54;(with_reducible refine(H3.out _).mono ?_);rintro e w' ⟨rfl,rfl⟩)
  |(go_at_call 54;(with_reducible refine(H4.out _).mono ?_);rintro e w' ⟨rfl,rfl⟩))
  go_ret
  exact⟨_,rfl,by simpa using HQ.out,HB.out⟩
def CfS (c:CfC):Prop:=(∀g∈c.goals,GolS g)∧c.goals.length≤1000000
theorem wright_any (c:CfC) (cv:Value) (w:World) (env:Env w) (hc:ConfI w cv c) (hs:CfS c):Calls Tryd.prog 18 #[cv] w (GivesQ (ConfOk c) w):=by
 obtain⟨gv,rfl,us,hK,hL,hE⟩:=hc
 obtain⟨s0,s1⟩:=hs
 obtain⟨G,ro,re,fi,ca,ag⟩:=c
 simp only at s0 s1 hL hE
 obtain⟨a,cap,rfl,_⟩:=hK.size
 obtain⟨n,hn⟩: ∃n,us.length=n:=⟨_,rfl⟩
 have hGn:G.length=n:=hL.symm.trans hn
 rw[hn]at hK ⊢
 obtain⟨gb,W1,hg,hW1,V1,b1,z1⟩:=boxL w [.slice a n cap, .int .i64 ro, .int .i64 re, .int .i64 fi, .int .i64 ca, .int .i64 ag] 26
 obtain⟨q1,h1⟩:=shq_of (AllU GoalOk (·.name) G n)
 obtain⟨q2,h2⟩:=shq_of (NotOk ro re fi ca ag)
 obtain⟨q0,h0⟩: ∃q,decide (0≤(n:Int)∧(n:Int)≤6)=q:=⟨_,rfl⟩
 have HQ:Hid ((q0&&(q1&&q2))=true↔ConfOk ⟨G,ro,re,fi,ca,ag⟩):=Lh (by
  rw[←h0]
  simp only[Bool.and_eq_true,decide_eq_true_eq,h1,h2]
  subst hGn
  exact⟨fun⟨⟨_,a⟩,b,⟨c1,c2⟩,⟨d1,d2⟩,⟨e1,e2⟩,⟨f1,f2⟩,g1,g2⟩=>⟨by simp only;omega,b,c1,c2,d1,d2,e1,e2,f1,f2,g1,g2⟩,
   fun h=>⟨⟨by omega,by have:=h.n1;simp only at this;omega⟩,h.go,⟨h.r1,h.r2⟩,⟨h.v1,h.v2⟩,⟨h.f1,h.f2⟩,⟨h.c1,h.c2⟩,h.a1,h.a2⟩⟩)
 have H0:Hid (∀W,Calls Tryd.prog 31 #[.int .i64 (n:Int), .int .i64 0, .int .i64 6] W fun e w'=>e= .returned (.bool q0)∧w'=W):=Lh (fun W=>by rw[←h0];exact betw_int _ _ _ W)
 have HGA:Hid (∀W,Below W1.heap.size W1 W→Calls Tryd.prog 32 #[.slice a n cap, .func (.func 33) #[] #[], .func (.func 34) #[] #[]] W fun e w'=>e= .returned (.bool q1)∧Below W.heap.size W w'):=Lh (fun W b=>by
  refine GivesQ.is (h1.trans ?_) (goal_all (fun i=> ∀x,G[i]?=some x→GoalOk x) us (G.map (·.name)) _ W (hK.below (below_step b1 b)) ⟨by rw[Ky,hL],fun i u s hu hs=>?_⟩ (by omega) (fun i u hu W' b'=>?_))
  ·rw[hn];exact allN_iff.symm
  ·rw[List.getElem?_map,Option.map_eq_some_iff]at hs
   obtain⟨x,hx,rfl⟩:=hs
   obtain⟨lv,rv,rfl,i1,i2⟩:=hE i u x hu hx
   obtain⟨_,_,rfl,_⟩:=i1.size
   obtain⟨_,_,rfl,_⟩:=i2.size
   exact⟨_,_,_,_,_,_,_,_,_,_,_,rfl⟩
  ·have hi:i<G.length:=by have:=(List.getElem?_eq_some_iff.1 hu).1;omega
   have hx:G[i]?=some G[i]:=Kh hi
   have hb:=below_step (below_step b1 b) b'
   refine(wgol_any G[i] u W' (env.step hb) ((hE i u _ hu hx).below hb) (s0 _ (List.getElem_mem hi))).mono ?_
   rintro e w' ⟨q,e1,e2,e3⟩
   exact⟨q,e1,e2.trans ⟨fun h y hy=>by rw[hx]at hy;injection hy with hy;rw[←hy];exact h,fun h=>h _ hx⟩,e3⟩)
 have HNO:=Lh (fun W=>GivesQ.is h2 (wnot_any ro re fi ca ag W))
 have HB:=Lh b1
 have HV:=Lh V1
 have c0:=V1.c 0 rfl
 clear env s0 s1 hK hL hE hn hGn b1 z1 V1 h0 h1 h2
 show Calls Tryd.prog 18 #[.agg #[.slice a n cap, .int .i64 ro, .int .i64 re, .int .i64 fi, .int .i64 ca, .int .i64 ag]] w _
 rcases ch (q:=q0) (ch (q:=q1) (eqb q2))with rfl|⟨rfl,rfl|⟨rfl,rfl|rfl⟩⟩
 all_goals
  go_enter Tryd.func18,Tryd.ntmps18
  go_wp2_with (first
  |(go_at_call 31;(with_reducible refine(H0.out _).mono ?_);rintro e w' ⟨rfl,rfl⟩)
  |(go_at_call 32;(with_reducible refine(HGA.out _ (Mj _ _)).mono ?_);rintro e W2 ⟨rfl,h⟩;have DD:=Lh h;clear h;have d1:=(HV.out.after DD.out).c 1 rfl;have d2:=(HV.out.after DD.out).c 2 rfl;have d3:=(HV.out.after DD.out).c 3 rfl;have d4:=(HV.out.after DD.out).c 4 rfl;have d5:=(HV.out.after DD.out).c 5 rfl;skip)
  |(go_at_call 35;(with_reducible refine(HNO.out _).mono ?_);rintro e W3 ⟨rfl,h⟩;have DE:=Lh (below_step DD.out h);clear h))
  go_ret
  exact⟨_,rfl,by simpa using HQ.out,by first|exact below_step HB.out DE.out|exact below_step HB.out DD.out|exact HB.out⟩
end
section
open Go.RowKit
def sliceLen:Value→Nat
 | .slice _ n _=>n
 |_=>0
theorem above_last {out:List Int} {l x:Int} (h:out.getLast?=some l):AboveW out x↔l<x:=⟨fun a=>a l h,fun a m hm=>by rw[h]at hm;injection hm with hm;omega⟩
theorem last_getD {out:List Int} {k:Nat} (h:out.length=k+1):out.getLast?=some (out.getD k 0):=by
 rw[List.getLast?_eq_getElem?,h,Nat.add_sub_cancel,Kh (by omega)]
 simp[Mk,show k<out.length by omega]
end
end Go.Proofs.YtgmfkbamfnkbgaaDoor
