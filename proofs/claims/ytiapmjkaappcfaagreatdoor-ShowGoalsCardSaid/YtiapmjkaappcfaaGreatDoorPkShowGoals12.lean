/-
  Package show: words and lines as items: walked.
-/
import Derived.Test.YtiapmjkaappcfaaGreatDoorPkShowGoals10
set_option maxRecDepth 100000
set_option maxHeartbeats 8000000
namespace Go.Proofs.YtiapmjkaappcfaaGreatDoor
open Lib renaming hid→Lh
open Nat renaming zero_add→Ly,le_trans→Kz
open Go.RowKit.Below renaming refl→Mj
open List renaming getElem?_eq_getElem→Kh,take_succ_cons→Kj,length_map→Ky,take_zero→Jh
section
open Go.RowKit
theorem rgl_any (g:GlC) (u:List Value) (w:World) (hu:GolI w u g) (hs:GolS g):Calls Tryz.prog 33 #[.agg u.toArray] w (GivesQ (GoalOk g) w):=by
 obtain⟨lv,rv,rfl,hl,hr⟩:=hu
 obtain⟨s0,s1,s2,s3,s4⟩:=hs
 obtain⟨nm,tg,gr,la,ro,ca,L,R⟩:=g
 simp only at s0 s1 s2 s3 s4 hl hr
 obtain⟨la1,lc1,rfl,_⟩:=hl.size
 obtain⟨ra1,rc1,rfl,_⟩:=hr.size
 rw[Ky]at hl hr ⊢
 rw[Ky]
 obtain⟨n,hn⟩: ∃n,L.length=n:=⟨_,rfl⟩
 obtain⟨m,hmm⟩: ∃n,R.length=n:=⟨_,rfl⟩
 rw[hn]at hl s3 ⊢
 rw[hmm]at hr s4 ⊢
 obtain⟨gb,W1,hg,hW1,V1,b1,z1⟩:=boxL w [.string nm, .int .u32 tg, .int .i64 gr, .int .i64 la, .int .i64 ro, .int .i64 ca, .slice la1 n lc1, .slice ra1 m rc1] 54
 obtain⟨q0,h0⟩:=shq_of (NameL (runesOf (nums nm)))
 obtain⟨q1,h1⟩: ∃q,decide (1≤tg)=q:=⟨_,rfl⟩
 obtain⟨q2,h2⟩: ∃q,decide (tg≤999999)=q:=⟨_,rfl⟩
 obtain⟨q3,h3⟩: ∃q,decide (1≤gr∧gr≤86400)=q:=⟨_,rfl⟩
 obtain⟨q4,h4⟩: ∃q,decide (0≤la∧la≤86400)=q:=⟨_,rfl⟩
 obtain⟨q5,h5⟩: ∃q,decide (0≤ro∧ro≤34560000)=q:=⟨_,rfl⟩
 obtain⟨q6,h6⟩: ∃q,decide (ro%gr=0)=q:=⟨_,rfl⟩
 obtain⟨q7,h7⟩: ∃q,decide (0≤ca)=q:=⟨_,rfl⟩
 obtain⟨q8,h8⟩: ∃q,decide (ca≤2)=q:=⟨_,rfl⟩
 obtain⟨q9,h9⟩: ∃q,decide (n≤4)=q:=⟨_,rfl⟩
 obtain⟨q10,h10⟩: ∃q,decide (1≤m)=q:=⟨_,rfl⟩
 obtain⟨q11,h11⟩: ∃q,decide (m≤4)=q:=⟨_,rfl⟩
 have HQ:Hid (GoalOk ⟨nm,tg,gr,la,ro,ca,L,R⟩→(q0&&(q1&&(q2&&(q3&&(q4&&(q5&&(q6&&(q7&&(q8&&(q9&&(q10&&q11)))))))))))=true):=Lh (by
  rw[←h1,←h2,←h3,←h4,←h5,←h6,←h7,←h8,←h9,←h10,←h11]
  simp only[Bool.and_eq_true,decide_eq_true_eq,h0]
  subst hn hmm
  exact fun h=>⟨h.nm,h.t1,h.t2,⟨h.g1,h.g2⟩,⟨h.l1,h.l2⟩,⟨h.r1,h.r2⟩,h.rg,h.c1,h.c2,h.n1,h.m1,h.m2⟩)
 have HP:Hid ((q0&&(q1&&(q2&&(q3&&(q4&&(q5&&(q6&&(q7&&(q8&&(q9&&(q10&&q11)))))))))))=true→AllU LabOk (·.1) L n→AllU (RuleOk gr) (·.name) R m→GoalOk ⟨nm,tg,gr,la,ro,ca,L,R⟩):=Lh (by
  rw[←h1,←h2,←h3,←h4,←h5,←h6,←h7,←h8,←h9,←h10,←h11]
  simp only[Bool.and_eq_true,decide_eq_true_eq,h0]
  subst hn hmm
  exact fun⟨a,b1,b2,⟨c1,c2⟩,⟨d1,d2⟩,⟨e1,e2⟩,f2,g1,g2,k2,k4,k5⟩ x y=>⟨a,b1,b2,c1,c2,d1,d2,e1,e2,f2,g1,g2,k2,x,k4,k5,y⟩)
 have HNM:=Lh (fun W=>GivesQ.is h0 (rname_any nm W s0))
 have H3:Hid (∀W,Calls Tryz.prog 55 #[.int .i64 gr, .int .i64 1, .int .i64 86400] W fun e w'=>e= .returned (.bool q3)∧w'=W):=Lh (fun W=>by rw[←h3];exact rin_any _ _ _ W)
 have H4:Hid (∀W,Calls Tryz.prog 55 #[.int .i64 la, .int .i64 0, .int .i64 86400] W fun e w'=>e= .returned (.bool q4)∧w'=W):=Lh (fun W=>by rw[←h4];exact rin_any _ _ _ W)
 have H5:Hid (∀W,Calls Tryz.prog 55 #[.int .i64 ro, .int .i64 0, .int .i64 34560000] W fun e w'=>e= .returned (.bool q5)∧w'=W):=Lh (fun W=>by rw[←h5];exact rin_any _ _ _ W)
 have A1:q1=true→¬tg<1:=fun e=>by have:=of_decide_eq_true (h1.trans e);exact by omega
 have B1:q1=false→tg<1:=fun e=>by have:=of_decide_eq_false (h1.trans e);exact by omega
 have A2:q2=true→¬999999<tg:=fun e=>by have:=of_decide_eq_true (h2.trans e);exact by omega
 have B2:q2=false→999999<tg:=fun e=>by have:=of_decide_eq_false (h2.trans e);exact by omega
 have A3:q3=true→¬gr=0:=fun e=>by have:=of_decide_eq_true (h3.trans e);exact by omega
 have B3:q3=false→True:=fun _=>trivial
 have A6:q6=true→(ro.tmod gr !=0)=false:=fun e=>by have:=of_decide_eq_true (h6.trans e);exact by rw[tmod_ne,decide_eq_true this];rfl
 have B6:q6=false→(ro.tmod gr !=0)=true:=fun e=>by have:=of_decide_eq_false (h6.trans e);exact by rw[tmod_ne,decide_eq_false this];rfl
 have A7:q7=true→¬ca<0:=fun e=>by have:=of_decide_eq_true (h7.trans e);exact by omega
 have B7:q7=false→ca<0:=fun e=>by have:=of_decide_eq_false (h7.trans e);exact by omega
 have A8:q8=true→¬2<ca:=fun e=>by have:=of_decide_eq_true (h8.trans e);exact by omega
 have B8:q8=false→2<ca:=fun e=>by have:=of_decide_eq_false (h8.trans e);exact by omega
 have A9:q9=true→¬(4:Int)<(n:Int):=fun e=>by have:=of_decide_eq_true (h9.trans e);exact by omega
 have B9:q9=false→(4:Int)<(n:Int):=fun e=>by have:=of_decide_eq_false (h9.trans e);exact by omega
 have A10:q10=true→¬(m:Int)<1:=fun e=>by have:=of_decide_eq_true (h10.trans e);exact by omega
 have B10:q10=false→(m:Int)<1:=fun e=>by have:=of_decide_eq_false (h10.trans e);exact by omega
 have A11:q11=true→¬(4:Int)<(m:Int):=fun e=>by have:=of_decide_eq_true (h11.trans e);exact by omega
 have B11:q11=false→(4:Int)<(m:Int):=fun e=>by have:=of_decide_eq_false (h11.trans e);exact by omega
 have HLL:=Lh hl
 have HRL:=Lh hr
 have HS1:=Lh s1
 have HS2:=Lh s2
 have HN1:=Lh hn
 have HM1:=Lh hmm
 have HB:=Lh b1
 have HV:=Lh V1
 have c0:=V1.c 0 rfl
 have hch:=(ch (q:=q0) (cq (q:=q1) A1 B1 (cq (q:=q2) A2 B2 (cq (q:=q3) A3 B3 (ch (q:=q4) (ch (q:=q5) (cq (q:=q6) A6 B6 (cq (q:=q7) A7 B7 (cq (q:=q8) A8 B8 (cq (q:=q9) A9 B9 (cq (q:=q10) A10 B10 (cq (q:=q11) A11 B11 trivial))))))))))))
 clear s0 s1 s2 s3 s4 hl hr hn hmm b1 z1 V1 h0 h1 h2 h3 h4 h5 h6 h7 h8 h9 h10 h11 A1 B1 A2 B2 A3 B3 A6 B6 A7 B7 A8 B8 A9 B9 A10 B10 A11 B11
 show Calls Tryz.prog 33 #[.agg #[.string nm, .int .u32 tg, .int .i64 gr, .int .i64 la, .int .i64 ro, .int .i64 ca, .slice la1 n lc1, .slice ra1 m rc1]] w _
 rcases hch with rfl|⟨rfl,⟨rfl,x1⟩|⟨⟨rfl,x1⟩,⟨rfl,x2⟩|⟨⟨rfl,x2⟩,⟨rfl,x3⟩|⟨⟨rfl,x3⟩,rfl|⟨rfl,rfl|⟨rfl,⟨rfl,x6⟩|⟨⟨rfl,x6⟩,⟨rfl,x7⟩|⟨⟨rfl,x7⟩,⟨rfl,x8⟩|⟨⟨rfl,x8⟩,⟨rfl,x9⟩|⟨⟨rfl,x9⟩,⟨rfl,x10⟩|⟨⟨rfl,x10⟩,⟨rfl,x11⟩|⟨⟨rfl,x11⟩,_⟩⟩⟩⟩⟩⟩⟩⟩⟩⟩⟩⟩
 all_goals
  go_enter Tryz.func33,Tryz.ntmps33
  go_wp2_with (first
  |(go_at_call 71;(with_reducible refine(HNM.out _).mono ?_);rintro e W2 ⟨rfl,h⟩;have DD:=Lh h;clear h;have d1:=(HV.out.after DD.out).c 1 rfl;have d2:=(HV.out.after DD.out).c 2 rfl;have d3:=(HV.out.after DD.out).c 3 rfl;have d4:=(HV.out.after DD.out).c 4 rfl;have d5:=(HV.out.after DD.out).c 5 rfl;have d6:=(HV.out.after DD.out).c 6 rfl;have d7:=(HV.out.after DD.out).c 7 rfl;skip)
  |(go_at_call 55;(with_reducible refine(H3.out _).mono ?_);rintro e w' ⟨rfl,rfl⟩)
  |(go_at_call 55;(with_reducible refine(H4.out _).mono ?_);rintro e w' ⟨rfl,rfl⟩)
  |(go_at_call 55;(with_reducible refine(H5.out _).mono ?_);rintro e w' ⟨rfl,rfl⟩))
 iterate 12 (· go_ret;exact GivesQ.no (fun h=>by simpa using HQ.out h) (below_step HB.out DD.out))
 clear d1 d2 d3 d4 d5 d6 d7 x1 x2 x3 x6 x7 x8 x9 x10 x11
 go_loopw [3] (fun v3 wr=> ∃i:Nat,i≤n∧v3= .int .i64 (i:Int)∧Below W1.heap.size W1 wr∧AllU LabOk (·.1) L i) (fun v3 _=>n-(intOf v3).toNat)
 case atStart=>exact⟨0,Nat.zero_le _,rfl,DD.out,AllU.zero⟩
 case round=>
  obtain⟨i,hi,rfl,hb0,hW⟩:=hrel
  have hb:=below_step HB.out hb0
  have HB0:=Lh hb0
  have HW:=Lh hW
  have k6:=(HV.out.after hb0).c 6 rfl
  clear hW
  by_cases hin:i<n
  ·obtain⟨x,hx⟩: ∃x,L[i]?=some x:=⟨_,Kh (by rw[HN1.out];exact hin)⟩
   obtain⟨t0,t1⟩:=HS1.out x (List.mem_of_getElem? hx)
   have HX:=Lh hx
   obtain⟨s,t⟩:=x
   simp only at t0 t1
   obtain⟨b,off,rfl,hlt,hcell⟩:=HLL.out.at i (labV (s,t)) (by rw[List.getElem?_map,hx];rfl)
   have f0:wr.cell? ⟨b,off+i*2,none⟩=some (.string s):=(hb.cell (p:=⟨b,off+i*2,none⟩) hlt).trans (hcell 0 _ rfl)
   have f1:wr.cell? ⟨b,off+i*2+1,none⟩=some (.string t):=(hb.cell (p:=⟨b,off+i*2+1,none⟩) hlt).trans (hcell 1 _ rfl)
   obtain⟨xb,W2,hxb,hW2,V2,b2,z2⟩:=boxL wr [.string ⟨#[]⟩, .string ⟨#[]⟩] 103
   have c0:=V2.c 0 rfl
   have c1:=V2.c 1 rfl
   have u0:=V2.q 0 rfl
   have u1:=V2.q 1 rfl
   obtain⟨W3,hW3⟩: ∃W,putL xb 0 [.string s, .string t] W2=W:=⟨_,rfl⟩
   have HVX:Hid (VarL W3 xb [.string s, .string t]):=Lh (by rw[←hW3];exact putL_var [.string s, .string t] [] [.string ⟨#[]⟩, .string ⟨#[]⟩] W2 V2 rfl)
   have hb3:Below wr.heap.size wr W3:=by rw[←hW3];exact putL_below _ (by omega) _ _ b2
   have HB3:=Lh (below_step hb0 hb3)
   have g0:=HVX.out.c 0 rfl
   obtain⟨p0,e0⟩:=shq_of (NameL (runesOf (nums s)))
   obtain⟨p1,e1⟩:=shq_of (GoodL (runesOf (nums t)))
   obtain⟨mm,hm⟩: ∃m,(runesOf (nums t)).length=m:=⟨_,rfl⟩
   have HLO:Hid (LabOk (s,t)↔p0=true∧p1=true∧mm≤120):=Lh (by rw[e0,e1,←hm];exact Iff.rfl)
   have K0:=Lh (fun W=>GivesQ.is e0 (rname_any s W t0))
   have K1:=Lh (fun W=>GivesQ.is e1 (rgood_any t W t1))
   have K2:Hid (∀W,Calls Tryz.prog 73 #[.string t] W fun e w'=> ∃b off cap,e= .returned (.slice (some ⟨b,off,none⟩) mm cap)∧Below W.heap.size W w'):=Lh (fun W=>by
    refine(rrunes_any t W t1).mono ?_
    rintro e w' ⟨v,rfl,⟨b,off,cap,rfl,_⟩,h,_⟩
    exact⟨b,off,cap,by rw[hm],h⟩)
   have hi1:IntKind.i64.wrap ((i:Int)+1)=((i+1:Nat):Int):=by rw[IntKind.wrap_i64];have:=HN1.out;have:=HQ.out;omega
   have HCK:Hid (∀(k:Nat) y,k<n→L[k]?=some y→∀W,Below w.heap.size w W→W.cell? ⟨b,off+k*2,none⟩=some (.string y.1)):=Lh (fun k y _ hy W bw=>by
    obtain⟨b',off',ea,hl',hc'⟩:=HLL.out.at k (labV y) (by rw[List.getElem?_map,hy];rfl)
    injection ea with ea
    injection ea with ea1 ea2
    subst ea1 ea2
    exact(bw.cell (p:=⟨b,off+k*2,none⟩) hl').trans (hc' 0 _ rfl))
   have HIN:=Lh hin
   have HI1:=Lh hi1
   simp only[putL,Ly]at hW3
   clear hx t0 t1 hlt hcell hb b2 z2 V2 hb3 hb0 e0 e1 hm
   rcases ch (q:=p0) (ch (q:=p1) (Decidable.em ((120:Int)<(mm:Int))))with rfl|⟨rfl,rfl|⟨rfl,hm|hm⟩⟩
   all_goals
    go_wp2_with (first
    |(go_at_call 71;(with_reducible refine(K0.out _).mono ?_);rintro e W4 ⟨rfl,h⟩;have G4:=Lh h;have g1:=(HVX.out.after h).c 1 rfl;clear h)
    |(go_at_call 72;(with_reducible refine(K1.out _).mono ?_);rintro e W5 ⟨rfl,h⟩;have G5:=Lh (below_step G4.out h);have g2:=(HVX.out.after G5.out).c 1 rfl;clear h)
    |(go_at_call 73;(with_reducible refine(K2.out _).mono ?_);rintro e W6 ⟨_,_,_,rfl,h⟩;have G6:=Lh (below_step G5.out h);clear h))
   ·go_ret
    exact GivesQ.no (fun h=>by have:=HLO.out.mp (h.la i _ (by have:=HIN.out;have:=HN1.out;simp only at*;omega) HX.out).1;simp at this) (below_step HB.out (below_step HB3.out G4.out))
   ·go_ret
    exact GivesQ.no (fun h=>by have:=HLO.out.mp (h.la i _ (by have:=HIN.out;have:=HN1.out;simp only at*;omega) HX.out).1;simp at this) (below_step HB.out (below_step HB3.out G5.out))
   ·have HM:=Lh hm
    go_ret
    exact GivesQ.no (fun h=>by have:=HLO.out.mp (h.la i _ (by have:=HIN.out;have:=HN1.out;simp only at*;omega) HX.out).1;have:=HM.out;omega) (below_step HB.out (below_step HB3.out G6.out))
   ·have HOK:=Lh (HLO.out.mpr (by simp;omega))
    have HVY:=Lh (HVX.out.after G6.out)
    have HG6:=Lh (below_step HB3.out G6.out)
    clear hm g0 g1 g2 f0 f1 c0 c1 u0 u1 k6 hin hi1 hxb hW2 hW3
    go_loopw [5] (fun v5 wr=> ∃k:Nat,k≤i∧v5= .int .i64 (k:Int)∧Below W6.heap.size W6 wr∧∀(j:Nat) y,j<k→L[j]?=some y→y.1≠s) (fun v5 _=>i-(intOf v5).toNat)
    case atStart=>exact⟨0,Nat.zero_le _,rfl,Mj _ _,fun j y hj=>by omega⟩
    case round=>
     obtain⟨k,hk,rfl,hbk,hU⟩:=hrel
     have HBK:=Lh hbk
     have HU:=Lh hU
     have k6:=(HV.out.after (below_step HG6.out hbk)).c 6 rfl
     have x0:=(HVY.out.after hbk).c 0 rfl
     clear hU
     by_cases hki:k<i
     ·have hkn:k<n:=by have:=HIN.out;omega
      obtain⟨y,hy⟩: ∃x,L[k]?=some x:=⟨_,Kh (by rw[HN1.out];exact hkn)⟩
      have y0:=HCK.out k y hkn hy _ (below_step HB.out (below_step HG6.out hbk))
      have HY:=Lh hy
      have HKI:=Lh hki
      have hk1:IntKind.i64.wrap ((k:Int)+1)=((k+1:Nat):Int):=by have:=HI1.out;rw[IntKind.wrap_i64]at*;omega
      obtain⟨z,yt⟩:=y
      simp only at y0
      clear hy hbk
      by_cases he:z=s
      ·have hq:(z.toList==s.toList)=true:=(str_same _ _).trans (decide_eq_true he)
       have HE:=Lh he
       clear he
       go_wp2
       go_quiet (fail)
       have HD:Hid (Below w.heap.size w (wr.drewN nq)):=Lh (below_step HB.out (below_step HG6.out (below_step HBK.out (Go.below_drewN (Mj _ _) nq))))
       generalize wr.drewN nq=W7 at HD ⊢
       go_wp2
       go_ret
       exact GivesQ.no (fun h=>(h.la i _ (by have:=HIN.out;have:=HN1.out;simp only at*;omega) HX.out).2 k _ HKI.out HY.out HE.out) HD.out
      ·have hq:(z.toList==s.toList)=false:=(str_same _ _).trans (decide_eq_false he)
       have HE:=Lh he
       clear he
       go_wp2
       go_quiet (fail)
       have HD:Hid (Below W6.heap.size W6 (wr.drewN nq)):=Lh (below_step HBK.out (Go.below_drewN (Mj _ _) nq))
       generalize wr.drewN nq=W7 at HD ⊢
       clear k6 x0 y0
       go_wp2
       go_roundw
       case rel=>exact⟨k+1,by omega,by go_num,HD.out,fun j y hj hy=>by
        rcases Nat.lt_or_ge j k with hx|hx
        ·exact HU.out j y hx hy
        ·obtain rfl:j=k:=by omega
         rw[HY.out]at hy
         injection hy with hy
         subst hy
         exact HE.out⟩
       case measure=>simp[intOf];omega
     ·have ek:i=k:=by omega
      subst ek
      clear hbk
      go_wp2
      go_roundw
      case rel=>exact⟨i+1,by have:=HIN.out;omega,by go_num,below_step HG6.out HBK.out,HW.out.next HX.out HOK.out HU.out⟩
      case measure=>have:=HIN.out;simp[intOf];omega
  ·have en:n=i:=by omega
   subst en
   have HLA:=Lh HW.out
   clear hin hb hb0
   go_wp2
   clear k6
   go_loopw [6] (fun v6 wr=> ∃i:Nat,i≤m∧v6= .int .i64 (i:Int)∧Below W1.heap.size W1 wr∧AllU (RuleOk gr) (·.name) R i) (fun v6 _=>m-(intOf v6).toNat)
   case atStart=>exact⟨0,Nat.zero_le _,rfl,HB0.out,AllU.zero⟩
   case round=>
    clear HB0 HW
    obtain⟨i,hi,rfl,hb0,hW⟩:=hrel
    have hb:=below_step HB.out hb0
    have HB0:=Lh hb0
    have HW:=Lh hW
    have k7:=(HV.out.after hb0).c 7 rfl
    clear hW
    by_cases hin:i<m
    ·obtain⟨x,hx⟩: ∃x,R[i]?=some x:=⟨_,Kh (by rw[HM1.out];exact hin)⟩
     have t0:=HS2.out x (List.mem_of_getElem? hx)
     have HX:=Lh hx
     obtain⟨b,off,rfl,hlt,hcell⟩:=HRL.out.at i (rulV x) (by rw[List.getElem?_map,hx];rfl)
     have HC:Hid (∀W,Below wr.heap.size wr W→(W.cell? ⟨gb,7,none⟩=some (.slice (some ⟨b,off,none⟩) m rc1)∧W.cell? ⟨gb,2,none⟩=some (.int .i64 gr))∧(W.cell? ⟨b,off+i*7,none⟩=some (.string x.name)∧W.cell? ⟨b,off+i*7+1,none⟩=some (.bool x.page)∧W.cell? ⟨b,off+i*7+2,none⟩=some (.int .i64 x.long)∧W.cell? ⟨b,off+i*7+3,none⟩=some (.int .i64 x.short)∧W.cell? ⟨b,off+i*7+4,none⟩=some (.int .u64 x.factor)∧W.cell? ⟨b,off+i*7+5,none⟩=some (.int .i64 x.hold)∧W.cell? ⟨b,off+i*7+6,none⟩=some (.int .i64 x.keep))):=Lh (fun W bw=>
      ⟨⟨(HV.out.after (below_step hb0 bw)).c 7 rfl,(HV.out.after (below_step hb0 bw)).c 2 rfl⟩,(below_step hb bw).cell (p:=⟨b,off+i*7,none⟩) hlt|>.trans (hcell 0 _ rfl),(below_step hb bw).cell (p:=⟨b,off+i*7+1,none⟩) hlt|>.trans (hcell 1 _ rfl),(below_step hb bw).cell (p:=⟨b,off+i*7+2,none⟩) hlt|>.trans (hcell 2 _ rfl),(below_step hb bw).cell (p:=⟨b,off+i*7+3,none⟩) hlt|>.trans (hcell 3 _ rfl),(below_step hb bw).cell (p:=⟨b,off+i*7+4,none⟩) hlt|>.trans (hcell 4 _ rfl),(below_step hb bw).cell (p:=⟨b,off+i*7+5,none⟩) hlt|>.trans (hcell 5 _ rfl),(below_step hb bw).cell (p:=⟨b,off+i*7+6,none⟩) hlt|>.trans (hcell 6 _ rfl)⟩)
     obtain⟨p,e0⟩:=shq_of (RuleOk gr x)
     have HPX:=Lh e0
     have HRR:=Lh (fun W=>GivesQ.is e0 (rrl_any x gr W t0))
     simp only[rulV]at HRR
     have hi1:IntKind.i64.wrap ((i:Int)+1)=((i+1:Nat):Int):=by rw[IntKind.wrap_i64];have:=HM1.out;have:=HQ.out;omega
     have HCK:Hid (∀(k:Nat) y,k<m→R[k]?=some y→∀W,Below w.heap.size w W→W.cell? ⟨b,off+k*7,none⟩=some (.string y.name)):=Lh (fun k y _ hy W bw=>by
      obtain⟨b',off',ea,hl',hc'⟩:=HRL.out.at k (rulV y) (by rw[List.getElem?_map,hy];rfl)
      injection ea with ea
      injection ea with ea1 ea2
      subst ea1 ea2
      exact(bw.cell (p:=⟨b,off+k*7,none⟩) hl').trans (hc' 0 _ rfl))
     have HIN:=Lh hin
     have HI1:=Lh hi1
     clear hx t0 hlt hcell hb hb0 e0
     go_wp2
     refine wp_region_mix 8 (TVs [.pointer (some ⟨gb,7,none⟩), .slice (some ⟨b,off,none⟩) m rc1, .int .i64 (i:Int), .pointer (some ⟨b,off+i*7,none⟩), .agg #[.string x.name, .bool x.page, .int .i64 x.long, .int .i64 x.short, .int .u64 x.factor, .int .i64 x.hold, .int .i64 x.keep], .pointer (some ⟨gb,2,none⟩), .int .i64 gr, .bool p]) (fun _=>false) (by kernel_rfl) (by kernel_rfl) (TVs.keep _) (fun _ _ _ h=>by cases h) ?_ ?_
     ·refine⟨?_,?_,?_,?_,?_,?_,?_,?_,trivial⟩
      all_goals
       intro u W hb hd
       obtain⟨⟨n7,n2⟩,r0,r1,r2,r3,r4,r5,r6⟩:=HC.out W hb
       clear k7
       simp only[Kj,Jh,putAll,Act.put,List.setIfInBounds_toArray,List.set_cons_succ,List.set_cons_zero,Ly,Nat.reduceAdd]
       try (have e0:u _=List.getD _ _ _:=hd.1 rfl (by decide);rw[e0])
       try (have e1:u _=List.getD _ _ _:=hd.2.1 rfl (by decide);rw[e1])
       try simp only[List.getD_cons_zero,List.getD_cons_succ]
       go_wp2_with (go_at_call 35;(with_reducible refine(HRR.out _).mono ?_);rintro e W2 ⟨rfl,g⟩)
       first|exact⟨rfl,Mj _ _⟩|exact⟨_,rfl,rfl,Mj _ _⟩|exact⟨_,rfl,rfl,Mj _ _,fun h=>by simp at h⟩|exact⟨rfl,g⟩|exact⟨_,rfl,rfl,g⟩|exact⟨_,rfl,rfl,g,fun h=>by simp at h⟩
     intro u W hb hT _
     have e7:u 7= .bool p:=hT 7 (by decide)
     have HBW:=Lh (below_step HB0.out hb)
     clear hb hT k7
     simp only[Kj,Jh,List.drop_succ_cons,List.drop_zero,putAll,Act.put,List.setIfInBounds_toArray,List.set_cons_succ,List.set_cons_zero,Ly,Nat.reduceAdd]
     rw[e7]
     rcases eqb p with rfl|rfl
     all_goals go_wp2
     ·go_ret
      exact GivesQ.no (fun h=>by have:=HPX.out.mpr (h.ru i _ (by have:=HIN.out;have:=HM1.out;simp only at*;omega) HX.out).1;simp at this) (below_step HB.out HBW.out)
     ·have HOK:Hid (RuleOk gr x):=Lh (by simpa using HPX.out)
      clear hin hi1
      go_loopw [7] (fun v7 wr=> ∃k:Nat,k≤i∧v7= .int .i64 (k:Int)∧Below W.heap.size W wr∧∀(j:Nat) y,j<k→R[j]?=some y→y.name≠x.name) (fun v7 _=>i-(intOf v7).toNat)
      case atStart=>exact⟨0,Nat.zero_le _,rfl,Mj _ _,fun j y hj=>by omega⟩
      case round=>
       obtain⟨k,hk,rfl,hbk,hU⟩:=hrel
       have HBK:=Lh hbk
       have HU:=Lh hU
       have k7:=(HV.out.after (below_step HBW.out hbk)).c 7 rfl
       have x0:=HCK.out i x HIN.out HX.out _ (below_step HB.out (below_step HBW.out hbk))
       clear hU
       by_cases hki:k<i
       ·have hkn:k<m:=by have:=HIN.out;omega
        have hin:i<m:=HIN.out
        obtain⟨y,hy⟩: ∃x,R[k]?=some x:=⟨_,Kh (by rw[HM1.out];exact hkn)⟩
        have y0:=HCK.out k y hkn hy _ (below_step HB.out (below_step HBW.out hbk))
        have HY:=Lh hy
        have HKI:=Lh hki
        have hk1:IntKind.i64.wrap ((k:Int)+1)=((k+1:Nat):Int):=by have:=HI1.out;rw[IntKind.wrap_i64]at*;omega
        clear hy hbk
        by_cases he:y.name=x.name
        ·have hq:(y.name.toList==x.name.toList)=true:=(str_same _ _).trans (decide_eq_true he)
         have HE:=Lh he
         clear he
         go_wp2
         go_quiet (fail)
         have HD:Hid (Below w.heap.size w (wr.drewN nq)):=Lh (below_step HB.out (below_step HBW.out (below_step HBK.out (Go.below_drewN (Mj _ _) nq))))
         generalize wr.drewN nq=W7 at HD ⊢
         go_wp2
         go_ret
         exact GivesQ.no (fun h=>(h.ru i _ (by have:=HIN.out;have:=HM1.out;simp only at*;omega) HX.out).2 k _ HKI.out HY.out HE.out) HD.out
        ·have hq:(y.name.toList==x.name.toList)=false:=(str_same _ _).trans (decide_eq_false he)
         have HE:=Lh he
         clear he
         go_wp2
         go_quiet (fail)
         have HD:Hid (Below W.heap.size W (wr.drewN nq)):=Lh (below_step HBK.out (Go.below_drewN (Mj _ _) nq))
         generalize wr.drewN nq=W7 at HD ⊢
         clear k7 x0 y0 hin
         go_wp2
         go_roundw
         case rel=>exact⟨k+1,by omega,by go_num,HD.out,fun j y hj hy=>by
          rcases Nat.lt_or_ge j k with hx|hx
          ·exact HU.out j y hx hy
          ·obtain rfl:j=k:=by omega
           rw[HY.out]at hy
           injection hy with hy
           subst hy
           exact HE.out⟩
         case measure=>simp[intOf];omega
       ·have ek:i=k:=by omega
        subst ek
        clear hbk
        go_wp2
        go_roundw
        case rel=>exact⟨i+1,by have:=HIN.out;omega,by go_num,below_step HBW.out HBK.out,HW.out.next HX.out HOK.out HU.out⟩
        case measure=>have:=HIN.out;simp[intOf];omega
    ·have en:m=i:=by omega
     subst en
     clear hin hb hb0
     go_wp2
     go_ret
     exact GivesQ.yes (HP.out (by simp) HLA.out HW.out) (below_step HB.out HB0.out)
end
section
open Go.RowKit
def LightG (g:GlC):Prop:=g.name.size≤2000∧g.labels.length≤10∧g.rules.length≤10∧(∀l∈g.labels,l.1.size≤2000∧l.2.size≤2000)∧∀r∈g.rules,r.name.size≤2000
theorem LightG.gols {g:GlC} (h:LightG g):GolS g:=by
 obtain⟨a,b,c,d,e⟩:=h
 exact⟨by omega,fun l hl=>⟨by have:=(d l hl).1;omega,by have:=(d l hl).2;omega⟩,fun r hr=>by have:=e r hr;omega,by omega,by omega⟩
def GivesH (A:Prop) (w:World) (e:Ending) (w':World):Prop:=(∃q,e= .returned (.bool q)∧(q=false→A))∧Below w.heap.size w w'
theorem GivesH.yes {A:Prop} {w w':World} (h:Below w.heap.size w w'):GivesH A w (.returned (.bool true)) w':=⟨⟨_,rfl,fun h=>by cases h⟩,h⟩
theorem GivesH.no {A:Prop} {w w':World} (a:A) (h:Below w.heap.size w w'):GivesH A w (.returned (.bool false)) w':=⟨⟨_,rfl,fun _=>a⟩,h⟩
theorem rhg_any (g:GlC) (u:List Value) (w:World) (hu:GolI w u g):Calls Tryz.prog 31 #[.agg u.toArray] w (GivesH (LightG g) w):=by
 obtain⟨lv,rv,rfl,hl,hr⟩:=hu
 obtain⟨nm,tg,gr,la,ro,ca,L,R⟩:=g
 simp only at hl hr
 obtain⟨la1,lc1,rfl,_⟩:=hl.size
 obtain⟨ra1,rc1,rfl,_⟩:=hr.size
 rw[Ky]at hl hr ⊢
 rw[Ky]
 obtain⟨n,hn⟩: ∃n,L.length=n:=⟨_,rfl⟩
 obtain⟨m,hmm⟩: ∃n,R.length=n:=⟨_,rfl⟩
 rw[hn]at hl ⊢
 rw[hmm]at hr ⊢
 obtain⟨gb,W1,hg,hW1,V1,b1,z1⟩:=boxL w [.string nm, .int .u32 tg, .int .i64 gr, .int .i64 la, .int .i64 ro, .int .i64 ca, .slice la1 n lc1, .slice ra1 m rc1] 54
 have HLL:=Lh hl
 have HRL:=Lh hr
 have HN1:=Lh hn
 have HM1:=Lh hmm
 have HB:=Lh b1
 have HV:=Lh V1
 have c0:=V1.c 0 rfl
 have c6:=V1.c 6 rfl
 have c7:=V1.c 7 rfl
 clear hl hr hn hmm b1 z1 V1
 show Calls Tryz.prog 31 #[.agg #[.string nm, .int .u32 tg, .int .i64 gr, .int .i64 la, .int .i64 ro, .int .i64 ca, .slice la1 n lc1, .slice ra1 m rc1]] w _
 rcases(Decidable.em ((2000:Int)<(nm.size:Int)))with h1|h1
 ·go_enter Tryz.func31,Tryz.ntmps31
  go_wp2
  go_ret
  exact GivesH.yes HB.out
 have HS:Hid (nm.size≤2000):=Lh (by omega)
 rcases(Decidable.em ((10:Int)<(n:Int)))with h2|h2
 ·go_enter Tryz.func31,Tryz.ntmps31
  go_wp2
  go_ret
  exact GivesH.yes HB.out
 have HS2:Hid (n≤10):=Lh (by omega)
 rcases(Decidable.em ((10:Int)<(m:Int)))with h3|h3
 ·go_enter Tryz.func31,Tryz.ntmps31
  go_wp2
  go_ret
  exact GivesH.yes HB.out
 have HS3:Hid (m≤10):=Lh (by omega)
 go_enter Tryz.func31,Tryz.ntmps31
 go_wp2
 clear h1 h2 h3 c0
 go_loopw [3] (fun v3 wr=> ∃i:Nat,i≤n∧v3= .int .i64 (i:Int)∧wr=W1∧∀(j:Nat) y,j<i→L[j]?=some y→y.1.size≤2000∧y.2.size≤2000) (fun v3 _=>n-(intOf v3).toNat)
 case atStart=>exact⟨0,Nat.zero_le _,rfl,rfl,fun j y hj=>by omega⟩
 case round=>
  obtain⟨i,hi,rfl,rfl,hU⟩:=hrel
  have HU:=Lh hU
  clear hU
  by_cases hin:i<n
  ·obtain⟨x,hx⟩: ∃x,L[i]?=some x:=⟨_,Kh (by rw[HN1.out];exact hin)⟩
   have HX:=Lh hx
   obtain⟨b,off,rfl,hlt,hcell⟩:=HLL.out.at i (labV x) (by rw[List.getElem?_map,hx];rfl)
   obtain⟨s,t⟩:=x
   have f0:wr.cell? ⟨b,off+i*2,none⟩=some (.string s):=(HB.out.cell (p:=⟨b,off+i*2,none⟩) hlt).trans (hcell 0 _ rfl)
   have f1:wr.cell? ⟨b,off+i*2+1,none⟩=some (.string t):=(HB.out.cell (p:=⟨b,off+i*2+1,none⟩) hlt).trans (hcell 1 _ rfl)
   have hi1:IntKind.i64.wrap ((i:Int)+1)=((i+1:Nat):Int):=by rw[IntKind.wrap_i64];have:=HS2.out;omega
   clear hx hlt hcell
   rcases(Decidable.em ((2000:Int)<(s.size:Int)))with h1|h1
   ·go_wp2
    go_ret
    exact GivesH.yes HB.out
   rcases(Decidable.em ((2000:Int)<(t.size:Int)))with h2|h2
   ·go_wp2
    go_ret
    exact GivesH.yes HB.out
   have HST:Hid (s.size≤2000∧t.size≤2000):=Lh ⟨by omega,by omega⟩
   go_wp2
   go_roundw
   case rel=>exact⟨i+1,by omega,by go_num,by first|rfl|trivial,fun j y hj hy=>by
    rcases Nat.lt_or_ge j i with hx|hx
    ·exact HU.out j y hx hy
    ·obtain rfl:j=i:=by omega
     rw[HX.out]at hy
     injection hy with hy
     subst hy
     exact HST.out⟩
   case measure=>simp[intOf];omega
  ·have en:n=i:=by omega
   subst en
   have HUL:=Lh HU.out
   go_wp2
   clear hin c6
   go_loopw [4] (fun v4 wx=> ∃i:Nat,i≤m∧v4= .int .i64 (i:Int)∧wx=wr∧∀(j:Nat) y,j<i→R[j]?=some y→y.name.size≤2000) (fun v4 _=>m-(intOf v4).toNat)
   case atStart=>exact⟨0,Nat.zero_le _,rfl,rfl,fun j y hj=>by omega⟩
   case round=>
    clear HU
    obtain⟨i,hi,rfl,hwx,hU⟩:=hrel
    subst hwx
    have HU:=Lh hU
    clear hU
    by_cases hin:i<m
    ·obtain⟨x,hx⟩: ∃x,R[i]?=some x:=⟨_,Kh (by rw[HM1.out];exact hin)⟩
     have HX:=Lh hx
     obtain⟨b,off,rfl,hlt,hcell⟩:=HRL.out.at i (rulV x) (by rw[List.getElem?_map,hx];rfl)
     have f0:=(HB.out.cell (p:=⟨b,off+i*7,none⟩) hlt).trans (hcell 0 _ rfl)
     have hi1:IntKind.i64.wrap ((i:Int)+1)=((i+1:Nat):Int):=by rw[IntKind.wrap_i64];have:=HS3.out;omega
     clear hx hlt hcell
     rcases(Decidable.em ((2000:Int)<(x.name.size:Int)))with h1|h1
     ·go_wp2
      go_ret
      exact GivesH.yes HB.out
     have HST:Hid (x.name.size≤2000):=Lh (by omega)
     go_wp2
     go_roundw
     case rel=>exact⟨i+1,by omega,by go_num,by first|rfl|trivial,fun j y hj hy=>by
      rcases Nat.lt_or_ge j i with hx|hx
      ·exact HU.out j y hx hy
      ·obtain rfl:j=i:=by omega
       rw[HX.out]at hy
       injection hy with hy
       subst hy
       exact HST.out⟩
     case measure=>simp[intOf];omega
    ·have en:m=i:=by omega
     subst en
     go_wp2
     go_ret
     refine GivesH.no ⟨HS.out,by have:=HN1.out;have:=HS2.out;simp only;omega,by have:=HM1.out;have:=HS3.out;simp only;omega,fun l hl=>?_,fun r hr=>?_⟩ HB.out
     ·obtain⟨j,hj,rfl⟩:=List.getElem_of_mem hl
      exact HUL.out j _ (by have:=HN1.out;simp only at hj;omega) (Kh hj)
     ·obtain⟨j,hj,rfl⟩:=List.getElem_of_mem hr
      exact HU.out j _ (by have:=HM1.out;simp only at hj;omega) (Kh hj)
end
section
theorem kw_name {n:ByteArray} (h: ∀z∈nums n,0≤z∧z<128) (h1:NameL (nums n)):NameL (runesOf (nums n)):=by
 have:=runes_ascii (nums n) h []
 rw[List.append_nil,runes_nil,List.append_nil]at this
 rw[this];exact h1
instance (l:List Int):Decidable (NameL l):=by unfold NameL;infer_instance
def wrdN (k n:Int):Tk3:=⟨k,⟨#[]⟩,n,0,0⟩
def wrdS (k:Int) (s:ByteArray):Tk3:=⟨k,s,0,0,0⟩
def lnI (n:ByteArray) (w:List Tk3):It:= .mk n w false [] 0 0
def spI (n:ByteArray) (z:Int):It:=lnI n [wrdN 6 z]
def rulI (r:RlC):It:= .mk nRule [wrdS 1 r.name,wrdS 1 (if r.page then nPage else nTicket)] true [spI nLong r.long,spI nShort r.short,lnI nFactor [wrdN 4 r.factor],spI nFor r.hold,spI nKeep r.keep] 0 0
def labI (l:ByteArray×ByteArray):It:=lnI nLabel [wrdS 1 l.1,wrdS 2 l.2]
def golK (g:GlC):List It:=
 [lnI nTarget [wrdN 5 g.target],spI nGrain g.grain,spI nLate g.late]++((if g.rolling≠0 then [spI nRolling g.rolling]else [])++((if g.cal≠0 then [lnI nCalendar [wrdS 1 (if g.cal=1 then nMonth else nQuarter)]]else [])++(g.labels.map labI++g.rules.map rulI)))
def golI (g:GlC):It:= .mk nObjective [wrdS 1 g.name] true (golK g) 0 0
def notI (c:CfC):It:= .mk nNotify [] true [lnI nRoom [wrdN 3 c.room],lnI nReserve [wrdN 3 c.reserve],spI nFirst c.first,spI nCap c.cap,spI nRepeat c.again] 0 0
def confI (c:CfC):List It:=c.goals.map golI++ [notI c]
theorem eachR_app: ∀l m:List It,EachR (l++m)↔EachR l∧EachR m
 | [],m=>by simp[EachR]
 | .mk n w k kids a b::l,m=>by rw[List.cons_append,EachR,EachR,eachR_app l m];simp only[and_assoc]
theorem numsR_app: ∀l m:List It,NumsR (l++m)↔NumsR l∧NumsR m
 | [],m=>by simp[NumsR]
 | .mk n w k kids a b::l,m=>by rw[List.cons_append,NumsR,NumsR,numsR_app l m];simp only[and_assoc]
structure AllI (l:List It) (d c:Nat):Prop where
 each:EachR l
 nums:NumsR l
 cnt:cntL l≤c
 dep:depL l≤d
theorem AllI.nil (d:Nat):AllI [] d 0:=⟨by simp[EachR],by simp[NumsR],by simp[cntL],by simp[depL]⟩
theorem AllI.app {l m:List It} {d c e:Nat} (h:AllI l d c) (h2:AllI m d e):AllI (l++m) d (c+e):=
 ⟨(eachR_app l m).mpr ⟨h.each,h2.each⟩,(numsR_app l m).mpr ⟨h.nums,h2.nums⟩,by rw[cntL_app];have:=h.cnt;have:=h2.cnt;omega,by rw[depL_app];have:=h.dep;have:=h2.dep;omega⟩
theorem AllI.cons {x:It} {l:List It} {d c e:Nat} (h:AllI [x] d c) (h2:AllI l d e):AllI (x::l) d (c+e):=h.app h2
theorem AllI.map {α:Type} {f:α→It} {d c:Nat} : ∀ {l:List α},(∀x∈l,AllI [f x] d c)→AllI (l.map f) d (c*l.length)
 | [],_=>AllI.nil d
 |x::l,h=>by
  have:=(h x (List.mem_cons_self ..)).cons (AllI.map (l:=l) fun y hy=>h y (List.mem_cons_of_mem _ hy))
  rw[List.map_cons,List.length_cons,Nat.mul_add,Nat.mul_one,Nat.add_comm]
  exact this
theorem AllI.up {l:List It} {d c d' c':Nat} (h:AllI l d c) (hd:d≤d') (hc:c≤c'):AllI l d' c':=⟨h.each,h.nums,Kz h.cnt hc,Kz h.dep hd⟩
def WrdR (t:Tk3):Prop:=WordR t∧0≤t.n∧t.n≤18446744073709551615
theorem ln_all {n:ByteArray} {w:List Tk3} (hn:NameL (runesOf (nums n))) (hw:w.length≤6) (hr: ∀t∈w,WrdR t):AllI [lnI n w] 1 1:=
 ⟨by simp only[lnI,EachR];exact⟨hn,hw,by simp,fun t ht=>(hr t ht).1,trivial,trivial⟩,by simp only[lnI,NumsR];exact⟨fun t ht=>(hr t ht).2,trivial,trivial⟩,by simp[lnI,cntL],by simp[lnI,depL]⟩
theorem blk_all {n:ByteArray} {w:List Tk3} {k:List It} {d c:Nat} (hn:NameL (runesOf (nums n))) (hw:w.length≤6) (hr: ∀t∈w,WrdR t) (h:AllI k d c):AllI [.mk n w true k 0 0] (d+1) (c+1):=
 ⟨by simp only[EachR];exact⟨hn,hw,by simp,fun t ht=>(hr t ht).1,h.each,trivial⟩,by simp only[NumsR];exact⟨fun t ht=>(hr t ht).2,h.nums,trivial⟩,by have:=h.cnt;simp[cntL];omega,by have:=h.dep;simp[depL];omega⟩
theorem wrd_span {z:Int} (h0:0≤z) (h1:z≤253402300799):WrdR (wrdN 6 z):=⟨⟨by simp[wrdN],by simp[wrdN],by simp[RightT,wrdN];omega⟩,h0,by simp[wrdN];omega⟩
theorem wrd_share {z:Int} (h0:0≤z) (h1:z≤1000000):WrdR (wrdN 5 z):=⟨⟨by simp[wrdN],by simp[wrdN],by simp[RightT,wrdN];omega⟩,h0,by simp[wrdN];omega⟩
theorem wrd_fac {z:Int} (h0:0≤z) (h1:z≤1000000):WrdR (wrdN 4 z):=⟨⟨by simp[wrdN],by simp[wrdN],by simp[RightT,wrdN]⟩,h0,by simp[wrdN];omega⟩
theorem wrd_cnt {z:Int} (h0:0≤z) (h1:z≤1000000):WrdR (wrdN 3 z):=⟨⟨by simp[wrdN],by simp[wrdN],by simp[RightT,wrdN]⟩,h0,by simp[wrdN];omega⟩
theorem wrd_name {s:ByteArray} (h:NameL (runesOf (nums s))):WrdR (wrdS 1 s):=⟨⟨by simp[wrdS],by simp[wrdS],by simp[RightT,wrdS];exact h⟩,by simp[wrdS],by simp[wrdS]⟩
theorem wrd_text {s:ByteArray} (h:GoodL (runesOf (nums s))) (hl:(runesOf (nums s)).length≤120):WrdR (wrdS 2 s):=⟨⟨by simp[wrdS],by simp[wrdS],by simp[RightT,wrdS];exact⟨h,hl⟩⟩,by simp[wrdS],by simp[wrdS]⟩
theorem one_word {t:Tk3} (h:WrdR t): ∀u∈ [t],WrdR u:=fun u hu=>by rw[List.mem_singleton.mp hu];exact h
theorem shw_two {t t':Tk3} (h:WrdR t) (h':WrdR t'): ∀u∈ [t,t'],WrdR u:=fun u hu=>by
 rcases List.mem_cons.mp hu with rfl|hu
 ·exact h
 ·exact one_word h' u hu
theorem spn_all {n:ByteArray} {z:Int} (hn:NameL (runesOf (nums n))) (h0:0≤z) (h1:z≤253402300799):AllI [spI n z] 1 1:=ln_all hn (by simp) (one_word (wrd_span h0 h1))
theorem kO:NameL (runesOf (nums nObjective)):=kw_name (by decide) (by decide)
theorem kT:NameL (runesOf (nums nTarget)):=kw_name (by decide) (by decide)
theorem kG:NameL (runesOf (nums nGrain)):=kw_name (by decide) (by decide)
theorem kL:NameL (runesOf (nums nLate)):=kw_name (by decide) (by decide)
theorem kR:NameL (runesOf (nums nRolling)):=kw_name (by decide) (by decide)
theorem kC:NameL (runesOf (nums nCalendar)):=kw_name (by decide) (by decide)
theorem kLb:NameL (runesOf (nums nLabel)):=kw_name (by decide) (by decide)
theorem kRl:NameL (runesOf (nums nRule)):=kw_name (by decide) (by decide)
theorem kLg:NameL (runesOf (nums nLong)):=kw_name (by decide) (by decide)
theorem kSh:NameL (runesOf (nums nShort)):=kw_name (by decide) (by decide)
theorem kFa:NameL (runesOf (nums nFactor)):=kw_name (by decide) (by decide)
theorem kFo:NameL (runesOf (nums nFor)):=kw_name (by decide) (by decide)
theorem kKe:NameL (runesOf (nums nKeep)):=kw_name (by decide) (by decide)
theorem kNo:NameL (runesOf (nums nNotify)):=kw_name (by decide) (by decide)
theorem kRo:NameL (runesOf (nums nRoom)):=kw_name (by decide) (by decide)
theorem kRe:NameL (runesOf (nums nReserve)):=kw_name (by decide) (by decide)
theorem kFi:NameL (runesOf (nums nFirst)):=kw_name (by decide) (by decide)
theorem kCa:NameL (runesOf (nums nCap)):=kw_name (by decide) (by decide)
theorem kRp:NameL (runesOf (nums nRepeat)):=kw_name (by decide) (by decide)
theorem kMo:NameL (runesOf (nums nMonth)):=kw_name (by decide) (by decide)
theorem kQu:NameL (runesOf (nums nQuarter)):=kw_name (by decide) (by decide)
theorem kPa:NameL (runesOf (nums nPage)):=kw_name (by decide) (by decide)
theorem kTi:NameL (runesOf (nums nTicket)):=kw_name (by decide) (by decide)
theorem rul_all {g:Int} {r:RlC} (h:RuleOk g r):AllI [rulI r] 2 6:=by
 have h1:=h.l1;have h2:=h.l2;have h3:=h.s1;have h4:=h.s2;have h5:=h.f1;have h6:=h.f2;have h7:=h.h1;have h8:=h.h2;have h9:=h.k1;have h0:=h.k2
 refine blk_all kRl (by simp) (shw_two (wrd_name h.nm) (wrd_name (by split;exact kPa;exact kTi))) ?_
 exact(spn_all kLg (by omega) (by omega)).cons ((spn_all kSh (by omega) (by omega)).cons ((ln_all kFa (by simp) (one_word (wrd_fac (by omega) h6))).cons ((spn_all kFo h7 (by omega)).cons (spn_all kKe h9 (by omega)))))
theorem lab_all {l:ByteArray×ByteArray} (h:LabOk l):AllI [labI l] 1 1:=ln_all kLb (by simp) (shw_two (wrd_name h.1) (wrd_text h.2.1 h.2.2))
theorem AllU.each {α:Type} {P:α→Prop} {nm:α→ByteArray} {l:List α} (h:AllU P nm l l.length): ∀x∈l,P x:=fun x hx=>by
 obtain⟨j,hj,rfl⟩:=List.getElem_of_mem hx
 exact(h j _ hj (Kh hj)).1
theorem gol_all {g:GlC} (h:GoalOk g):AllI [golI g] 3 34:=by
 have h1:=h.t1;have h2:=h.t2;have h3:=h.g1;have h4:=h.g2;have h5:=h.l1;have h6:=h.l2;have h7:=h.r1;have h8:=h.r2
 refine blk_all (d:=2) (c:=33) kO (by simp) (one_word (wrd_name h.nm)) ?_
 have a:AllI [lnI nTarget [wrdN 5 g.target],spI nGrain g.grain,spI nLate g.late] 2 3:=
  ((ln_all kT (by simp) (one_word (wrd_share (by omega) (by omega)))).cons ((spn_all kG (by omega) (by omega)).cons (spn_all kL h5 (by omega)))).up (by decide) (by decide)
 have b:AllI (if g.rolling≠0 then [spI nRolling g.rolling]else []) 2 1:=by
  split
  ·exact(spn_all kR h7 (by omega)).up (by decide) (by decide)
  ·exact(AllI.nil 2).up (by decide) (by decide)
 have c:AllI (if g.cal≠0 then [lnI nCalendar [wrdS 1 (if g.cal=1 then nMonth else nQuarter)]]else []) 2 1:=by
  split
  ·exact(ln_all kC (by simp) (one_word (wrd_name (by split;exact kMo;exact kQu)))).up (by decide) (by decide)
  ·exact(AllI.nil 2).up (by decide) (by decide)
 have d:AllI (g.labels.map labI) 2 4:=(AllI.map (c:=1) (d:=1) fun x hx=>lab_all (h.la.each x hx)).up (by decide) (by have:=h.n1;omega)
 have e:AllI (g.rules.map rulI) 2 24:=(AllI.map (c:=6) (d:=2) fun x hx=>rul_all (h.ru.each x hx)).up (by decide) (by have:=h.m2;omega)
 exact(a.app (b.app (c.app (d.app e)))).up (by decide) (by decide)
theorem not_all {c:CfC} (h:ConfOk c):AllI [notI c] 2 6:=by
 have h1:=h.r1;have h2:=h.r2;have h3:=h.v1;have h4:=h.v2;have h5:=h.f1;have h6:=h.f2;have h7:=h.c1;have h8:=h.c2;have h9:=h.a1;have h0:=h.a2
 refine blk_all kNo (by simp) (fun t ht=>by cases ht) ?_
 exact(ln_all kRo (by simp) (one_word (wrd_cnt (by omega) (by omega)))).cons ((ln_all kRe (by simp) (one_word (wrd_cnt h3 (by omega)))).cons ((spn_all kFi (by omega) (by omega)).cons ((spn_all kCa (by omega) (by omega)).cons (spn_all kRp h9 (by omega)))))
theorem conf_all {c:CfC} (h:ConfOk c):RightL (confI c)∧NumsR (confI c)∧LightL (confI c):=by
 have a:AllI (c.goals.map golI) 3 204:=(AllI.map (c:=34) (d:=3) fun x hx=>gol_all (h.go.each x hx)).up (by decide) (by have:=h.n1;omega)
 have b:=a.app ((not_all h).up (d':=3) (by decide) (Nat.le_refl _))
 exact⟨⟨by have:=b.dep;unfold confI;omega,by have:=b.cnt;unfold confI;omega,b.each⟩,b.nums,b.each.light b.nums⟩
def exSh:CfC:=⟨[],16,0,10,300,0⟩
theorem exSh_ok:ConfOk exSh:=⟨by decide,AllU.zero,by decide,by decide,by decide,by decide,by decide,by decide,by decide,by decide,by decide,by decide⟩
theorem ex_0s:spn 0= [48,115]:=rfl
theorem ex_10s:spn 10= [49,48,115]:=by
 have e2:dec 10= [49,48]:=by rw[dec_big (by decide),dec_small (by decide)];rfl
 unfold spn
 rw[if_neg (by decide)]
 simp[units,sp,unitOf,e2]
theorem exh_5m:spn 300= [53,109]:=by
 have e2:dec 5= [53]:=by rw[dec_small (by decide)];rfl
 unfold spn
 rw[if_neg (by decide)]
 simp[units,sp,unitOf,e2]
theorem exSh_print:strOfNums (prtL 1 (confI exSh))=⟨#[110,111,116,105,102,121,32,123,10,32,32,114,111,111,109,32,49,54,59,10,32,32,114,101,115,101,114,118,101,32,48,59,10,32,32,102,105,114,115,116,32,49,48,115,59,10,32,32,99,97,112,32,53,109,59,10,32,32,114,101,112,101,97,116,32,48,115,59,10,125,10]⟩:=by
 have e1:dec 16= [49,54]:=by rw[dec_big (by decide),dec_small (by decide)];rfl
 have e2:dec 0= [48]:=by rw[dec_small (by decide)];rfl
 have e:prtL 1 (confI exSh)=nums nNotify++([32,123,10]++(([32,32]++(nums nRoom++((32::dec 16)++ [59,10])))++(([32,32]++(nums nReserve++((32::dec 0)++ [59,10])))++(([32,32]++(nums nFirst++((32::spn 10)++ [59,10])))++(([32,32]++(nums nCap++((32::spn 300)++ [59,10])))++([32,32]++(nums nRepeat++((32::spn 0)++ [59,10]))))))++ [125,10])):=by
  simp only[confI,exSh,notI,lnI,spI,wrdN,List.map_nil,List.nil_append,prtL,wordsP,prT,indP,List.flatMap_cons,List.flatMap_nil]
  simp
 rw[e,e1,e2,ex_10s,exh_5m,ex_0s]
 rfl
end
section
open Go.RowKit
theorem tokc_results {fn:Func} {p:Tmp} {ty:TypeId} {W:World} {g:Nat} {x0 x1 x2 x3 x4:Value} {tmps:Array Value} (hty:ty=89) (hr:fn.results= #[.cell p ty]) (h:VarL W g [x0,x1,x2,x3,x4]) (hp:tmps.getD p undef= .pointer (some ⟨g,0,none⟩)):(results fn tmps).run Tryz.prog W= .ok (.agg #[x0,x1,x2,x3,x4]) W:=by
 subst hty
 have e:(asAddr (Value.pointer (some ⟨g,0,none⟩))).run Tryz.prog W= .ok ⟨g,0,none⟩ W:=rfl
 have hp':tmps[p]?.getD undef= .pointer (some ⟨g,0,none⟩):=by simpa using hp
 have e2:(loadVar 89 ⟨g,0,none⟩).run Tryz.prog W= .ok (.agg #[x0,x1,x2,x3,x4]) W:=by
  have c0:=h.c 0 rfl
  have c1:=h.c 1 rfl
  have c2:=h.c 2 rfl
  have c3:=h.c 3 rfl
  have c4:=h.c 4 rfl
  clear h
  go_simp
 simp only[results,hr]
 simp[Sem.run_bind,Result.andThen,hp',e,e2]
theorem itmc_results {fn:Func} {p:Tmp} {ty:TypeId} {W:World} {g:Nat} {x0 x1 x2 x3 x4 x5:Value} {tmps:Array Value} (hty:ty=47) (hr:fn.results= #[.cell p ty]) (h:VarL W g [x0,x1,x2,x3,x4,x5]) (hp:tmps.getD p undef= .pointer (some ⟨g,0,none⟩)):(results fn tmps).run Tryz.prog W= .ok (.agg #[x0,x1,x2,x3,x4,x5]) W:=by
 subst hty
 have e:(asAddr (Value.pointer (some ⟨g,0,none⟩))).run Tryz.prog W= .ok ⟨g,0,none⟩ W:=rfl
 have hp':tmps[p]?.getD undef= .pointer (some ⟨g,0,none⟩):=by simpa using hp
 have e2:(loadVar 47 ⟨g,0,none⟩).run Tryz.prog W= .ok (.agg #[x0,x1,x2,x3,x4,x5]) W:=by
  have c0:=h.c 0 rfl
  have c1:=h.c 1 rfl
  have c2:=h.c 2 rfl
  have c3:=h.c 3 rfl
  have c4:=h.c 4 rfl
  have c5:=h.c 5 rfl
  clear h
  go_simp
 simp only[results,hr]
 simp[Sem.run_bind,Result.andThen,hp',e,e2]
def tokL (k:Int) (s:ByteArray) (n:Int):List Value:= [.int .i64 k, .string s, .int .u64 n, .int .i64 0, .int .i64 0]
def tokZ:List Value:= [.int .i64 0, .string ⟨#[]⟩, .int .u64 0, .int .i64 0, .int .i64 0]
def itmZ:List Value:= [.string ⟨#[]⟩, .slice none 0 0, .bool false, .slice none 0 0, .int .i64 0, .int .i64 0]
theorem nw_int64 (k n:Int) (w:World) (h0:0≤n) (h1:n≤9223372036854775807):Calls Tryz.prog 157 #[.int .i64 k, .int .i64 n] w fun e w'=>e= .returned (.agg #[.int .i64 k, .string ⟨#[]⟩, .int .u64 n, .int .i64 0, .int .i64 0])∧Below w.heap.size w w':=by
 have hwr:IntKind.u64.wrap n=n:=by rw[IntKind.wrap_u64];omega
 obtain⟨g,W1,hg,hW1,V1,b1,z1⟩:=boxL w [.int .i64 0, .string ⟨#[]⟩, .int .u64 0, .int .i64 0, .int .i64 0] 89
 have c0:=V1.c 0 rfl
 have q0:=V1.q 0 rfl
 have c1:=V1.c 1 rfl
 have q1:=V1.q 1 rfl
 have c2:=V1.c 2 rfl
 have q2:=V1.q 2 rfl
 have c3:=V1.c 3 rfl
 have q3:=V1.q 3 rfl
 have c4:=V1.c 4 rfl
 have q4:=V1.q 4 rfl
 obtain⟨W2,hW2⟩: ∃W2,putL g 0 [.int .i64 k, .string ⟨#[]⟩, .int .u64 n, .int .i64 0, .int .i64 0] W1=W2:=⟨_,rfl⟩
 have HV2:Hid (VarL W2 g [.int .i64 k, .string ⟨#[]⟩, .int .u64 n, .int .i64 0, .int .i64 0]):=Lh (by rw[←hW2];exact putL_var [.int .i64 k, .string ⟨#[]⟩, .int .u64 n, .int .i64 0, .int .i64 0] [] [.int .i64 0, .string ⟨#[]⟩, .int .u64 0, .int .i64 0, .int .i64 0] W1 V1 rfl)
 have HB2:Hid (Below w.heap.size w W2):=Lh (by rw[←hW2];exact putL_below _ (by omega) _ _ b1)
 simp only[putL,Ly]at hW2
 clear b1 z1 V1
 go_enter Tryz.func157,Tryz.ntmps157
 go_wp2
 refine bodyPost_ret (tokc_results rfl rfl HV2.out rfl) rfl ?_
 exact⟨rfl,HB2.out⟩
theorem nw_int (k n:Int) (w:World) (h0:0≤n) (h1:n≤9223372036854775807):Calls Tryz.prog 160 #[.int .i64 k, .int .i64 n] w fun e w'=>e= .returned (.agg #[.int .i64 k, .string ⟨#[]⟩, .int .u64 n, .int .i64 0, .int .i64 0])∧Below w.heap.size w w':=by
 have hwr:IntKind.u64.wrap n=n:=by rw[IntKind.wrap_u64];omega
 obtain⟨g,W1,hg,hW1,V1,b1,z1⟩:=boxL w [.int .i64 0, .string ⟨#[]⟩, .int .u64 0, .int .i64 0, .int .i64 0] 89
 have c0:=V1.c 0 rfl
 have q0:=V1.q 0 rfl
 have c1:=V1.c 1 rfl
 have q1:=V1.q 1 rfl
 have c2:=V1.c 2 rfl
 have q2:=V1.q 2 rfl
 have c3:=V1.c 3 rfl
 have q3:=V1.q 3 rfl
 have c4:=V1.c 4 rfl
 have q4:=V1.q 4 rfl
 obtain⟨W2,hW2⟩: ∃W2,putL g 0 [.int .i64 k, .string ⟨#[]⟩, .int .u64 n, .int .i64 0, .int .i64 0] W1=W2:=⟨_,rfl⟩
 have HV2:Hid (VarL W2 g [.int .i64 k, .string ⟨#[]⟩, .int .u64 n, .int .i64 0, .int .i64 0]):=Lh (by rw[←hW2];exact putL_var [.int .i64 k, .string ⟨#[]⟩, .int .u64 n, .int .i64 0, .int .i64 0] [] [.int .i64 0, .string ⟨#[]⟩, .int .u64 0, .int .i64 0, .int .i64 0] W1 V1 rfl)
 have HB2:Hid (Below w.heap.size w W2):=Lh (by rw[←hW2];exact putL_below _ (by omega) _ _ b1)
 simp only[putL,Ly]at hW2
 clear b1 z1 V1
 go_enter Tryz.func160,Tryz.ntmps160
 go_wp2
 refine bodyPost_ret (tokc_results rfl rfl HV2.out rfl) rfl ?_
 exact⟨rfl,HB2.out⟩
theorem line_any (s:ByteArray) (a:Option Addr) (l c:Nat) (w:World):Calls Tryz.prog 97 #[.string s, .slice a l c] w fun e w'=>e= .returned (.agg #[.string s, .slice a l c, .bool false, .slice none 0 0, .int .i64 0, .int .i64 0])∧Below w.heap.size w w':=by
 obtain⟨g,W1,hg,hW1,V1,b1,z1⟩:=boxL w [.string ⟨#[]⟩, .slice none 0 0, .bool false, .slice none 0 0, .int .i64 0, .int .i64 0] 47
 have c0:=V1.c 0 rfl
 have q0:=V1.q 0 rfl
 have c1:=V1.c 1 rfl
 have q1:=V1.q 1 rfl
 have c2:=V1.c 2 rfl
 have q2:=V1.q 2 rfl
 have c3:=V1.c 3 rfl
 have q3:=V1.q 3 rfl
 have c4:=V1.c 4 rfl
 have q4:=V1.q 4 rfl
 have c5:=V1.c 5 rfl
 have q5:=V1.q 5 rfl
 obtain⟨W2,hW2⟩: ∃W2,putL g 0 [.string s, .slice a l c, .bool false, .slice none 0 0, .int .i64 0, .int .i64 0] W1=W2:=⟨_,rfl⟩
 have HV2:Hid (VarL W2 g [.string s, .slice a l c, .bool false, .slice none 0 0, .int .i64 0, .int .i64 0]):=Lh (by rw[←hW2];exact putL_var [.string s, .slice a l c, .bool false, .slice none 0 0, .int .i64 0, .int .i64 0] [] [.string ⟨#[]⟩, .slice none 0 0, .bool false, .slice none 0 0, .int .i64 0, .int .i64 0] W1 V1 rfl)
 have HB2:Hid (Below w.heap.size w W2):=Lh (by rw[←hW2];exact putL_below _ (by omega) _ _ b1)
 simp only[putL,Ly]at hW2
 clear b1 z1 V1
 go_enter Tryz.func97,Tryz.ntmps97
 go_wp2
 refine bodyPost_ret (itmc_results rfl rfl HV2.out rfl) rfl ?_
 exact⟨rfl,HB2.out⟩
theorem block_any (s:ByteArray) (a ka:Option Addr) (l c kl kc:Nat) (w:World):Calls Tryz.prog 104 #[.string s, .slice ka kl kc, .slice a l c] w fun e w'=>e= .returned (.agg #[.string s, .slice a l c, .bool true, .slice ka kl kc, .int .i64 0, .int .i64 0])∧Below w.heap.size w w':=by
 obtain⟨g,W1,hg,hW1,V1,b1,z1⟩:=boxL w [.string ⟨#[]⟩, .slice none 0 0, .bool false, .slice none 0 0, .int .i64 0, .int .i64 0] 47
 have c0:=V1.c 0 rfl
 have q0:=V1.q 0 rfl
 have c1:=V1.c 1 rfl
 have q1:=V1.q 1 rfl
 have c2:=V1.c 2 rfl
 have q2:=V1.q 2 rfl
 have c3:=V1.c 3 rfl
 have q3:=V1.q 3 rfl
 have c4:=V1.c 4 rfl
 have q4:=V1.q 4 rfl
 have c5:=V1.c 5 rfl
 have q5:=V1.q 5 rfl
 obtain⟨W2,hW2⟩: ∃W2,putL g 0 [.string s, .slice a l c, .bool true, .slice ka kl kc, .int .i64 0, .int .i64 0] W1=W2:=⟨_,rfl⟩
 have HV2:Hid (VarL W2 g [.string s, .slice a l c, .bool true, .slice ka kl kc, .int .i64 0, .int .i64 0]):=Lh (by rw[←hW2];exact putL_var [.string s, .slice a l c, .bool true, .slice ka kl kc, .int .i64 0, .int .i64 0] [] [.string ⟨#[]⟩, .slice none 0 0, .bool false, .slice none 0 0, .int .i64 0, .int .i64 0] W1 V1 rfl)
 have HB2:Hid (Below w.heap.size w W2):=Lh (by rw[←hW2];exact putL_below _ (by omega) _ _ b1)
 simp only[putL,Ly]at hW2
 clear b1 z1 V1
 go_enter Tryz.func104,Tryz.ntmps104
 go_wp2
 refine bodyPost_ret (itmc_results rfl rfl HV2.out rfl) rfl ?_
 exact⟨rfl,HB2.out⟩
def OneWd (base:Nat) (s:ByteArray) (k n:Int) (v:Value) (w:World):Prop:= ∃b,v= .agg #[.string s, .slice (some ⟨b,0,none⟩) 1 1, .bool false, .slice none 0 0, .int .i64 0, .int .i64 0]∧base≤b∧VarL w b (tokL k ⟨#[]⟩ n)
theorem OneWd.after {base:Nat} {s:ByteArray} {k n:Int} {v:Value} {w w':World} (h:OneWd base s k n v w) (hb:Below w.heap.size w w'):OneWd base s k n v w':=by
 obtain⟨b,e,h1,h2⟩:=h
 exact⟨b,e,h1,h2.after hb⟩
theorem wspan_any (s:ByteArray) (n:Int) (w:World) (h0:0≤n) (h1:n≤9223372036854775807):Calls Tryz.prog 99 #[.string s, .int .i64 n] w fun e w'=>(∃v,e= .returned v∧OneWd w.heap.size s 6 n v w')∧Below w.heap.size w w':=by
 obtain⟨g,W1,hg,hW1,V1,b1,z1⟩:=boxL w [.string ⟨#[]⟩, .slice none 0 0, .bool false, .slice none 0 0, .int .i64 0, .int .i64 0] 47
 have HNW:=Lh (fun W=>nw_int64 6 n W h0 h1)
 have HV1:=Lh V1
 have HB1:=Lh b1
 have HZ:Hid (w.heap.size≤g):=Lh (by omega)
 clear b1 z1 V1 h0 h1
 go_enter Tryz.func99,Tryz.ntmps99
 go_wp2_with (go_at_call 157;(with_reducible refine(HNW.out _).mono ?_);rintro e W2 ⟨rfl,h2⟩;have HB2:=Lh h2;clear h2;obtain⟨sb,W3,hsb,hW3,V3,b3,z3⟩:=boxL W2 [.int .i64 6, .string ⟨#[]⟩, .int .u64 n, .int .i64 0, .int .i64 0] 89;have HV3:=Lh V3;have HB3:=Lh b3;clear V3 b3 z3)
 go_wp2_with (go_at_call 97;(with_reducible refine(line_any s (some ⟨sb,0,none⟩) 1 1 _).mono ?_);rintro e W4 ⟨rfl,h4⟩;have HB4:=Lh h4;clear h4;have V4:=Lh ((((HV1.out.after HB2.out).after HB3.out).after HB4.out));have c0:=V4.out.c 0 rfl;have q0:=V4.out.q 0 rfl;have c1:=V4.out.c 1 rfl;have q1:=V4.out.q 1 rfl;have c2:=V4.out.c 2 rfl;have q2:=V4.out.q 2 rfl;have c3:=V4.out.c 3 rfl;have q3:=V4.out.q 3 rfl;have c4:=V4.out.c 4 rfl;have q4:=V4.out.q 4 rfl;have c5:=V4.out.c 5 rfl;have q5:=V4.out.q 5 rfl;obtain⟨W5,hW5⟩: ∃W5,putL g 0 [.string s, .slice (some ⟨sb,0,none⟩) 1 1, .bool false, .slice none 0 0, .int .i64 0, .int .i64 0] W4=W5:=⟨_,rfl⟩;have HV5:Hid (VarL W5 g [.string s, .slice (some ⟨sb,0,none⟩) 1 1, .bool false, .slice none 0 0, .int .i64 0, .int .i64 0]):=Lh (by rw[←hW5];exact putL_var [.string s, .slice (some ⟨sb,0,none⟩) 1 1, .bool false, .slice none 0 0, .int .i64 0, .int .i64 0] [] [.string ⟨#[]⟩, .slice none 0 0, .bool false, .slice none 0 0, .int .i64 0, .int .i64 0] W4 V4.out rfl);have HB5:Hid (Below w.heap.size w W5):=Lh (by rw[←hW5];exact putL_below _ HZ.out _ _ (below_step HB1.out (below_step HB2.out (below_step HB3.out HB4.out))));have HK5:Hid (W5.heap[sb]?=W4.heap[sb]?):=Lh (by rw[←hW5];exact putL_else _ _ _ _ _ (by have:=HV1.out.s;have:=HB2.out.size;omega));simp only[putL,Ly]at hW5)
 refine bodyPost_ret (itmc_results rfl rfl HV5.out rfl) rfl ?_
 exact⟨⟨_,rfl,sb,rfl,by have:=HB1.out.size;have:=HB2.out.size;omega,(HV3.out.after HB4.out).stay HK5.out⟩,HB5.out⟩
theorem wcount_any (s:ByteArray) (n:Int) (w:World) (h0:0≤n) (h1:n≤9223372036854775807):Calls Tryz.prog 105 #[.string s, .int .i64 n] w fun e w'=>(∃v,e= .returned v∧OneWd w.heap.size s 3 n v w')∧Below w.heap.size w w':=by
 obtain⟨g,W1,hg,hW1,V1,b1,z1⟩:=boxL w [.string ⟨#[]⟩, .slice none 0 0, .bool false, .slice none 0 0, .int .i64 0, .int .i64 0] 47
 have HNW:=Lh (fun W=>nw_int 3 n W h0 h1)
 have HV1:=Lh V1
 have HB1:=Lh b1
 have HZ:Hid (w.heap.size≤g):=Lh (by omega)
 clear b1 z1 V1 h0 h1
 go_enter Tryz.func105,Tryz.ntmps105
 go_wp2_with (go_at_call 160;(with_reducible refine(HNW.out _).mono ?_);rintro e W2 ⟨rfl,h2⟩;have HB2:=Lh h2;clear h2;obtain⟨sb,W3,hsb,hW3,V3,b3,z3⟩:=boxL W2 [.int .i64 3, .string ⟨#[]⟩, .int .u64 n, .int .i64 0, .int .i64 0] 89;have HV3:=Lh V3;have HB3:=Lh b3;clear V3 b3 z3)
 go_wp2_with (go_at_call 97;(with_reducible refine(line_any s (some ⟨sb,0,none⟩) 1 1 _).mono ?_);rintro e W4 ⟨rfl,h4⟩;have HB4:=Lh h4;clear h4;have V4:=Lh ((((HV1.out.after HB2.out).after HB3.out).after HB4.out));have c0:=V4.out.c 0 rfl;have q0:=V4.out.q 0 rfl;have c1:=V4.out.c 1 rfl;have q1:=V4.out.q 1 rfl;have c2:=V4.out.c 2 rfl;have q2:=V4.out.q 2 rfl;have c3:=V4.out.c 3 rfl;have q3:=V4.out.q 3 rfl;have c4:=V4.out.c 4 rfl;have q4:=V4.out.q 4 rfl;have c5:=V4.out.c 5 rfl;have q5:=V4.out.q 5 rfl;obtain⟨W5,hW5⟩: ∃W5,putL g 0 [.string s, .slice (some ⟨sb,0,none⟩) 1 1, .bool false, .slice none 0 0, .int .i64 0, .int .i64 0] W4=W5:=⟨_,rfl⟩;have HV5:Hid (VarL W5 g [.string s, .slice (some ⟨sb,0,none⟩) 1 1, .bool false, .slice none 0 0, .int .i64 0, .int .i64 0]):=Lh (by rw[←hW5];exact putL_var [.string s, .slice (some ⟨sb,0,none⟩) 1 1, .bool false, .slice none 0 0, .int .i64 0, .int .i64 0] [] [.string ⟨#[]⟩, .slice none 0 0, .bool false, .slice none 0 0, .int .i64 0, .int .i64 0] W4 V4.out rfl);have HB5:Hid (Below w.heap.size w W5):=Lh (by rw[←hW5];exact putL_below _ HZ.out _ _ (below_step HB1.out (below_step HB2.out (below_step HB3.out HB4.out))));have HK5:Hid (W5.heap[sb]?=W4.heap[sb]?):=Lh (by rw[←hW5];exact putL_else _ _ _ _ _ (by have:=HV1.out.s;have:=HB2.out.size;omega));simp only[putL,Ly]at hW5)
 refine bodyPost_ret (itmc_results rfl rfl HV5.out rfl) rfl ?_
 exact⟨⟨_,rfl,sb,rfl,by have:=HB1.out.size;have:=HB2.out.size;omega,(HV3.out.after HB4.out).stay HK5.out⟩,HB5.out⟩
end
end Go.Proofs.YtiapmjkaappcfaaGreatDoor
