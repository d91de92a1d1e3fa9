/-
  CompileReads and CompileTrees: walked.
-/
import Derived.Test.YtalcagmhdppdjaaGreatDoorPkCompileTurns26
set_option maxRecDepth 100000
set_option maxHeartbeats 8000000
namespace Go.Proofs.YtalcagmhdppdjaaGreatDoor
open Lib renaming hid→Lh
open StepsJ renaming cons→Lz
open Go.RowKit.Below renaming refl→Mj
open List renaming getD_eq_getElem?_getD→Mk,getElem?_eq_getElem→Kh,length_append→Kq,take_succ_cons→Kj,length_map→Ky,take_zero→Jh,length_cons→Jq
section
open Go.RowKit
theorem sgoal_yes (g:GlC) (ba bb:Nat) (u1 u2:List Value) (w:World) (h1:GolV w ba u1 g) (h2:GolV w bb u2 g) (hn:g.labels.length≤1000000∧g.rules.length≤1000000):Calls Tryz.prog 19 #[.agg u1.toArray, .agg u2.toArray] w fun e w'=>e= .returned (.bool true)∧Below w.heap.size w w':=by
 obtain⟨lv1,rv1,rfl,hl1,hr1⟩:=h1
 obtain⟨lv2,rv2,rfl,hl2,hr2⟩:=h2
 obtain⟨nm,tg,gr,la,ro,ca,L,R⟩:=g
 simp only at hl1 hr1 hl2 hr2 hn
 obtain⟨l1,l2,e1⟩:=hl1.size
 obtain⟨r1,r2,e2⟩:=hr1.size
 obtain⟨k1,k2,e3⟩:=hl2.size
 obtain⟨s1,s2,e4⟩:=hr2.size
 rw[Ky]at e1 e2 e3 e4
 obtain⟨n,hnn⟩: ∃n,L.length=n:=⟨_,rfl⟩
 obtain⟨m,hmm⟩: ∃m,R.length=m:=⟨_,rfl⟩
 rw[hnn]at e1 e3 hn
 rw[hmm]at e2 e4 hn
 subst e1 e2 e3 e4
 have HL1:=Lh hl1
 have HL2:=Lh hl2
 have HR1:=Lh hr1
 have HR2:=Lh hr2
 have HN:=Lh hnn
 have HM:=Lh hmm
 have HNM:=Lh hn
 obtain⟨p1,W1,hp1,hW1,V1,b1,z1⟩:=boxL w [.string nm, .int .u32 tg, .int .i64 gr, .int .i64 la, .int .i64 ro, .int .i64 ca, .slice l1 n l2, .slice r1 m r2] 54
 obtain⟨p2,W2,hp2,hW2,V2,b2,z2⟩:=boxL W1 [.string nm, .int .u32 tg, .int .i64 gr, .int .i64 la, .int .i64 ro, .int .i64 ca, .slice k1 n k2, .slice s1 m s2] 54
 have HP1:=Lh (V1.after b2)
 have HP2:=Lh V2
 have HB02:=Lh (below_step b1 b2)
 have x0:=HP1.out.c 0 rfl
 have y0:=HP2.out.c 0 rfl
 have x1:=HP1.out.c 1 rfl
 have y1:=HP2.out.c 1 rfl
 have x2:=HP1.out.c 2 rfl
 have y2:=HP2.out.c 2 rfl
 have x3:=HP1.out.c 3 rfl
 have y3:=HP2.out.c 3 rfl
 have x4:=HP1.out.c 4 rfl
 have y4:=HP2.out.c 4 rfl
 have x5:=HP1.out.c 5 rfl
 have y5:=HP2.out.c 5 rfl
 have x6:=HP1.out.c 6 rfl
 have y6:=HP2.out.c 6 rfl
 have x7:=HP1.out.c 7 rfl
 have y7:=HP2.out.c 7 rfl
 clear hl1 hl2 hr1 hr2 hnn hmm hn V1 b1 z1 V2 b2 z2
 show Calls Tryz.prog 19 #[.agg #[.string nm, .int .u32 tg, .int .i64 gr, .int .i64 la, .int .i64 ro, .int .i64 ca, .slice l1 n l2, .slice r1 m r2], .agg #[.string nm, .int .u32 tg, .int .i64 gr, .int .i64 la, .int .i64 ro, .int .i64 ca, .slice k1 n k2, .slice s1 m s2]] w _
 go_enter Tryz.func19,Tryz.ntmps19
 go_wp2
 clear x0 y0 x1 y1 x2 y2 x3 y3 x4 y4 x5 y5 x6 y6 x7 y7 hp1 hW1 hp2 hW2
 go_loopw [5] (fun v5 wr=> ∃i,i≤n∧v5= .int .i64 (i:Int)∧Below w.heap.size w wr∧Below W2.heap.size W2 wr) (fun v5 _=>n-(intOf v5).toNat)
 case atStart=>exact⟨0,Nat.zero_le _,rfl,HB02.out,Mj _ _⟩
 case round=>
  obtain⟨wo,rfl⟩: ∃y,y=wr:=⟨wr,rfl⟩
  obtain⟨i,hi,rfl,hb,hb2⟩:=hrel
  have HB:=Lh hb
  have HB2o:=Lh hb2
  clear hb hb2
  have d6:=(HP1.out.after HB2o.out).c 6 rfl
  have g6:=(HP2.out.after HB2o.out).c 6 rfl
  by_cases hin:i<n
  ·have q1':=HL1.out.below HB.out
   have q2':=HL2.out.below HB.out
   have hl:i<(L.map labV).length:=by rw[Ky,HN.out];exact hin
   obtain⟨rg,rk,hrv,_,hrl,_⟩:=q1'.form (by omega)
   obtain⟨sg,sk,hsv,_,hsl,_⟩:=q2'.form (by omega)
   injection hrv with hra hnn1 hrk
   injection hsv with hsa hnn2 hsk
   clear hnn1 hnn2
   subst hra hrk hsa hsk
   obtain⟨f,hf⟩: ∃f,L[i]?=some f:=⟨_,Kh (by rw[HN.out];exact hin)⟩
   have ef:(L.map labV).getD i []=labV f:=by rw[Mk,List.getElem?_map,hf];rfl
   have q1: ∀j,j<2→wo.cell? ⟨rg,i*2+j,none⟩=some ((labV f).getD j undef):=fun j hj=>by have:=q1'.at i j hl hj;rw[ef]at this;exact this
   have q2: ∀j,j<2→wo.cell? ⟨sg,i*2+j,none⟩=some ((labV f).getD j undef):=fun j hj=>by have:=q2'.at i j hl hj;rw[ef]at this;exact this
   have a0:wo.cell? ⟨rg,i*2,none⟩=some (.string f.1):=q1 0 (by decide)
   have b0:wo.cell? ⟨sg,i*2,none⟩=some (.string f.1):=q2 0 (by decide)
   have a1:wo.cell? ⟨rg,i*2+1,none⟩=some (.string f.2):=q1 1 (by decide)
   have b1:wo.cell? ⟨sg,i*2+1,none⟩=some (.string f.2):=q2 1 (by decide)
   have hi1:IntKind.i64.wrap ((i:Int)+1)=((i+1:Nat):Int):=by rw[IntKind.wrap_i64];have:=HNM.out;omega
   clear q1 q2 q1' q2' hl hrl hsl hf ef
   go_wp2
   go_quiet (fail)
   have HB3:Hid (Below w.heap.size w (wo.drewN nq)):=Lh (below_step HB.out (Go.below_drewN (Mj _ _) nq))
   have HB4:Hid (Below W2.heap.size W2 (wo.drewN nq)):=Lh (below_step HB2o.out (Go.below_drewN (Mj _ _) nq))
   generalize wo.drewN nq=W3 at HB3 HB4 ⊢
   clear a0 b0 a1 b1 d6 g6
   go_wp2
   go_roundw
   case rel=>exact⟨i+1,by omega,rfl,HB3.out,HB4.out⟩
   case measure=>simp[intOf];omega
  ·have en:n=i:=by omega
   subst en
   go_wp2
   clear d6 g6
   go_loopw [6] (fun v6 wr=> ∃i,i≤m∧v6= .int .i64 (i:Int)∧Below w.heap.size w wr∧Below W2.heap.size W2 wr) (fun v6 _=>m-(intOf v6).toNat)
   case atStart=>exact⟨0,Nat.zero_le _,rfl,HB.out,HB2o.out⟩
   case round=>
    obtain⟨wo,rfl⟩: ∃y,y=wr:=⟨wr,rfl⟩
    obtain⟨i,hi,rfl,hb,hb2⟩:=hrel
    have HB:=Lh hb
    have HB2o:=Lh hb2
    clear hb hb2
    have d7:=(HP1.out.after HB2o.out).c 7 rfl
    have g7:=(HP2.out.after HB2o.out).c 7 rfl
    by_cases hin:i<m
    ·have q1':=HR1.out.below HB.out
     have q2':=HR2.out.below HB.out
     have hl:i<(R.map rulV).length:=by rw[Ky,HM.out];exact hin
     obtain⟨rg,rk,hrv,_,hrl,_⟩:=q1'.form (by omega)
     obtain⟨sg,sk,hsv,_,hsl,_⟩:=q2'.form (by omega)
     injection hrv with hra hnn1 hrk
     injection hsv with hsa hnn2 hsk
     clear hnn1 hnn2
     subst hra hrk hsa hsk
     obtain⟨f,hf⟩: ∃f,R[i]?=some f:=⟨_,Kh (by rw[HM.out];exact hin)⟩
     have ef:(R.map rulV).getD i []=rulV f:=by rw[Mk,List.getElem?_map,hf];rfl
     have q1: ∀j,j<7→wo.cell? ⟨rg,i*7+j,none⟩=some ((rulV f).getD j undef):=fun j hj=>by have:=q1'.at i j hl hj;rw[ef]at this;exact this
     have q2: ∀j,j<7→wo.cell? ⟨sg,i*7+j,none⟩=some ((rulV f).getD j undef):=fun j hj=>by have:=q2'.at i j hl hj;rw[ef]at this;exact this
     have a0:wo.cell? ⟨rg,i*7,none⟩=some (.string f.name):=q1 0 (by decide)
     have b0:wo.cell? ⟨sg,i*7,none⟩=some (.string f.name):=q2 0 (by decide)
     have a1:wo.cell? ⟨rg,i*7+1,none⟩=some (.bool f.page):=q1 1 (by decide)
     have b1:wo.cell? ⟨sg,i*7+1,none⟩=some (.bool f.page):=q2 1 (by decide)
     have a2:wo.cell? ⟨rg,i*7+2,none⟩=some (.int .i64 f.long):=q1 2 (by decide)
     have b2:wo.cell? ⟨sg,i*7+2,none⟩=some (.int .i64 f.long):=q2 2 (by decide)
     have a3:wo.cell? ⟨rg,i*7+3,none⟩=some (.int .i64 f.short):=q1 3 (by decide)
     have b3:wo.cell? ⟨sg,i*7+3,none⟩=some (.int .i64 f.short):=q2 3 (by decide)
     have a4:wo.cell? ⟨rg,i*7+4,none⟩=some (.int .u64 f.factor):=q1 4 (by decide)
     have b4:wo.cell? ⟨sg,i*7+4,none⟩=some (.int .u64 f.factor):=q2 4 (by decide)
     have a5:wo.cell? ⟨rg,i*7+5,none⟩=some (.int .i64 f.hold):=q1 5 (by decide)
     have b5:wo.cell? ⟨sg,i*7+5,none⟩=some (.int .i64 f.hold):=q2 5 (by decide)
     have a6:wo.cell? ⟨rg,i*7+6,none⟩=some (.int .i64 f.keep):=q1 6 (by decide)
     have b6:wo.cell? ⟨sg,i*7+6,none⟩=some (.int .i64 f.keep):=q2 6 (by decide)
     have hi1:IntKind.i64.wrap ((i:Int)+1)=((i+1:Nat):Int):=by rw[IntKind.wrap_i64];have:=HNM.out;omega
     clear q1 q2 q1' q2' hl hrl hsl hf ef
     go_wp2
     go_quiet (fail)
     have HB3:Hid (Below w.heap.size w (wo.drewN nq)):=Lh (below_step HB.out (Go.below_drewN (Mj _ _) nq))
     have HB4:Hid (Below W2.heap.size W2 (wo.drewN nq)):=Lh (below_step HB2o.out (Go.below_drewN (Mj _ _) nq))
     generalize wo.drewN nq=W3 at HB3 HB4 ⊢
     clear a0 b0 a1 b1 a2 b2 a3 b3 a4 b4 a5 b5 a6 b6 d7 g7
     go_wp2
     go_roundw
     case rel=>exact⟨i+1,by omega,rfl,HB3.out,HB4.out⟩
     case measure=>simp[intOf];omega
    ·have en:m=i:=by omega
     subst en
     go_wp2
     go_ret
     exact⟨rfl,HB.out⟩
end
section
open Go.RowKit
theorem same_yes (c:CfC) (ba bb:Nat) (cv dv:Value) (w:World) (h1:ConfV w ba cv c) (h2:ConfV w bb dv c) (hn:c.goals.length≤1000000∧∀g∈c.goals,g.labels.length≤1000000∧g.rules.length≤1000000):Calls Tryz.prog 10 #[cv,dv] w fun e w'=>e= .returned (.bool true)∧Below w.heap.size w w':=by
 obtain⟨gv1,us1,rfl,hr1,hs1,he1⟩:=h1
 obtain⟨gv2,us2,rfl,hr2,hs2,he2⟩:=h2
 obtain⟨gs,c1,c2,c3,c4,c5⟩:=c
 simp only at hs1 he1 hs2 he2 hn
 obtain⟨ga,gc,e1⟩:=hr1.size
 obtain⟨ha,hc,e2⟩:=hr2.size
 obtain⟨n,hnn⟩: ∃n,gs.length=n:=⟨_,rfl⟩
 rw[hnn]at hs1 hs2
 rw[hs1]at e1
 rw[hs2]at e2
 subst e1 e2
 have HR1:=Lh hr1
 have HR2:=Lh hr2
 have HS1:=Lh hs1
 have HS2:=Lh hs2
 have HE1:=Lh he1
 have HE2:=Lh he2
 have HN:=Lh hnn
 have HNM:=Lh hn
 obtain⟨p1,W1,hp1,hW1,V1,b1,z1⟩:=boxL w [.slice ga n gc, .int .i64 c1, .int .i64 c2, .int .i64 c3, .int .i64 c4, .int .i64 c5] 27
 obtain⟨p2,W2,hp2,hW2,V2,b2,z2⟩:=boxL W1 [.slice ha n hc, .int .i64 c1, .int .i64 c2, .int .i64 c3, .int .i64 c4, .int .i64 c5] 27
 have HP1:=Lh (V1.after b2)
 have HP2:=Lh V2
 have HB02:=Lh (below_step b1 b2)
 have x0:=HP1.out.c 0 rfl
 have y0:=HP2.out.c 0 rfl
 have x1:=HP1.out.c 1 rfl
 have y1:=HP2.out.c 1 rfl
 have x2:=HP1.out.c 2 rfl
 have y2:=HP2.out.c 2 rfl
 have x3:=HP1.out.c 3 rfl
 have y3:=HP2.out.c 3 rfl
 have x4:=HP1.out.c 4 rfl
 have y4:=HP2.out.c 4 rfl
 have x5:=HP1.out.c 5 rfl
 have y5:=HP2.out.c 5 rfl
 clear hr1 hr2 hs1 hs2 he1 he2 hnn hn V1 b1 z1 V2 b2 z2
 show Calls Tryz.prog 10 #[.agg #[.slice ga n gc, .int .i64 c1, .int .i64 c2, .int .i64 c3, .int .i64 c4, .int .i64 c5], .agg #[.slice ha n hc, .int .i64 c1, .int .i64 c2, .int .i64 c3, .int .i64 c4, .int .i64 c5]] w _
 go_enter Tryz.func10,Tryz.ntmps10
 go_wp2
 clear x0 y0 x1 y1 x2 y2 x3 y3 x4 y4 x5 y5 hp1 hW1 hp2 hW2
 go_loopw [5] (fun v5 wr=> ∃i,i≤n∧v5= .int .i64 (i:Int)∧Below w.heap.size w wr∧Below W2.heap.size W2 wr) (fun v5 _=>n-(intOf v5).toNat)
 case atStart=>exact⟨0,Nat.zero_le _,rfl,HB02.out,Mj _ _⟩
 case round=>
  obtain⟨wo,rfl⟩: ∃y,y=wr:=⟨wr,rfl⟩
  obtain⟨i,hi,rfl,hb,hb2⟩:=hrel
  have HB:=Lh hb
  have HB2o:=Lh hb2
  clear hb hb2
  have HP1o:=Lh (HP1.out.after HB2o.out)
  have HP2o:=Lh (HP2.out.after HB2o.out)
  have d0:=HP1o.out.c 0 rfl
  by_cases hin:i<n
  ·have q1':=HR1.out.below HB.out
   have q2':=HR2.out.below HB.out
   have hl1:i<us1.length:=by rw[HS1.out];exact hin
   have hl2:i<us2.length:=by rw[HS2.out];exact hin
   obtain⟨rg,rk,hrv,_,hrl,_⟩:=q1'.form (by omega)
   obtain⟨sg,sk,hsv,_,hsl,_⟩:=q2'.form (by omega)
   injection hrv with hra hnn1 hrk
   injection hsv with hsa hnn2 hsk
   clear hnn1 hnn2
   subst hra hrk hsa hsk
   obtain⟨g,hg⟩: ∃g,gs[i]?=some g:=⟨_,Kh (by rw[HN.out];exact hin)⟩
   obtain⟨u1,hu1⟩: ∃u,us1[i]?=some u:=⟨_,Kh hl1⟩
   obtain⟨u2,hu2⟩: ∃u,us2[i]?=some u:=⟨_,Kh hl2⟩
   have hv1:=(HE1.out i u1 g hu1 hg).keepB (w':=wo) (fun b _ h=>HB.out.block b h)
   have hv2:=(HE2.out i u2 g hu2 hg).keepB (w':=wo) (fun b _ h=>HB.out.block b h)
   have hgm:=HNM.out.2 g (List.mem_of_getElem? hg)
   have ef1:us1.getD i []=u1:=by rw[Mk,hu1];rfl
   have ef2:us2.getD i []=u2:=by rw[Mk,hu2];rfl
   have HSG:Hid (∀W,Below wo.heap.size wo W→Calls Tryz.prog 19 #[.agg u1.toArray, .agg u2.toArray] W fun e w'=>e= .returned (.bool true)∧Below W.heap.size W w'):=Lh (fun W hb=>sgoal_yes g ba bb u1 u2 W (hv1.keepB (fun b _ h=>hb.block b h)) (hv2.keepB (fun b _ h=>hb.block b h)) hgm)
   have HA:Hid (∀j,j<8→wo.cell? ⟨rg,i*8+j,none⟩=some (u1.getD j undef)):=Lh (fun j hj=>by have:=q1'.at i j hl1 hj;rw[ef1]at this;exact this)
   have HB8:Hid (∀j,j<8→wo.cell? ⟨sg,i*8+j,none⟩=some (u2.getD j undef)):=Lh (fun j hj=>by have:=q2'.at i j hl2 hj;rw[ef2]at this;exact this)
   obtain⟨lv1,rv1,rfl,t1,t2⟩:=hv1
   obtain⟨lv2,rv2,rfl,t3,t4⟩:=hv2
   obtain⟨nm,tg,gr,la,ro,ca,GL,GR⟩:=g
   simp only at t1 t2 t3 t4
   obtain⟨l1,l2,e1⟩:=t1.size
   obtain⟨r1,r2,e2⟩:=t2.size
   obtain⟨k1,k2,e3⟩:=t3.size
   obtain⟨s1,s2,e4⟩:=t4.size
   rw[Ky]at e1 e2 e3 e4
   obtain⟨n1,hnn1⟩: ∃n,GL.length=n:=⟨_,rfl⟩
   obtain⟨m1,hmm1⟩: ∃m,GR.length=m:=⟨_,rfl⟩
   rw[hnn1]at e1 e3
   rw[hmm1]at e2 e4
   subst e1 e2 e3 e4
   have HRL:=Lh hrl
   have HSL:=Lh hsl
   have HSG2:Hid (∀W,Below wo.heap.size wo W→Calls Tryz.prog 19 #[.agg #[.string nm, .int .u32 tg, .int .i64 gr, .int .i64 la, .int .i64 ro, .int .i64 ca, .slice l1 n1 l2, .slice r1 m1 r2], .agg #[.string nm, .int .u32 tg, .int .i64 gr, .int .i64 la, .int .i64 ro, .int .i64 ca, .slice k1 n1 k2, .slice s1 m1 s2]] W fun e w'=>e= .returned (.bool true)∧Below W.heap.size W w'):=HSG
   unfold golL at HA HB8
   have hi1:IntKind.i64.wrap ((i:Int)+1)=((i+1:Nat):Int):=by rw[IntKind.wrap_i64];have:=HNM.out.1;have:=HN.out;omega
   clear q1' q2' hl1 hl2 hrl hsl hg hu1 hu2 hgm ef1 ef2 HSG t1 t2 t3 t4 hnn1 hmm1
   go_wp2
   clear d0
   refine wp_region_mixj 10 (TLst [.pointer (some ⟨p1,0,none⟩), .slice (some ⟨rg,0,none⟩) n gc, .int .i64 (i:Int), .pointer (some ⟨rg,i*8,none⟩), .agg #[.string nm, .int .u32 tg, .int .i64 gr, .int .i64 la, .int .i64 ro, .int .i64 ca, .slice l1 n1 l2, .slice r1 m1 r2], .pointer (some ⟨p2,0,none⟩), .slice (some ⟨sg,0,none⟩) n hc, .int .i64 (i:Int), .pointer (some ⟨sg,i*8,none⟩), .agg #[.string nm, .int .u32 tg, .int .i64 gr, .int .i64 la, .int .i64 ro, .int .i64 ca, .slice k1 n1 k2, .slice s1 m1 s2]]) (fun _ V=>Below wo.heap.size wo V) (by kernel_rfl) (by kernel_rfl) (Mj _ _).drew ?_ ?_
   ·simp only[Kj,Jh]
    refine(Lz ?_ (Lz ?_ (Lz ?_ (Lz ?_ (Lz ?_ (Lz ?_ (Lz ?_ (Lz ?_ (Lz ?_ (Lz ?_ StepsJ.nil))))))))))
    all_goals(intro u0 W8 L hL hj hd;simp only[putAll,Act.put,List.setIfInBounds_toArray,List.set_cons_succ,List.set_cons_zero,Nat.zero_add,Nat.reduceAdd])
    ·have hj1:=hj
     go_wp2
     first|exact hj1|exact rfl|exact⟨rfl,hj1⟩|exact⟨rfl,hj1,k4⟩|exact⟨_,rfl,rfl,hj1,k4⟩
    ·have e0:u0 0= .pointer (some ⟨p1,0,none⟩):=(hd.1 rfl (by decide)).2
     have d0:=(HP1o.out.after hj).c 0 rfl
     rw[e0]
     have hj1:=hj
     go_wp2
     first|exact hj1|exact rfl|exact⟨rfl,hj1⟩|exact⟨rfl,hj1,k4⟩|exact⟨_,rfl,rfl,hj1,k4⟩
    ·have hj1:=hj
     go_wp2
     first|exact hj1|exact rfl|exact⟨rfl,hj1⟩|exact⟨rfl,hj1,k4⟩|exact⟨_,rfl,rfl,hj1,k4⟩
    ·have e1:u0 1= .slice (some ⟨rg,0,none⟩) n gc:=(hd.1 rfl (by decide)).2
     have e2:u0 2= .int .i64 (i:Int):=(hd.2.1 rfl (by decide)).2
     rw[e1,e2]
     have hj1:=hj
     go_wp2
     first|exact hj1|exact rfl|exact⟨rfl,hj1⟩|exact⟨rfl,hj1,k4⟩|exact⟨_,rfl,rfl,hj1,k4⟩
    ·have e3:u0 3= .pointer (some ⟨rg,i*8,none⟩):=(hd.1 rfl (by decide)).2
     have a0:=(hj.cell (p:=⟨rg,i*8,none⟩) HRL.out).trans (HA.out 0 (by decide))
     have a1:=(hj.cell (p:=⟨rg,i*8+1,none⟩) HRL.out).trans (HA.out 1 (by decide))
     have a2:=(hj.cell (p:=⟨rg,i*8+2,none⟩) HRL.out).trans (HA.out 2 (by decide))
     have a3:=(hj.cell (p:=⟨rg,i*8+3,none⟩) HRL.out).trans (HA.out 3 (by decide))
     have a4:=(hj.cell (p:=⟨rg,i*8+4,none⟩) HRL.out).trans (HA.out 4 (by decide))
     have a5:=(hj.cell (p:=⟨rg,i*8+5,none⟩) HRL.out).trans (HA.out 5 (by decide))
     have a6:=(hj.cell (p:=⟨rg,i*8+6,none⟩) HRL.out).trans (HA.out 6 (by decide))
     have a7:=(hj.cell (p:=⟨rg,i*8+7,none⟩) HRL.out).trans (HA.out 7 (by decide))
     simp only[List.getD_cons_zero,List.getD_cons_succ]at a0 a1 a2 a3 a4 a5 a6 a7
     rw[e3]
     have hj1:=hj
     go_wp2
     first|exact hj1|exact rfl|exact⟨rfl,hj1⟩|exact⟨rfl,hj1,k4⟩|exact⟨_,rfl,rfl,hj1,k4⟩
    ·have hj1:=hj
     go_wp2
     first|exact hj1|exact rfl|exact⟨rfl,hj1⟩|exact⟨rfl,hj1,k4⟩|exact⟨_,rfl,rfl,hj1,k4⟩
    ·have e5:u0 5= .pointer (some ⟨p2,0,none⟩):=(hd.1 rfl (by decide)).2
     have g0:=(HP2o.out.after hj).c 0 rfl
     rw[e5]
     have hj1:=hj
     go_wp2
     first|exact hj1|exact rfl|exact⟨rfl,hj1⟩|exact⟨rfl,hj1,k4⟩|exact⟨_,rfl,rfl,hj1,k4⟩
    ·have hj1:=hj
     go_wp2
     first|exact hj1|exact rfl|exact⟨rfl,hj1⟩|exact⟨rfl,hj1,k4⟩|exact⟨_,rfl,rfl,hj1,k4⟩
    ·have e6:u0 6= .slice (some ⟨sg,0,none⟩) n hc:=(hd.1 rfl (by decide)).2
     have e7:u0 7= .int .i64 (i:Int):=(hd.2.1 rfl (by decide)).2
     rw[e6,e7]
     have hj1:=hj
     go_wp2
     first|exact hj1|exact rfl|exact⟨rfl,hj1⟩|exact⟨rfl,hj1,k4⟩|exact⟨_,rfl,rfl,hj1,k4⟩
    ·have e8:u0 8= .pointer (some ⟨sg,i*8,none⟩):=(hd.1 rfl (by decide)).2
     have a0:=(hj.cell (p:=⟨sg,i*8,none⟩) HSL.out).trans (HB8.out 0 (by decide))
     have a1:=(hj.cell (p:=⟨sg,i*8+1,none⟩) HSL.out).trans (HB8.out 1 (by decide))
     have a2:=(hj.cell (p:=⟨sg,i*8+2,none⟩) HSL.out).trans (HB8.out 2 (by decide))
     have a3:=(hj.cell (p:=⟨sg,i*8+3,none⟩) HSL.out).trans (HB8.out 3 (by decide))
     have a4:=(hj.cell (p:=⟨sg,i*8+4,none⟩) HSL.out).trans (HB8.out 4 (by decide))
     have a5:=(hj.cell (p:=⟨sg,i*8+5,none⟩) HSL.out).trans (HB8.out 5 (by decide))
     have a6:=(hj.cell (p:=⟨sg,i*8+6,none⟩) HSL.out).trans (HB8.out 6 (by decide))
     have a7:=(hj.cell (p:=⟨sg,i*8+7,none⟩) HSL.out).trans (HB8.out 7 (by decide))
     simp only[List.getD_cons_zero,List.getD_cons_succ]at a0 a1 a2 a3 a4 a5 a6 a7
     rw[e8]
     have hj1:=hj
     go_wp2
     first|exact hj1|exact rfl|exact⟨rfl,hj1⟩|exact⟨rfl,hj1,k4⟩|exact⟨_,rfl,rfl,hj1,k4⟩
   ·intro u0 W8 L hall hb ht
    have e4:u0 4= .agg #[.string nm, .int .u32 tg, .int .i64 gr, .int .i64 la, .int .i64 ro, .int .i64 ca, .slice l1 n1 l2, .slice r1 m1 r2]:=ht 4 (by decide)
    have e9:u0 9= .agg #[.string nm, .int .u32 tg, .int .i64 gr, .int .i64 la, .int .i64 ro, .int .i64 ca, .slice k1 n1 k2, .slice s1 m1 s2]:=ht 9 (by decide)
    have HBW:=Lh hb
    clear hb ht hall
    simp only[Kj,Jh,List.drop_succ_cons,List.drop_zero,putAll,Act.put,List.setIfInBounds_toArray,List.set_cons_succ,List.set_cons_zero,Nat.zero_add,Nat.reduceAdd]
    rw[e4,e9]
    clear e4 e9
    have HSGW:=Lh (HSG2.out W8 HBW.out)
    go_wp2_with (go_at_call 19;(with_reducible refine(HSGW.out).mono ?_);rintro e w9 ⟨rfl,g9⟩;have HB9:=Lh (HBW.out.trans (g9.mono HBW.out.size));clear g9)
    go_roundw
    case rel=>exact⟨i+1,by omega,rfl,below_step HB.out HB9.out,below_step HB2o.out HB9.out⟩
    case measure=>simp[intOf];omega
  ·have en:n=i:=by omega
   subst en
   go_wp2
   go_ret
   exact⟨rfl,HB.out⟩
end
section
open Go.RowKit
theorem cnt_pos (x:It):1≤cntL [x]:=by
 obtain⟨n,w,k,kids,a,b⟩:=x
 simp only[cntL];omega
theorem cnt_kid {L:List It} : ∀x∈L,cntL x.kids+1≤cntL L:=by
 induction L with
 |nil=>intro x hx;cases hx
 |cons y L ih=>
  intro x hx
  rw[cnt_cons]
  rcases List.mem_cons.mp hx with rfl|hx
  ·obtain⟨n,w,k,kids,a,b⟩:=x
   show cntL kids+1≤_
   simp only[cntL];omega
  ·have:=ih x hx;omega
theorem offsS_len (g:Int): ∀k:List It,(offsS g k).length≤k.length
 | []=>by simp[offsS]
 |x::k=>by
  have:=offsS_len g k
  rw[offsS,Kq,Jq]
  split<;>simp<;>omega
end
section
open Go.RowKit
theorem lookS_cnt (wh:Nat) (sub:It→List Flt) (L:List It):cntL (lookS wh sub L).1≤cntL L:=by
 have: ∀(l:List It) (r:List It×List Flt),cntL (l.foldl (stepS wh sub) r).1≤cntL r.1+cntL l:=fun l=>by
  induction l with
  |nil=>intro r;simp[cntL]
  |cons x l ih=>
   intro r
   have h1:=ih (stepS wh sub r x)
   have h2:cntL (stepS wh sub r x).1≤cntL r.1+cntL [x]:=by
    unfold stepS
    split
    ·show cntL (r.1++ [x])≤_
     rw[cntL_app];exact Nat.le_refl _
    ·show cntL r.1≤_
     omega
   rw[cnt_cons]
   simp only[List.foldl_cons];omega
 unfold lookS
 simpa [cntL] using this L ([],[])
theorem wholeR_q (x:It) (k:List It):(wholeR x k).length≤1:=by
 unfold wholeR;split
 ·simp
 ·split<;>simp
theorem wholeN_q (x:It) (k:List It):(wholeN x k).length≤1:=by
 unfold wholeN;split<;>simp
theorem cnt_self (x:It):cntL [x]=1+cntL x.kids:=by
 obtain⟨n,w,k,kids,a,b⟩:=x
 simp[cntL,It.kids]
theorem subG_len (x:It):(subG x).length+1≤2*cntL [x]:=by
 rw[cnt_self]
 unfold subG
 split
 ·have h1:=lookS_flts (wh:=2) (sub:=sub2) (c:=1) x.kids (fun x _=>by have:=cnt_pos x;simp only[sub2,List.length_nil];omega)
  have h2:=wholeR_q x (ruleK x)
  rw[Kq];omega
 ·simp;omega
theorem wholeG_q (x:It) (k:List It):(wholeG x k).length≤2+k.length:=by
 have:=offsS_len (getS k nGrain 60) k
 unfold wholeG
 rw[Kq,Kq]
 split<;>split<;>simp<;>omega
theorem subT_len (x:It):(subT x).length+1≤3*cntL [x]:=by
 rw[cnt_self]
 unfold subT
 split
 ·have h1:=lookS_flts (wh:=1) (sub:=subG) (c:=2) x.kids (fun x _=>subG_len x)
  have h2:=wholeG_q x (goalK x)
  have h3:=lookS_cnt 1 subG x.kids
  have h4:(goalK x).length≤cntL (goalK x):=len_cnt _
  have h5:cntL (goalK x)=cntL (lookS 1 subG x.kids).1:=rfl
  rw[Kq];omega
 split
 ·have h1:=lookS_flts (wh:=3) (sub:=sub2) (c:=1) x.kids (fun x _=>by have:=cnt_pos x;simp only[sub2,List.length_nil];omega)
  have h2:=wholeN_q x (notK x)
  rw[Kq];omega
 ·simp;omega
end
section
open Go.RowKit
structure GolM (base gv:Nat) (nm:ByteArray) (yt yg yl yr cal:Int) (ls:List (ByteArray×ByteArray)) (rs:List RlC) (lv rv:Value) (w:World):Prop where
 var:VarL w gv [.string nm, .int .u32 yt, .int .i64 yg, .int .i64 yl, .int .i64 yr, .int .i64 cal,lv,rv]
 lab:RowK 80 2 w base lv (ls.map labV)
 rul:RowK 58 7 w base rv (rs.map rulV)
 apart: ∀b,lv.ownBlock=some b→rv.ownBlock≠some b
 lo:gv<base
section
variable {base gv:Nat} {nm:ByteArray} {yt yg yl yr cal:Int} {ls:List (ByteArray×ByteArray)} {rs:List RlC} {lv rv:Value} {w w':World}
end
theorem labC_len: ∀k:List It,(labC k).length≤k.length
 | []=>by simp[labC]
 |x::k=>by
  have:=labC_len k
  rw[labC,Kq,Jq];split<;>simp<;>omega
theorem rulC_len: ∀k:List It,(rulC k).length≤k.length
 | []=>by simp[rulC]
 |x::k=>by
  have:=rulC_len k
  rw[rulC,Kq,Jq];split<;>simp<;>omega
def TGol (nm:ByteArray) (yt yg yl yr:Int) (p1 xb xo xm xc:Nat) (ya:Option Addr) (m yc b1:Nat):Nat→Value→World→Prop
 |0,v,_=>v= .pointer (some ⟨p1,1,none⟩)
 |1,v,_=>v= .slice (some ⟨xb,xo,none⟩) (xm+1) xc
 |2,v,_=>v= .pointer (some ⟨xb,xo,none⟩)
 |3,v,_=>v= .pointer (some ⟨xb,xo+1,none⟩)
 |4,v,_=>v= .string nm
 |5,v,_=>v= .slice ya m yc
 |6,v,_=>v= .int .u64 yt
 |7,v,_=>v= .int .u32 yt
 |8,v,_=>v= .slice ya m yc
 |9,v,_=>v= .int .u64 yg
 |10,v,_=>v= .int .i64 yg
 |11,v,_=>v= .slice ya m yc
 |12,v,_=>v= .int .u64 yl
 |13,v,_=>v= .int .i64 yl
 |14,v,_=>v= .slice ya m yc
 |15,v,_=>v= .int .u64 yr
 |16,v,_=>v= .int .i64 yr
 |17,v,_=>v= .agg #[.string nm, .int .u32 yt, .int .i64 yg, .int .i64 yl, .int .i64 yr, .int .i64 0, .slice none 0 0, .slice none 0 0]
 |18,v,w=> ∃g,v= .pointer (some ⟨g,0,none⟩)∧b1≤g∧VarL w g [.string ⟨#[]⟩, .int .u32 0, .int .i64 0, .int .i64 0, .int .i64 0, .int .i64 0, .slice none 0 0, .slice none 0 0]
 |_,_,_=>True
end
section
open Go.RowKit
theorem golC_len: ∀k:List It,(golC k).length≤k.length
 | []=>by simp[golC]
 |x::k=>by
  have:=golC_len k
  rw[golC,Kq,Jq];split<;>simp<;>omega
structure CfM (base cb:Nat) (gs:List GlC) (gv:Value) (us:List (List Value)) (w:World):Prop where
 var:VarL w cb [gv, .int .i64 0, .int .i64 0, .int .i64 0, .int .i64 0, .int .i64 0]
 row:RowK 54 8 w base gv us
 len:us.length=gs.length
 each: ∀(i:Nat) u g,us[i]?=some u→gs[i]?=some g→GolV w base u g
 own: ∀u∈us,∀v∈u,∀b,v.ownBlock=some b→gv.ownBlock≠some b
 lo:cb<base
structure JGol (own:Option Nat) (base:Nat) (us:List (List Value)) (g:GlC) (wo:World) (u:Nat→Value) (L:Nat→Bool) (W:World):Prop where
 frm:Frm (fun i=>L 8=true∧some i=own) wo W
 cal:L 6=true→∃uu,u 6= .agg uu.toArray∧GolV W wo.heap.size uu g∧(L 7=true→∃gg,u 7= .slice (some ⟨gg,0,none⟩) 1 1∧wo.heap.size≤gg∧gg<W.heap.size∧∀j,j<8→W.cell? ⟨gg,j,none⟩=some (uu.getD j undef))∧
  (L 8=true→RowK 54 8 W base (u 8) (us++ [uu])∧((u 8).ownBlock=own∨∃b,(u 8).ownBlock=some b∧wo.heap.size≤b)∧∀v∈uu,∀b,v.ownBlock=some b→(u 8).ownBlock≠some b)
 ord:(L 7=true→L 6=true)∧(L 8=true→L 7=true)
section
variable {own:Option Nat} {base:Nat} {us:List (List Value)} {g:GlC} {wo W W':World} {u:Nat→Value} {L:Nat→Bool}
end
def TGo (l:List Value):Nat→Value→World→Prop:=fun k v _=>k<6→v=l.getD k undef
end
section
open Go.RowKit
theorem CompS.same {L:List It} {c c':CfC} {F F':List Flt} (h:CompS L c F) (h':CompS L c' F'):c=c'∧F=F':=by
 rcases h with⟨a1,rfl,rfl⟩|⟨a1,a2,rfl,rfl⟩|⟨a1,a2,rfl,rfl⟩<;>rcases h' with⟨b1,rfl,rfl⟩|⟨b1,b2,rfl,rfl⟩|⟨b1,b2,rfl,rfl⟩
 ·exact⟨rfl,rfl⟩
 ·exact absurd b1 a1
 ·exact absurd b1 a1
 ·exact absurd a1 b1
 ·exact⟨rfl,rfl⟩
 ·exact absurd b2 a2
 ·exact absurd a1 b1
 ·exact absurd a2 b2
 ·exact⟨rfl,rfl⟩
end
section
open Go.RowKit
theorem ConfV.parts {w:World} {base:Nat} {cv:Value} {c:CfC} (h:ConfV w base cv c): ∃ga gc,cv= .agg #[.slice ga c.goals.length gc, .int .i64 c.room, .int .i64 c.reserve, .int .i64 c.first, .int .i64 c.cap, .int .i64 c.again]:=by
 obtain⟨gv,us,e,h1,h2,_⟩:=h
 obtain⟨a,cc,hv⟩:=h1.size
 rw[h2]at hv
 subst hv
 exact⟨a,cc,e⟩
theorem FltsV.parts {w:World} {base:Nat} {fv:Value} {F:List Flt} (h:FltsV w base fv F): ∃fa fc,fv= .slice fa F.length fc:=by
 obtain⟨a,c,e⟩:=h.size
 rw[Ky]at e
 exact⟨a,c,e⟩
def SmallC (c:CfC):Prop:=c.goals.length≤1000000∧∀g∈c.goals,g.labels.length≤1000000∧g.rules.length≤1000000
theorem small_gol: ∀(k:List It) (g:GlC),g∈golC k→∃x∈k,g=goalC x
 | [],g,h=>by cases h
 |x::k,g,h=>by
  rw[golC]at h
  rcases List.mem_append.mp h with h|h
  ·split at h
   ·rw[List.mem_singleton.mp h];exact⟨x,List.mem_cons_self ..,rfl⟩
   ·cases h
  ·obtain⟨y,hy,e⟩:=small_gol k g h
   exact⟨y,List.mem_cons_of_mem _ hy,e⟩
theorem comp_small {L:List It} {c:CfC} {F:List Flt} (h:CompS L c F):SmallC c∧F.length≤1000000:=by
 rcases h with⟨_,rfl,rfl⟩|⟨hr,_,rfl,rfl⟩|⟨hr,_,rfl,rfl⟩
 ·exact⟨⟨by decide,fun g hg=>(by cases hg)⟩,by decide⟩
 ·refine⟨⟨by decide,fun g hg=>(by cases hg)⟩,?_⟩
  have h1:=lookS_flts (wh:=0) (sub:=subT) (c:=3) L (fun x _=>subT_len x)
  have:=hr.many
  omega
 ·refine⟨⟨?_,fun g hg=>?_⟩,by decide⟩
  ·show(golC (lookS 0 subT L).1).length≤_
   have h1:=golC_len (lookS 0 subT L).1
   have h2:=lookS_le 0 subT L
   have h3:=len_cnt L
   have:=hr.many
   omega
  ·obtain⟨x,hx,rfl⟩:=small_gol _ g hg
   have h0:=cnt_kid x (looked L x hx).1
   have h1:=lookS_le 1 subG x.kids
   have h2:=len_cnt x.kids
   have h3:=labC_len (goalK x)
   have h4:=rulC_len (goalK x)
   have h5:(goalK x).length=(lookS 1 subG x.kids).1.length:=rfl
   have:=hr.many
   show(labC (goalK x)).length≤_∧(rulC (goalK x)).length≤_
   omega
theorem comp_ex (L:List It): ∃c F,CompS L c F:=by
 by_cases hr:RightL L
 ·by_cases hf:(lookS 0 subT L).2= []
  ·exact⟨_,_,Or.inr (Or.inr ⟨hr,hf,rfl,rfl⟩)⟩
  ·exact⟨_,_,Or.inr (Or.inl ⟨hr,hf,rfl,rfl⟩)⟩
 ·exact⟨_,_,Or.inl ⟨hr,rfl,rfl⟩⟩
def GivesCf (c:CfC) (F:List Flt) (w:World) (e:Ending) (w':World):Prop:= ∃ga gc fa fc,e= .returned (.tuple #[.agg #[.slice ga c.goals.length gc, .int .i64 c.room, .int .i64 c.reserve, .int .i64 c.first, .int .i64 c.cap, .int .i64 c.again], .slice fa F.length fc])∧
 ConfV w' w.heap.size (.agg #[.slice ga c.goals.length gc, .int .i64 c.room, .int .i64 c.reserve, .int .i64 c.first, .int .i64 c.cap, .int .i64 c.again]) c∧FltsV w' w.heap.size (.slice fa F.length fc) F∧Below w.heap.size w w'
theorem gives_cf {c:CfC} {F:List Flt} {w w':World} {e:Ending} {cv fv:Value} (he:e= .returned (.tuple #[cv,fv])) (h1:ConfV w' w.heap.size cv c) (h2:FltsV w' w.heap.size fv F) (hb:Below w.heap.size w w'):GivesCf c F w e w':=by
 obtain⟨ga,gc,rfl⟩:=h1.parts
 obtain⟨fa,fc,rfl⟩:=FltsV.parts h2
 exact⟨ga,gc,fa,fc,he,h1,h2,hb⟩
theorem comp_cf {L:List It} {c:CfC} {F:List Flt} (hc:CompS L c F) (D:Nat) (S:Nat→Prop) (v:Value) (w:World) (env:Env w) (h:ItemsIs D w S v L) (hS: ∀b,S b→b<w.heap.size) (hm:cntL L≤1000000) (hd:depL L≤900000) (hl:LightL L):Calls Tryz.prog 13 #[v] w (GivesCf c F w):=
 (comp_any D S v L w env h hS hm hd hl).mono (fun e w' ⟨cv,fv,c',F',h1,h2,h3,h4,h5⟩=>by obtain⟨rfl,rfl⟩:=hc.same h2;exact gives_cf h1 h3 h4 h5)
end
end Go.Proofs.YtalcagmhdppdjaaGreatDoor
