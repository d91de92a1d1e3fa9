/-
  The document's windows: walked.
-/
import Derived.Test.YtgmfkbamfnkbgaaDoorPkChangeWindows12
set_option maxRecDepth 100000
set_option maxHeartbeats 16000000
namespace Go.Proofs.YtgmfkbamfnkbgaaDoor
open Lib renaming hid→Lh
open List renaming setIfInBounds_toArray→Lq,set_cons_zero→Lj,set_cons_succ→Lk,getD_eq_getElem?_getD→Mk,getElem?_eq_getElem→Kh,length_append→Kq,take_succ_cons→Kj,length_map→Ky,take_zero→Jh,drop_succ_cons→Jj,drop_zero→Jk
open Nat renaming reduceAdd→Lx,zero_add→Ly
open Act renaming put→Mq
open Go.RowKit.Below renaming refl→Mj
section
open Go.RowKit
theorem rwin_more (g:GlC) (u:List Value) (w:World) (hu:GolI w u g) (hl:g.rules.length≤400000) (hz:g.rolling≠0):Calls Tryd.prog 17 #[.agg u.toArray] w (fun e w'=> ∃v,e= .returned v∧NumsAt (winS g) v w'∧Below w.heap.size w w'):=by
 obtain⟨lv,rv,rfl,i1,i2⟩:=hu
 obtain⟨a1,k1,rfl,_⟩:=i1.size
 obtain⟨a2,k2,rfl,hc2⟩:=i2.size
 obtain⟨n1,hn1⟩: ∃n,(g.labels.map labV).length=n:=⟨_,rfl⟩
 obtain⟨n,hn⟩: ∃n,(g.rules.map rulV).length=n:=⟨_,rfl⟩
 obtain⟨gb,W0,hgb,hW0,V0,b0,z0⟩:=boxL w (golL g (.slice a1 (g.labels.map labV).length k1) (.slice a2 (g.rules.map rulV).length k2)) 44
 rw[hn1,hn]at hW0 V0 ⊢
 rw[hn]at i2 hc2
 have hnr:g.rules.length=n:=by rw[←hn,Ky]
 have HI:=Lh (i2.below b0)
 have HV0:=Lh V0
 have HB0:=Lh b0
 have HWD:Hid (∀out,WinAt (allW g) out→(∀y∈allW g,¬AboveW out y)→out=winS g):=Lh (fun out h hn=>win_is (h.done hn))
 have HAW:Hid (allW g=takeW g.rules n++(if g.rolling≠0 then [g.rolling]else [])):=Lh (by rw[takeW_all _ hnr];rfl)
 have HZ:=Lh hz
 have HTL:=Lh (fun i=>takeW_len g.rules i)
 have HTS:=Lh (fun i r h=> @takeW_succ g.rules i r h)
 have HLN:Hid (g.rules.length=n∧g.rules.length≤400000):=Lh ⟨hnr,hl⟩
 have HRV:Hid (∀i,i<n→∃r,g.rules[i]?=some r∧(g.rules.map rulV)[i]?=some (rulV r)):=Lh (fun i hi=>⟨g.rules[i],Kh (by omega),by rw[List.getElem?_map,Kh (by omega)];rfl⟩)
 obtain⟨B,hB⟩: ∃B,W0.heap.size=B:=⟨_,rfl⟩
 have HBB:Hid (W0.heap.size=B∧w.heap.size≤B):=Lh ⟨hB,by have:=b0.size;omega⟩
 obtain⟨nm,tg,gn,la,ro,ca,L,R⟩:=g
 obtain⟨AW,hAW⟩: ∃A,allW ⟨nm,tg,gn,la,ro,ca,L,R⟩=A:=⟨_,rfl⟩
 rw[hAW]at HWD HAW
 obtain⟨WS,hWS⟩: ∃A,winS ⟨nm,tg,gn,la,ro,ca,L,R⟩=A:=⟨_,rfl⟩
 rw[hWS]at HWD ⊢
 clear hWS
 obtain⟨eb,W1,heb,hW1,V1,b1,z1⟩:=boxL W0 [] 2
 have HR1:Hid (RowK 2 1 W1 B (.slice (some ⟨eb,0,none⟩) 0 0) ((takeW R 0).map numL)):=Lh (by rw[←hW1];exact RowK.fresh _ _ W0 B eb heb.symm (by omega))
 have HB1:=Lh b1
 simp only[golL]at hW0 HV0 HAW HTL HTS HLN HRV HI HWD ⊢
 clear hz i1 i2 hn1 hn hnr hl V0 b0 hB b1 V1 z1 z0 hAW
 go_enter Tryd.func17,Tryd.ntmps17
 go_wp2
 go_loopw [3,4] (fun v3 v4 wr=> ∃i:Nat,i≤n∧v4= .int .i64 (i:Int)∧RowK 2 1 wr B v3 ((takeW R i).map numL)∧Below B W0 wr) (fun _ v4 _=>n-(intOf v4).toNat)
 case atStart=>exact⟨0,Nat.zero_le _,rfl,HR1.out,by have:=HB1.out;rw[HBB.out.1]at this;exact this⟩
 case round=>
  obtain⟨i,hi,rfl,hrow,hb⟩:=hrel
  have HR:=Lh hrow
  have hbw:Below W0.heap.size W0 wr:=by rw[HBB.out.1];exact hb
  have HB:=Lh hbw
  have c7:=(HV0.out.after hbw).c 7 rfl
  by_cases hin:i<n
  ·obtain⟨r,hr,hru⟩:=HRV.out i hin
   obtain⟨b,off,rfl,hlt,hcell⟩:=HI.out.at i _ hru
   simp only[rulV]at hcell
   have f2:wr.cell? ⟨b,off+i*7+2,none⟩=some (.int .i64 r.long):=(hbw.cell (p:=⟨b,off+i*7+2,none⟩) hlt).trans (hcell 2 _ rfl)
   have HF3:Hid (∀W,Below W0.heap.size W0 W→W.cell? ⟨b,off+i*7+3,none⟩=some (.int .i64 r.short)):=Lh (fun W h=>(h.cell (p:=⟨b,off+i*7+3,none⟩) hlt).trans (hcell 3 _ rfl))
   have HTI:=Lh (HTS.out i r hr)
   have hln:=HLN.out
   have hi1:IntKind.i64.wrap ((i:Int)+1)=((i+1:Nat):Int):=by rw[IntKind.wrap_i64];omega
   obtain⟨yb,W3,hyb,hW3,V3,b3,z3⟩:=boxL wr [.int .i64 r.long] 2
   have HR3:=Lh (HR.out.below b3)
   have HB3:=Lh (below_step HB.out b3)
   have HCE:Hid (CellsAt 1 W3 (some ⟨yb,0,none⟩) ([r.long].map numL)):=Lh (VarL.cellsAt (ys:= [r.long].map numL) V3 (num_wid _))
   have HLE:Hid (((takeW R i).map numL).length+([r.long].map numL).length≤1000000):=Lh (by have:=HTL.out i;rw[Ky];simp;omega)
   have HLE2:Hid (((takeW R i++ [r.long]).map numL).length+([r.short].map numL).length≤1000000):=Lh (by have:=HTL.out i;rw[Ky];simp;omega)
   have HSZ:Hid (B≤W3.heap.size):=Lh (by have:=HB3.out.size;have:=HBB.out;omega)
   have hin2:(i:Int)<(n:Int):=by omega
   clear hln hr hru hlt hcell hb hbw hrow b3 z3 V3
   go_wp2_with (at_builtin;(refine wp_rowKs (T:=47) (t:=2) (sz:=1) rfl _ _ rfl Tryd.underlying47 info_i64 rfl (by decide) (by decide) B _ _ rfl HR3.out (some ⟨yb,0,none⟩) 1 1 ([r.long].map numL) rfl rfl HCE.out (num_one _) HLE.out HSZ.out ?_))
   intro v' w' hrow' ho' _
   have hb':Below W0.heap.size W0 w':=HB3.out.trans (by rw[HBB.out.1];exact ho'.bel)
   have HR4:Hid (RowK 2 1 w' B v' ((takeW R i++ [r.long]).map numL)):=Lh (by rw[List.map_append];exact hrow')
   have f3:=HF3.out w' hb'
   have c7:=(HV0.out.after hb').c 7 rfl
   obtain⟨zb,W5,hzb,hW5,V5,b5,z5⟩:=boxL w' [.int .i64 r.short] 2
   have HR5:=Lh (HR4.out.below b5)
   have HB5:=Lh (below_step hb' b5)
   have HCE2:Hid (CellsAt 1 W5 (some ⟨zb,0,none⟩) ([r.short].map numL)):=Lh (VarL.cellsAt (ys:= [r.short].map numL) V5 (num_wid _))
   have HSZ5:Hid (B≤W5.heap.size):=Lh (by have:=HB5.out.size;have:=HBB.out;omega)
   clear hrow' ho' hb' b5 z5 V5 f2
   go_wp2_with (at_builtin;(refine wp_rowKs (T:=47) (t:=2) (sz:=1) rfl _ _ rfl Tryd.underlying47 info_i64 rfl (by decide) (by decide) B _ _ rfl HR5.out (some ⟨zb,0,none⟩) 1 1 ([r.short].map numL) rfl rfl HCE2.out (num_one _) HLE2.out HSZ5.out ?_))
   intro v'' w'' hrow'' ho'' _
   have HR6:Hid (RowK 2 1 w'' B v'' ((takeW R (i+1)).map numL)):=Lh (by rw[HTI.out,List.map_append];exact hrow'')
   have HB6:Hid (Below W0.heap.size W0 w''):=Lh (HB5.out.trans (by rw[HBB.out.1];exact ho''.bel))
   clear hrow'' ho'' f3 c7
   go_wp2
   go_roundw
   case rel=>exact⟨i+1,by omega,by go_num,HR6.out,by have:=HB6.out;rw[HBB.out.1]at this;exact this⟩
   case measure=>simp[intOf];omega
  ·have en:n=i:=by omega
   subst en
   have HPH:Hid (∀(v3:Value) (WP:World),RowK 2 1 WP B v3 (AW.map numL)→Below W0.heap.size W0 WP→True):=Lh (fun _ _ _ _=>trivial)
   clear HPH
   have x4:=(HV0.out.after hbw).c 4 rfl
   have HSZ:Hid (B≤wr.heap.size):=Lh (by have:=hbw.size;have:=HBB.out;omega)
   have HLE:=Lh (show(takeW R n).length≤800000 by have:=HTL.out n;have:=HLN.out;omega)
   clear hrow hb hbw hi
   by_cases hro:ro=0
   ·exact absurd hro HZ.out
   ·obtain⟨yb,W3,hyb,hW3,V3,b3,z3⟩:=boxL wr [.int .i64 ro] 2
    have HR3:=Lh (HR.out.below b3)
    have HB3:=Lh (below_step HB.out b3)
    have HCE:Hid (CellsAt 1 W3 (some ⟨yb,0,none⟩) ([ro].map numL)):=Lh (VarL.cellsAt (ys:= [ro].map numL) V3 (num_wid _))
    have HLE2:Hid (((takeW R n).map numL).length+([ro].map numL).length≤1000000):=Lh (by have:=HLE.out;rw[Ky];simp;omega)
    have HSZ3:Hid (B≤W3.heap.size):=Lh (by have:=b3.size;have:=HSZ.out;omega)
    clear b3 z3 V3
    go_wp2_with (at_builtin;(refine wp_rowKs (T:=47) (t:=2) (sz:=1) rfl _ _ rfl Tryd.underlying47 info_i64 rfl (by decide) (by decide) B _ _ rfl HR3.out (some ⟨yb,0,none⟩) 1 1 ([ro].map numL) rfl rfl HCE.out (num_one _) HLE2.out HSZ3.out ?_))
    intro v' wr2 hrow' ho' _
    have HRA:Hid (RowK 2 1 wr2 B v' (AW.map numL)):=Lh (by rw[HAW.out,if_pos hro,List.map_append];exact hrow')
    have HAL:Hid (AW.length≤800001):=Lh (by rw[HAW.out,if_pos hro,Kq];have:=HLE.out;simp;omega)
    have HBP:Hid (Below W0.heap.size W0 wr2):=Lh (HB3.out.trans (by rw[HBB.out.1];exact ho'.bel))
    clear hrow' ho' HR HB HR3 HB3 HSZ HSZ3 x4
    obtain⟨aa,ac,hae⟩:=HRA.out.size
    obtain⟨n2,hn2⟩: ∃n2,(AW.map numL).length=n2:=⟨_,rfl⟩
    rw[hn2]at hae
    subst hae
    rw[Ky]at hn2
    have HN2:=Lh hn2
    clear hn2
    obtain⟨ob,W6,hob,hW6,V6,b6,z6⟩:=boxL wr2 [] 2
    obtain⟨BP,hBPe⟩: ∃BP,wr2.heap.size=BP:=⟨_,rfl⟩
    have HRO:Hid (RowK 2 1 W6 BP (.slice (some ⟨ob,0,none⟩) 0 0) (([]:List Int).map numL)):=Lh (by rw[←hW6];exact RowK.fresh _ _ wr2 BP ob hob.symm (by omega))
    have HB6:Hid (Below BP wr2 W6):=Lh (by rw[←hBPe];exact b6)
    have HBPE:=Lh hBPe
    have HBPW:Hid (w.heap.size≤BP):=Lh (by have:=HBP.out.size;have:=HBB.out;omega)
    clear b6 z6 V6 hBPe
    go_wp2
    go_loopw [5] (fun v5 wq=> ∃out:List Int,Hid (WinAt AW out)∧RowK 2 1 wq BP v5 (out.map numL)∧Below BP wr2 wq) (fun v5 _=>n2+1-sliceLen v5)
    case atStart=>exact⟨[],Lh (WinAt.start AW),HRO.out,HB6.out⟩
    case round=>
     obtain⟨out,HWA,hro2,hbq⟩:=hrel
     have HRO2:=Lh hro2
     have HBQ:=Lh hbq
     have HRQ:=Lh (HRA.out.below (by rw[HBPE.out];exact hbq))
     have HBPQ:Hid (BP≤wr.heap.size):=Lh (by have:=hbq.size;have:=HBPE.out;omega)
     have HOL:Hid (out.length≤n2):=Lh (by rw[←HN2.out];exact asc_len HWA.out.asc HWA.out.sub)
     obtain⟨oa,oc,hoe⟩:=hro2.size
     obtain⟨on,hon⟩: ∃on,(out.map numL).length=on:=⟨_,rfl⟩
     rw[hon]at hoe
     subst hoe
     rw[Ky]at hon
     have HON:=Lh hon
     have hn2b:n2≤1000000:=by have:=HAL.out;have:=HN2.out;omega
     clear hro2 hbq hon
     go_wp2
     go_loopw [6,7] (fun v6 v7 wq2=> ∃(j:Nat) (best:Int),j≤n2∧v7= .int .i64 (j:Int)∧v6= .int .i64 best∧Hid (BestW AW out j best)∧Below wr.heap.size wr wq2) (fun _ v7 _=>n2-(intOf v7).toNat)
     case atStart=>exact⟨0,-1,Nat.zero_le _,rfl,rfl,Lh (BestW.start AW out),Mj _ _⟩
     case round=>
      obtain⟨j,best,hj,rfl,rfl,HBE,hbz⟩:=hrel
      have HBZ:=Lh hbz
      by_cases hjn:j<n2
      ·have HN2J:Hid (j<AW.length):=Lh (by rw[HN2.out];exact hjn)
       obtain⟨ag,ac2,hae2,_⟩:=HRQ.out.form (by rw[Ky];have:=HN2J.out;omega)
       simp only[Value.slice.injEq]at hae2
       obtain⟨rfl,-,-⟩:=hae2
       have HALL:Hid (∀W,Below wr.heap.size wr W→∀i,i<n2→W.cell? ⟨ag,i,none⟩=some (.int .i64 (AW.getD i 0))):=Lh (fun W h i hi=>num_cells (HRQ.out.below (below_step HBZ.out h)) i (by rw[HN2.out];exact hi))
       obtain⟨av,hav⟩: ∃a,AW.getD j 0=a:=⟨_,rfl⟩
       have HAV:=Lh hav
       have HXJ:Hid (∀W,Below wr.heap.size wr W→W.cell? ⟨ag,j,none⟩=some (.int .i64 av)):=Lh (fun W h=>by rw[←hav];exact HALL.out W h j hjn)
       have hj2:(j:Int)<(n2:Int):=by omega
       have hi1:IntKind.i64.wrap ((j:Int)+1)=((j+1:Nat):Int):=by rw[IntKind.wrap_i64];omega
       clear hav hbz
       by_cases h0:on=0
       ·subst h0
        have HOE:Hid (out= []):=Lh (List.eq_nil_of_length_eq_zero HON.out)
        have HAB:Hid (∀x,AboveW out x):=Lh (fun x l hl=>by rw[HOE.out]at hl;cases hl)
        by_cases hneg:best<0
        ·have HNG:=Lh hneg
         have HQC:Hid (True):=Lh trivial
         go_wp2
         refine wp_region_mix 31 (TVs [.slice oa 0 oc, .int .i64 0, .bool true, .bool true,undef,undef,undef,undef,undef,undef,undef,undef,undef,undef,undef, .bool true, .bool true, .int .i64 best, .bool true, .bool true,undef,undef,undef,undef,undef,undef,undef,undef,undef, .bool true, .bool true]) (fun _=>false) (by kernel_rfl) (by kernel_rfl) (TVs.keep _) (fun _ _ _ h=>by cases h) ?_ ?_
         ·refine⟨?_,?_,?_,?_,?_,?_,?_,?_,?_,?_,?_,?_,?_,?_,?_,?_,?_,?_,?_,?_,?_,?_,?_,?_,?_,?_,?_,?_,?_,?_,?_,trivial⟩
          all_goals
           intro u W hb hd
           have x0:=HXJ.out W hb
           have hqc:true=true:=rfl
           simp only[Kj,Jh,putAll,Mq,Lq,Lk,Lj,Ly,Lx]
           try (have e0:u _=List.getD _ _ _:=hd.1 rfl (by decide);rw[e0])
           try (have e1:u _=List.getD _ _ _:=hd.2.1 rfl (by decide);rw[e1])
           try (have e2:u _=List.getD _ _ _:=hd.2.2.1 rfl (by decide);rw[e2])
           try (have e3:u _=List.getD _ _ _:=hd.2.2.2.1 rfl (by decide);rw[e3])
           try (have e4:u _=List.getD _ _ _:=hd.2.2.2.2.1 rfl (by decide);rw[e4])
           try simp only[List.getD_cons_zero,List.getD_cons_succ]
           go_wp2
           first|exact Mj _ _|exact⟨congrArg Value.bool hqc,Mj _ _⟩|exact⟨_,rfl,congrArg Value.bool hqc,Mj _ _⟩|exact⟨_,rfl,congrArg Value.bool hqc,Mj _ _,fun h=>by simp at h⟩|exact⟨rfl,Mj _ _⟩|exact⟨_,rfl,rfl,Mj _ _⟩|exact⟨_,rfl,rfl,Mj _ _,fun h=>by simp at h⟩
         intro u W hbu hT _
         have eL:u 30= .bool true:=hT 30 (by decide)
         simp only[Kj,Jh,Jj,Jk,putAll,Mq,Lq,Lk,Lj,Ly,Lx]
         rw[eL]
         have HB3:=Lh (below_step HBZ.out hbu)
         clear hbu hT
         go_wp2
         go_roundw
         case rel=>exact⟨j+1,_,by omega,by go_num,rfl,Lh (by have:=BestW.take HBE.out (by rw[HAV.out];exact HAB.out av) (Or.inl HNG.out);exact this),HB3.out⟩
         case measure=>simp[intOf];omega
        ·obtain⟨bn,rfl⟩: ∃bn:Nat,best=(bn:Int):=⟨best.toNat,by omega⟩
         have HBB2:=Lh (HBE.out.some (by omega))
         have hbj:bn<n2:=by have:=HBB2.out.1;omega
         have hbj2:(bn:Int)<(n2:Int):=by omega
         have hneg2: ¬(bn:Int)<0:=by omega
         obtain⟨ab,hab⟩: ∃a,AW.getD bn 0=a:=⟨_,rfl⟩
         have HABN:Hid (AW.getD (bn:Int).toNat 0=ab):=Lh (by rw[Int.toNat_natCast];exact hab)
         have HXB:Hid (∀W,Below wr.heap.size wr W→W.cell? ⟨ag,bn,none⟩=some (.int .i64 ab)):=Lh (fun W h=>by rw[←hab];exact HALL.out W h bn hbj)
         obtain⟨qc,hqc⟩: ∃q,decide (av<ab)=q:=⟨_,rfl⟩
         have HQC:=Lh hqc
         clear hab hqc hneg
         cases qc
         ·have HNL:Hid (¬av<ab):=Lh (of_decide_eq_false HQC.out)
          go_wp2
          refine wp_region_mix 31 (TVs [.slice oa 0 oc, .int .i64 0, .bool true, .bool true,undef,undef,undef,undef,undef,undef,undef,undef,undef,undef,undef, .bool true, .bool true, .int .i64 (bn:Int), .bool false, .bool false, .slice (some ⟨ag,0,none⟩) n2 ac, .int .i64 (j:Int), .pointer (some ⟨ag,j,none⟩), .int .i64 av, .slice (some ⟨ag,0,none⟩) n2 ac, .int .i64 (bn:Int), .pointer (some ⟨ag,bn,none⟩), .int .i64 ab, .bool false, .bool false, .bool false]) (fun _=>false) (by kernel_rfl) (by kernel_rfl) (TVs.keep _) (fun _ _ _ h=>by cases h) ?_ ?_
          ·refine⟨?_,?_,?_,?_,?_,?_,?_,?_,?_,?_,?_,?_,?_,?_,?_,?_,?_,?_,?_,?_,?_,?_,?_,?_,?_,?_,?_,?_,?_,?_,?_,trivial⟩
           all_goals
            intro u W hb hd
            have x0:=HXJ.out W hb
            have y0:=HXB.out W hb
            have hqc:=HQC.out
            simp only[Kj,Jh,putAll,Mq,Lq,Lk,Lj,Ly,Lx]
            try (have e0:u _=List.getD _ _ _:=hd.1 rfl (by decide);rw[e0])
            try (have e1:u _=List.getD _ _ _:=hd.2.1 rfl (by decide);rw[e1])
            try (have e2:u _=List.getD _ _ _:=hd.2.2.1 rfl (by decide);rw[e2])
            try (have e3:u _=List.getD _ _ _:=hd.2.2.2.1 rfl (by decide);rw[e3])
            try (have e4:u _=List.getD _ _ _:=hd.2.2.2.2.1 rfl (by decide);rw[e4])
            try simp only[List.getD_cons_zero,List.getD_cons_succ]
            go_wp2
            first|exact Mj _ _|exact⟨congrArg Value.bool hqc,Mj _ _⟩|exact⟨_,rfl,congrArg Value.bool hqc,Mj _ _⟩|exact⟨_,rfl,congrArg Value.bool hqc,Mj _ _,fun h=>by simp at h⟩|exact⟨rfl,Mj _ _⟩|exact⟨_,rfl,rfl,Mj _ _⟩|exact⟨_,rfl,rfl,Mj _ _,fun h=>by simp at h⟩
          intro u W hbu hT _
          have eL:u 30= .bool false:=hT 30 (by decide)
          simp only[Kj,Jh,Jj,Jk,putAll,Mq,Lq,Lk,Lj,Ly,Lx]
          rw[eL]
          have HB3:=Lh (below_step HBZ.out hbu)
          clear hbu hT
          go_wp2
          go_roundw
          case rel=>exact⟨j+1,_,by omega,by go_num,rfl,Lh (BestW.pass HBE.out (fun _=>⟨by omega,by rw[HABN.out,HAV.out];have:=HNL.out;omega⟩)),HB3.out⟩
          case measure=>simp[intOf];omega
         ·have HNL:Hid (av<ab):=Lh (of_decide_eq_true HQC.out)
          go_wp2
          refine wp_region_mix 31 (TVs [.slice oa 0 oc, .int .i64 0, .bool true, .bool true,undef,undef,undef,undef,undef,undef,undef,undef,undef,undef,undef, .bool true, .bool true, .int .i64 (bn:Int), .bool false, .bool false, .slice (some ⟨ag,0,none⟩) n2 ac, .int .i64 (j:Int), .pointer (some ⟨ag,j,none⟩), .int .i64 av, .slice (some ⟨ag,0,none⟩) n2 ac, .int .i64 (bn:Int), .pointer (some ⟨ag,bn,none⟩), .int .i64 ab, .bool true, .bool true, .bool true]) (fun _=>false) (by kernel_rfl) (by kernel_rfl) (TVs.keep _) (fun _ _ _ h=>by cases h) ?_ ?_
          ·refine⟨?_,?_,?_,?_,?_,?_,?_,?_,?_,?_,?_,?_,?_,?_,?_,?_,?_,?_,?_,?_,?_,?_,?_,?_,?_,?_,?_,?_,?_,?_,?_,trivial⟩
           all_goals
            intro u W hb hd
            have x0:=HXJ.out W hb
            have y0:=HXB.out W hb
            have hqc:=HQC.out
            simp only[Kj,Jh,putAll,Mq,Lq,Lk,Lj,Ly,Lx]
            try (have e0:u _=List.getD _ _ _:=hd.1 rfl (by decide);rw[e0])
            try (have e1:u _=List.getD _ _ _:=hd.2.1 rfl (by decide);rw[e1])
            try (have e2:u _=List.getD _ _ _:=hd.2.2.1 rfl (by decide);rw[e2])
            try (have e3:u _=List.getD _ _ _:=hd.2.2.2.1 rfl (by decide);rw[e3])
            try (have e4:u _=List.getD _ _ _:=hd.2.2.2.2.1 rfl (by decide);rw[e4])
            try simp only[List.getD_cons_zero,List.getD_cons_succ]
            go_wp2
            first|exact Mj _ _|exact⟨congrArg Value.bool hqc,Mj _ _⟩|exact⟨_,rfl,congrArg Value.bool hqc,Mj _ _⟩|exact⟨_,rfl,congrArg Value.bool hqc,Mj _ _,fun h=>by simp at h⟩|exact⟨rfl,Mj _ _⟩|exact⟨_,rfl,rfl,Mj _ _⟩|exact⟨_,rfl,rfl,Mj _ _,fun h=>by simp at h⟩
          intro u W hbu hT _
          have eL:u 30= .bool true:=hT 30 (by decide)
          simp only[Kj,Jh,Jj,Jk,putAll,Mq,Lq,Lk,Lj,Ly,Lx]
          rw[eL]
          have HB3:=Lh (below_step HBZ.out hbu)
          clear hbu hT
          go_wp2
          go_roundw
          case rel=>exact⟨j+1,_,by omega,by go_num,rfl,Lh (by have:=BestW.take HBE.out (by rw[HAV.out];exact HAB.out av) (Or.inr (by rw[HABN.out,HAV.out];exact HNL.out));exact this),HB3.out⟩
          case measure=>simp[intOf];omega
       ·obtain⟨k,rfl⟩: ∃k,on=k+1:=⟨on-1,by omega⟩
        obtain⟨og,oc2,hoe2,_⟩:=HRO2.out.form (by rw[Ky,HON.out];omega)
        simp only[Value.slice.injEq]at hoe2
        obtain⟨rfl,-,-⟩:=hoe2
        obtain⟨lv2,hlv⟩: ∃l,out.getD k 0=l:=⟨_,rfl⟩
        have HAL2:Hid (∀x,AboveW out x↔lv2<x):=Lh (fun x=>by rw[←hlv];exact above_last (last_getD HON.out))
        have HXL:Hid (∀W,Below wr.heap.size wr W→W.cell? ⟨og,k,none⟩=some (.int .i64 lv2)):=Lh (fun W h=>by rw[←hlv];exact num_cells (HRO2.out.below (below_step HBZ.out h)) k (by rw[HON.out];omega))
        have hw1:IntKind.i64.wrap (k:Int)=(k:Int):=by have:=HOL.out;have:=HON.out;rw[IntKind.wrap_i64];omega
        have hk0: ¬((k:Int)+1=0):=by omega
        have hk1:(k:Int)<(k:Int)+1:=by omega
        clear hlv h0
        by_cases hla:lv2<av
        ·have HLA:=Lh hla
         by_cases hneg:best<0
         ·have HNG:=Lh hneg
          go_wp2
          refine wp_region_mix 31 (TVs [.slice (some ⟨og,0,none⟩) (k+1) oc, .int .i64 ((k:Int)+1), .bool false, .bool false, .slice (some ⟨ag,0,none⟩) n2 ac, .int .i64 (j:Int), .pointer (some ⟨ag,j,none⟩), .int .i64 av, .slice (some ⟨og,0,none⟩) (k+1) oc, .slice (some ⟨og,0,none⟩) (k+1) oc, .int .i64 ((k:Int)+1), .int .i64 (k:Int), .pointer (some ⟨og,k,none⟩), .int .i64 lv2, .bool true, .bool true, .bool true, .int .i64 best, .bool true, .bool true,undef,undef,undef,undef,undef,undef,undef,undef,undef, .bool true, .bool true]) (fun _=>false) (by kernel_rfl) (by kernel_rfl) (TVs.keep _) (fun _ _ _ h=>by cases h) ?_ ?_
          ·refine⟨?_,?_,?_,?_,?_,?_,?_,?_,?_,?_,?_,?_,?_,?_,?_,?_,?_,?_,?_,?_,?_,?_,?_,?_,?_,?_,?_,?_,?_,?_,?_,trivial⟩
           all_goals
            intro u W hb hd
            have x0:=HXJ.out W hb
            have z0:=HXL.out W hb
            have hqc:true=true:=rfl
            simp only[Kj,Jh,putAll,Mq,Lq,Lk,Lj,Ly,Lx]
            try (have e0:u _=List.getD _ _ _:=hd.1 rfl (by decide);rw[e0])
            try (have e1:u _=List.getD _ _ _:=hd.2.1 rfl (by decide);rw[e1])
            try (have e2:u _=List.getD _ _ _:=hd.2.2.1 rfl (by decide);rw[e2])
            try (have e3:u _=List.getD _ _ _:=hd.2.2.2.1 rfl (by decide);rw[e3])
            try (have e4:u _=List.getD _ _ _:=hd.2.2.2.2.1 rfl (by decide);rw[e4])
            try simp only[List.getD_cons_zero,List.getD_cons_succ]
            go_wp2
            first|exact Mj _ _|exact⟨congrArg Value.bool hqc,Mj _ _⟩|exact⟨_,rfl,congrArg Value.bool hqc,Mj _ _⟩|exact⟨_,rfl,congrArg Value.bool hqc,Mj _ _,fun h=>by simp at h⟩|exact⟨rfl,Mj _ _⟩|exact⟨_,rfl,rfl,Mj _ _⟩|exact⟨_,rfl,rfl,Mj _ _,fun h=>by simp at h⟩
          intro u W hbu hT _
          have eL:u 30= .bool true:=hT 30 (by decide)
          simp only[Kj,Jh,Jj,Jk,putAll,Mq,Lq,Lk,Lj,Ly,Lx]
          rw[eL]
          have HB3:=Lh (below_step HBZ.out hbu)
          clear hbu hT
          go_wp2
          go_roundw
          case rel=>exact⟨j+1,_,by omega,by go_num,rfl,Lh (by have:=BestW.take HBE.out (by rw[HAV.out];exact(HAL2.out av).mpr HLA.out) (Or.inl HNG.out);exact this),HB3.out⟩
          case measure=>simp[intOf];omega
         ·obtain⟨bn,rfl⟩: ∃bn:Nat,best=(bn:Int):=⟨best.toNat,by omega⟩
          have HBB2:=Lh (HBE.out.some (by omega))
          have hbj:bn<n2:=by have:=HBB2.out.1;omega
          have hbj2:(bn:Int)<(n2:Int):=by omega
          have hneg2: ¬(bn:Int)<0:=by omega
          obtain⟨ab,hab⟩: ∃a,AW.getD bn 0=a:=⟨_,rfl⟩
          have HABN:Hid (AW.getD (bn:Int).toNat 0=ab):=Lh (by rw[Int.toNat_natCast];exact hab)
          have HXB:Hid (∀W,Below wr.heap.size wr W→W.cell? ⟨ag,bn,none⟩=some (.int .i64 ab)):=Lh (fun W h=>by rw[←hab];exact HALL.out W h bn hbj)
          obtain⟨qc,hqc⟩: ∃q,decide (av<ab)=q:=⟨_,rfl⟩
          have HQC:=Lh hqc
          clear hab hqc hneg
          cases qc
          ·have HNL:Hid (¬av<ab):=Lh (of_decide_eq_false HQC.out)
           go_wp2
           refine wp_region_mix 31 (TVs [.slice (some ⟨og,0,none⟩) (k+1) oc, .int .i64 ((k:Int)+1), .bool false, .bool false, .slice (some ⟨ag,0,none⟩) n2 ac, .int .i64 (j:Int), .pointer (some ⟨ag,j,none⟩), .int .i64 av, .slice (some ⟨og,0,none⟩) (k+1) oc, .slice (some ⟨og,0,none⟩) (k+1) oc, .int .i64 ((k:Int)+1), .int .i64 (k:Int), .pointer (some ⟨og,k,none⟩), .int .i64 lv2, .bool true, .bool true, .bool true, .int .i64 (bn:Int), .bool false, .bool false, .slice (some ⟨ag,0,none⟩) n2 ac, .int .i64 (j:Int), .pointer (some ⟨ag,j,none⟩), .int .i64 av, .slice (some ⟨ag,0,none⟩) n2 ac, .int .i64 (bn:Int), .pointer (some ⟨ag,bn,none⟩), .int .i64 ab, .bool false, .bool false, .bool false]) (fun _=>false) (by kernel_rfl) (by kernel_rfl) (TVs.keep _) (fun _ _ _ h=>by cases h) ?_ ?_
           ·refine⟨?_,?_,?_,?_,?_,?_,?_,?_,?_,?_,?_,?_,?_,?_,?_,?_,?_,?_,?_,?_,?_,?_,?_,?_,?_,?_,?_,?_,?_,?_,?_,trivial⟩
            all_goals
             intro u W hb hd
             have x0:=HXJ.out W hb
             have y0:=HXB.out W hb
             have hqc:=HQC.out
             have z0:=HXL.out W hb
             simp only[Kj,Jh,putAll,Mq,Lq,Lk,Lj,Ly,Lx]
             try (have e0:u _=List.getD _ _ _:=hd.1 rfl (by decide);rw[e0])
             try (have e1:u _=List.getD _ _ _:=hd.2.1 rfl (by decide);rw[e1])
             try (have e2:u _=List.getD _ _ _:=hd.2.2.1 rfl (by decide);rw[e2])
             try (have e3:u _=List.getD _ _ _:=hd.2.2.2.1 rfl (by decide);rw[e3])
             try (have e4:u _=List.getD _ _ _:=hd.2.2.2.2.1 rfl (by decide);rw[e4])
             try simp only[List.getD_cons_zero,List.getD_cons_succ]
             go_wp2
             first|exact Mj _ _|exact⟨congrArg Value.bool hqc,Mj _ _⟩|exact⟨_,rfl,congrArg Value.bool hqc,Mj _ _⟩|exact⟨_,rfl,congrArg Value.bool hqc,Mj _ _,fun h=>by simp at h⟩|exact⟨rfl,Mj _ _⟩|exact⟨_,rfl,rfl,Mj _ _⟩|exact⟨_,rfl,rfl,Mj _ _,fun h=>by simp at h⟩
           intro u W hbu hT _
           have eL:u 30= .bool false:=hT 30 (by decide)
           simp only[Kj,Jh,Jj,Jk,putAll,Mq,Lq,Lk,Lj,Ly,Lx]
           rw[eL]
           have HB3:=Lh (below_step HBZ.out hbu)
           clear hbu hT
           go_wp2
           go_roundw
           case rel=>exact⟨j+1,_,by omega,by go_num,rfl,Lh (BestW.pass HBE.out (fun _=>⟨by omega,by rw[HABN.out,HAV.out];have:=HNL.out;omega⟩)),HB3.out⟩
           case measure=>simp[intOf];omega
          ·have HNL:Hid (av<ab):=Lh (of_decide_eq_true HQC.out)
           go_wp2
           refine wp_region_mix 31 (TVs [.slice (some ⟨og,0,none⟩) (k+1) oc, .int .i64 ((k:Int)+1), .bool false, .bool false, .slice (some ⟨ag,0,none⟩) n2 ac, .int .i64 (j:Int), .pointer (some ⟨ag,j,none⟩), .int .i64 av, .slice (some ⟨og,0,none⟩) (k+1) oc, .slice (some ⟨og,0,none⟩) (k+1) oc, .int .i64 ((k:Int)+1), .int .i64 (k:Int), .pointer (some ⟨og,k,none⟩), .int .i64 lv2, .bool true, .bool true, .bool true, .int .i64 (bn:Int), .bool false, .bool false, .slice (some ⟨ag,0,none⟩) n2 ac, .int .i64 (j:Int), .pointer (some ⟨ag,j,none⟩), .int .i64 av, .slice (some ⟨ag,0,none⟩) n2 ac, .int .i64 (bn:Int), .pointer (some ⟨ag,bn,none⟩), .int .i64 ab, .bool true, .bool true, .bool true]) (fun _=>false) (by kernel_rfl) (by kernel_rfl) (TVs.keep _) (fun _ _ _ h=>by cases h) ?_ ?_
           ·refine⟨?_,?_,?_,?_,?_,?_,?_,?_,?_,?_,?_,?_,?_,?_,?_,?_,?_,?_,?_,?_,?_,?_,?_,?_,?_,?_,?_,?_,?_,?_,?_,trivial⟩
            all_goals
             intro u W hb hd
             have x0:=HXJ.out W hb
             have y0:=HXB.out W hb
             have hqc:=HQC.out
             have z0:=HXL.out W hb
             simp only[Kj,Jh,putAll,Mq,Lq,Lk,Lj,Ly,Lx]
             try (have e0:u _=List.getD _ _ _:=hd.1 rfl (by decide);rw[e0])
             try (have e1:u _=List.getD _ _ _:=hd.2.1 rfl (by decide);rw[e1])
             try (have e2:u _=List.getD _ _ _:=hd.2.2.1 rfl (by decide);rw[e2])
             try (have e3:u _=List.getD _ _ _:=hd.2.2.2.1 rfl (by decide);rw[e3])
             try (have e4:u _=List.getD _ _ _:=hd.2.2.2.2.1 rfl (by decide);rw[e4])
             try simp only[List.getD_cons_zero,List.getD_cons_succ]
             go_wp2
             first|exact Mj _ _|exact⟨congrArg Value.bool hqc,Mj _ _⟩|exact⟨_,rfl,congrArg Value.bool hqc,Mj _ _⟩|exact⟨_,rfl,congrArg Value.bool hqc,Mj _ _,fun h=>by simp at h⟩|exact⟨rfl,Mj _ _⟩|exact⟨_,rfl,rfl,Mj _ _⟩|exact⟨_,rfl,rfl,Mj _ _,fun h=>by simp at h⟩
           intro u W hbu hT _
           have eL:u 30= .bool true:=hT 30 (by decide)
           simp only[Kj,Jh,Jj,Jk,putAll,Mq,Lq,Lk,Lj,Ly,Lx]
           rw[eL]
           have HB3:=Lh (below_step HBZ.out hbu)
           clear hbu hT
           go_wp2
           go_roundw
           case rel=>exact⟨j+1,_,by omega,by go_num,rfl,Lh (by have:=BestW.take HBE.out (by rw[HAV.out];exact(HAL2.out av).mpr HLA.out) (Or.inr (by rw[HABN.out,HAV.out];exact HNL.out));exact this),HB3.out⟩
           case measure=>simp[intOf];omega
        ·have HLA:=Lh hla
         have HQD:Hid (decide (lv2<av)=false):=Lh (decide_eq_false hla)
         go_wp2
         refine wp_region_mix 31 (TVs [.slice (some ⟨og,0,none⟩) (k+1) oc, .int .i64 ((k:Int)+1), .bool false, .bool false, .slice (some ⟨ag,0,none⟩) n2 ac, .int .i64 (j:Int), .pointer (some ⟨ag,j,none⟩), .int .i64 av, .slice (some ⟨og,0,none⟩) (k+1) oc, .slice (some ⟨og,0,none⟩) (k+1) oc, .int .i64 ((k:Int)+1), .int .i64 (k:Int), .pointer (some ⟨og,k,none⟩), .int .i64 lv2, .bool false, .bool false, .bool false,undef,undef,undef,undef,undef,undef,undef,undef,undef,undef,undef,undef,undef, .bool false]) (fun _=>false) (by kernel_rfl) (by kernel_rfl) (TVs.keep _) (fun _ _ _ h=>by cases h) ?_ ?_
         ·refine⟨?_,?_,?_,?_,?_,?_,?_,?_,?_,?_,?_,?_,?_,?_,?_,?_,?_,?_,?_,?_,?_,?_,?_,?_,?_,?_,?_,?_,?_,?_,?_,trivial⟩
          all_goals
           intro u W hb hd
           have x0:=HXJ.out W hb
           have z0:=HXL.out W hb
           have hqc:=HQD.out
           simp only[Kj,Jh,putAll,Mq,Lq,Lk,Lj,Ly,Lx]
           try (have e0:u _=List.getD _ _ _:=hd.1 rfl (by decide);rw[e0])
           try (have e1:u _=List.getD _ _ _:=hd.2.1 rfl (by decide);rw[e1])
           try (have e2:u _=List.getD _ _ _:=hd.2.2.1 rfl (by decide);rw[e2])
           try (have e3:u _=List.getD _ _ _:=hd.2.2.2.1 rfl (by decide);rw[e3])
           try (have e4:u _=List.getD _ _ _:=hd.2.2.2.2.1 rfl (by decide);rw[e4])
           try simp only[List.getD_cons_zero,List.getD_cons_succ]
           go_wp2
           first|exact Mj _ _|exact⟨congrArg Value.bool hqc,Mj _ _⟩|exact⟨_,rfl,congrArg Value.bool hqc,Mj _ _⟩|exact⟨_,rfl,congrArg Value.bool hqc,Mj _ _,fun h=>by simp at h⟩|exact⟨rfl,Mj _ _⟩|exact⟨_,rfl,rfl,Mj _ _⟩|exact⟨_,rfl,rfl,Mj _ _,fun h=>by simp at h⟩
         intro u W hbu hT _
         have eL:u 30= .bool false:=hT 30 (by decide)
         simp only[Kj,Jh,Jj,Jk,putAll,Mq,Lq,Lk,Lj,Ly,Lx]
         rw[eL]
         have HB3:=Lh (below_step HBZ.out hbu)
         clear hbu hT
         go_wp2
         go_roundw
         case rel=>exact⟨j+1,_,by omega,by go_num,rfl,Lh (BestW.pass HBE.out (fun h=>by exfalso;have h1:=(HAL2.out av).mp (by rw[←HAV.out];exact h);have h2:=HLA.out;omega)),HB3.out⟩
         case measure=>simp[intOf];omega
      ·have en:n2=j:=by omega
       subst en
       clear hbz hj hjn
       by_cases hneg:best<0
       ·have HFI:Hid (NumsAt WS (.slice oa on oc) wr):=Lh (by
         rw[←HWD.out out HWA.out (fun y hy=>by
          obtain⟨k,hk,e⟩:=List.getElem_of_mem hy
          have:=((HBE.out).none hneg).2 k (by rw[←HN2.out];exact hk)
          simpa [Mk,hk,e] using this)]
         exact⟨_,HRO2.out.below HBZ.out⟩)
        go_wp2
        go_ret
        exact⟨_,rfl,HFI.out,HB0.out.trans ((HBP.out.mono (by have:=HBB.out;omega)).trans ((HBQ.out.mono HBPW.out).trans (HBZ.out.mono (Nat.le_trans HBPW.out HBPQ.out))))⟩
       ·obtain⟨bn,rfl⟩: ∃bn:Nat,best=(bn:Int):=⟨best.toNat,by omega⟩
        obtain⟨hbn,hab,hmin⟩:=HBE.out.some (by omega)
        rw[Int.toNat_natCast]at hab hmin
        have hbn2:bn<n2:=by omega
        obtain⟨ag,ac2,hae2,_⟩:=HRQ.out.form (by rw[Ky,HN2.out];omega)
        simp only[Value.slice.injEq]at hae2
        obtain⟨rfl,-,-⟩:=hae2
        have x0:=num_cells (HRQ.out.below HBZ.out) bn (by rw[HN2.out];exact hbn2)
        obtain⟨x,hx⟩: ∃x,AW.getD bn 0=x:=⟨_,rfl⟩
        rw[hx]at x0 hab hmin
        have HWN:Hid (WinAt AW (out++ [x])):=Lh (HWA.out.next (by rw[←hx,Mk,Kh (by rw[HN2.out];exact hbn2)];exact List.getElem_mem _) hab (fun y hy hya=>by
         obtain⟨k,hk,e⟩:=List.getElem_of_mem hy
         have hg:AW.getD k 0=y:=by simp[Mk,hk,e]
         rw[←hg]
         exact hmin k (by rw[←HN2.out];exact hk) (by rw[hg];exact hya)))
        obtain⟨yb,W8,hyb,hW8,V8,b8,z8⟩:=boxL wr [.int .i64 x] 2
        have HR8:=Lh ((HRO2.out.below HBZ.out).below b8)
        have HCE:Hid (CellsAt 1 W8 (some ⟨yb,0,none⟩) ([x].map numL)):=Lh (VarL.cellsAt (ys:= [x].map numL) V8 (num_wid _))
        have HLE2:Hid ((out.map numL).length+([x].map numL).length≤1000000):=Lh (by have:=HOL.out;have:=HAL.out;have:=HN2.out;rw[Ky];simp;omega)
        have HSZ8:Hid (BP≤W8.heap.size):=Lh (by have:=b8.size;have:=HBZ.out.size;have:=HBPQ.out;omega)
        have HB8:=Lh (below_step HBZ.out b8)
        have hneg2: ¬(bn:Int)<0:=by omega
        have hbn3:(bn:Int)<(n2:Int):=by omega
        have HOS:Hid (on≤n2):=Lh (by rw[←HON.out];exact HOL.out)
        clear b8 z8 V8 hbn hab hmin hneg hx
        go_wp2_with (at_builtin;(refine wp_rowKs (T:=47) (t:=2) (sz:=1) rfl _ _ rfl Tryd.underlying47 info_i64 rfl (by decide) (by decide) BP _ _ rfl HR8.out (some ⟨yb,0,none⟩) 1 1 ([x].map numL) rfl rfl HCE.out (num_one _) HLE2.out HSZ8.out ?_))
        intro v' w' hrow' ho' _
        have HRX:Hid (RowK 2 1 w' BP v' ((out++ [x]).map numL)):=Lh (by rw[List.map_append];exact hrow')
        have HBX:=Lh (HBQ.out.trans ((HB8.out.mono HBPQ.out).trans ho'.bel))
        have HSL:Hid (sliceLen v'=on+1):=Lh (by
         obtain⟨a,c,e⟩:=HRX.out.size
         rw[e]
         show((out++ [x]).map numL).length=on+1
         rw[Ky,Kq,HON.out]
         rfl)
        clear hrow' ho' x0
        go_wp2
        go_roundw
        case rel=>exact⟨_,HWN.out,HRX.out,HBX.out⟩
        case measure=>rw[HSL.out];have:=HOS.out;simp only[sliceLen];omega
end
end Go.Proofs.YtgmfkbamfnkbgaaDoor
