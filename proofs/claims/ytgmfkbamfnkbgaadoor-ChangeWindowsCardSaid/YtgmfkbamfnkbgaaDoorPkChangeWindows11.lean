/-
  Package change: the turns of a goal that both configs have: walked.
-/
import Derived.Test.YtgmfkbamfnkbgaaDoorPkChangeWindows08
set_option maxRecDepth 100000
set_option maxHeartbeats 16000000
namespace Go.Proofs.YtgmfkbamfnkbgaaDoor
open Lib renaming hid→Lh
open List renaming setIfInBounds_toArray→Lq,set_cons_zero→Lj,set_cons_succ→Lk,getElem?_eq_getElem→Kh,length_append→Kq,take_succ_cons→Kj,length_map→Ky,take_zero→Jh,drop_succ_cons→Jj,drop_zero→Jk
open Nat renaming reduceAdd→Lx,zero_add→Ly,le_refl→Mz
open Go.RowKit.Below renaming refl→Mj
section
open Go.RowKit
def TBt (B:Nat) (l:List Value) (t:TrC):Nat→Value→World→Prop
 |5,v,w=>Turs w B v [t]
 |i,v,_=>v=List.getD l i undef
theorem TBt.keep (B:Nat) (l:List Value) (t:TrC): ∀(i:Nat) (v:Value) (w w':World),TBt B l t i v w→Below w.heap.size w w'→TBt B l t i v w':=by
 intro i v w w' h hb
 unfold TBt at h ⊢
 split at h
 ·exact h.below hb
 ·exact h
def headT (a b:GlC) (i:Nat):List TrC:=⟨b.name,nNone,kindG a b⟩::(b.rules.take i).map (fun r=>⟨b.name,r.name,kindR a b r⟩)
def restT (a b:GlC) (i:Nat):List TrC:=((a.rules.take i).filter (fun r=>(getR b.rules r.name).isNone)).map (fun r=>⟨b.name,r.name,4⟩)
theorem headT_succ (a b:GlC) (i:Nat) {r:RlC} (h:b.rules[i]?=some r):headT a b (i+1)=headT a b i++ [⟨b.name,r.name,kindR a b r⟩]:=by
 unfold headT
 rw[List.take_add_one,h,List.map_append]
 rfl
theorem headT_len (a b:GlC) (i:Nat):(headT a b i).length≤b.rules.length+1:=by
 unfold headT
 rw[List.length_cons,Ky,List.length_take]
 omega
theorem restT_none (a b:GlC) (i:Nat) {r:RlC} (h:a.rules[i]?=some r) (hn:getR b.rules r.name=none):restT a b (i+1)=restT a b i++ [⟨b.name,r.name,4⟩]:=by
 unfold restT
 rw[List.take_add_one,h,List.filter_append,List.map_append]
 simp[hn]
theorem restT_some (a b:GlC) (i:Nat) {r x:RlC} (h:a.rules[i]?=some r) (hn:getR b.rules r.name=some x):restT a b (i+1)=restT a b i:=by
 unfold restT
 rw[List.take_add_one,h,List.filter_append,List.map_append]
 simp[hn]
theorem restT_len (a b:GlC) (i:Nat):(restT a b i).length≤a.rules.length:=by
 unfold restT
 rw[Ky]
 refine Nat.le_trans (List.length_filter_le ..) ?_
 rw[List.length_take]
 omega
theorem bothT_eq (a b:GlC) {m n:Nat} (hm:b.rules.length=m) (hn:a.rules.length=n):bothT a b=headT a b m++restT a b n:=by
 unfold bothT headT restT goneR
 rw[←hm,←hn,List.take_length,List.take_length]
 rfl
theorem not_same {n n':ByteArray} {p p':Bool} {l l' s s' f f' h h' k k':Int} (hs: ¬SameRl ⟨n,p,l,s,f,h,k⟩ ⟨n',p',l',s',f',h',k'⟩):(n.toList==n'.toList)=false∨(n'=n∧¬p=p')∨(n'=n∧p'=p∧¬l=l')∨(n'=n∧p'=p∧l'=l∧¬s=s')∨(n'=n∧p'=p∧l'=l∧s'=s∧¬f=f')∨(n'=n∧p'=p∧l'=l∧s'=s∧f'=f∧¬h=h')∨(n'=n∧p'=p∧l'=l∧s'=s∧f'=f∧h'=h∧¬k=k'):=by
 rw[str_eqb,decide_eq_false_iff_not]
 by_cases h1:n=n'
 ·refine Or.inr ?_
  by_cases h2:p=p'
  ·refine Or.inr ?_
   by_cases h3:l=l'
   ·refine Or.inr ?_
    by_cases h4:s=s'
    ·refine Or.inr ?_
     by_cases h5:f=f'
     ·refine Or.inr ?_
      by_cases h6:h=h'
      ·exact Or.inr ⟨h1.symm,h2.symm,h3.symm,h4.symm,h5.symm,h6.symm,fun h7=>hs ⟨h1,h2,h3,h4,h5,h6,h7⟩⟩
      ·exact Or.inl ⟨h1.symm,h2.symm,h3.symm,h4.symm,h5.symm,h6⟩
     ·exact Or.inl ⟨h1.symm,h2.symm,h3.symm,h4.symm,h5⟩
    ·exact Or.inl ⟨h1.symm,h2.symm,h3.symm,h4⟩
   ·exact Or.inl ⟨h1.symm,h2.symm,h3⟩
  ·exact Or.inl ⟨h1.symm,h2⟩
 ·exact Or.inl h1
theorem yes_same {n n':ByteArray} {p p':Bool} {l l' s s' f f' h h' k k':Int} (hs:SameRl ⟨n,p,l,s,f,h,k⟩ ⟨n',p',l',s',f',h',k'⟩):n'=n∧p'=p∧l'=l∧s'=s∧f'=f∧h'=h∧k'=k:=⟨hs.1.symm,hs.2.1.symm,hs.2.2.1.symm,hs.2.2.2.1.symm,hs.2.2.2.2.1.symm,hs.2.2.2.2.2.1.symm,hs.2.2.2.2.2.2.symm⟩
theorem inboth_any (a b:GlC) (u1 u2:List Value) (w:World) (h1:GolI w u1 a) (h2:GolI w u2 b) (l1:a.rules.length≤400000) (l2:b.rules.length≤400000):
  Calls Tryd.prog 20 #[.agg u1.toArray, .agg u2.toArray] w (GivesT (bothT a b) w):=by
 have HSC:=Lh (fun W (hb:Below w.heap.size w W)=>same_any a b u1 u2 W (h1.below hb) (h2.below hb) l1 l2)
 obtain⟨q,hq⟩: ∃q,decide (StaysS a b)=q:=⟨_,rfl⟩
 rw[hq]at HSC
 have HKN:Hid (∀r,getR a.rules r.name=none→kindR a b r=1):=Lh (fun r h=>by unfold kindR;rw[h])
 have HKQ:Hid (∀r had,getR a.rules r.name=some had→kindR a b r=if(q&&decide (SameRl had r))=true then 2 else 3):=Lh (fun r had h=>by
  unfold kindR
  rw[h,←hq,←Bool.decide_and]
  simp only[decide_eq_true_eq])
 have HKG:Hid (kindG a b=if q=true then 2 else 3):=Lh (by
  unfold kindG
  rw[←hq]
  simp only[decide_eq_true_eq])
 have HHS:=Lh (fun i r h=> @headT_succ a b i r h)
 have HHL:=Lh (fun i=>headT_len a b i)
 have HRN:=Lh (fun i r h hn=> @restT_none a b i r h hn)
 have HRS:=Lh (fun i r x h hn=> @restT_some a b i r x h hn)
 have HRL:=Lh (fun i=>restT_len a b i)
 have HH0:Hid (headT a b 0= [⟨b.name,nNone,kindG a b⟩]):=Lh (by unfold headT;simp)
 have HR0:Hid (restT a b 0= []):=Lh (by unfold restT;simp)
 obtain⟨v1,v2,rfl,i1,i2⟩:=h1
 obtain⟨x1,xk,rfl,_⟩:=i1.size
 obtain⟨x2,xl,rfl,hx2⟩:=i2.size
 obtain⟨v3,v4,rfl,j1,j2⟩:=h2
 obtain⟨y1,yk,rfl,_⟩:=j1.size
 obtain⟨y2,yl,rfl,hy2⟩:=j2.size
 obtain⟨xn,hxn⟩: ∃n,(a.labels.map labV).length=n:=⟨_,rfl⟩
 obtain⟨xm,hxm⟩: ∃n,(a.rules.map rulV).length=n:=⟨_,rfl⟩
 obtain⟨yn,hyn⟩: ∃n,(b.labels.map labV).length=n:=⟨_,rfl⟩
 obtain⟨ym,hym⟩: ∃n,(b.rules.map rulV).length=n:=⟨_,rfl⟩
 have hxr:a.rules.length=xm:=by rw[←hxm,Ky]
 have hyr:b.rules.length=ym:=by rw[←hym,Ky]
 have HBT:=Lh (bothT_eq a b hyr hxr)
 have HLN:Hid (a.rules.length=xm∧a.rules.length≤400000∧b.rules.length=ym∧b.rules.length≤400000):=Lh ⟨hxr,l1,hyr,l2⟩
 have HXV:Hid (∀i,i<xm→∃r,a.rules[i]?=some r∧(a.rules.map rulV)[i]?=some (rulV r)):=Lh (fun i hi=>⟨a.rules[i],Kh (by omega),by rw[List.getElem?_map,Kh (by omega)];rfl⟩)
 have HYV:Hid (∀i,i<ym→∃r,b.rules[i]?=some r∧(b.rules.map rulV)[i]?=some (rulV r)):=Lh (fun i hi=>⟨b.rules[i],Kh (by omega),by rw[List.getElem?_map,Kh (by omega)];rfl⟩)
 rw[hxm]at i2 hx2
 rw[hym]at j2 hy2
 rw[hxn,hxm,hyn,hym]at HSC ⊢
 have i2:=Lh i2
 have j2:=Lh j2
 clear i1 j1 hxn hxm hyn hym hxr hyr l1 l2 hq
 obtain⟨xnm,xtg,xgn,xla,xro,xca,xL,xR⟩:=a
 obtain⟨ynm,ytg,ygn,yla,yro,yca,yL,yR⟩:=b
 simp only[golL]at HSC HKN HKQ HKG HHS HHL HRN HRS HRL HH0 HR0 HBT HLN HXV HYV i2 j2 ⊢
 have HNM:Hid ((⟨ynm,ytg,ygn,yla,yro,yca,yL,yR⟩:GlC).name=ynm):=Lh rfl
 obtain⟨A,hA⟩: ∃A,(⟨xnm,xtg,xgn,xla,xro,xca,xL,xR⟩:GlC)=A:=⟨_,rfl⟩
 obtain⟨C,hC⟩: ∃A,(⟨ynm,ytg,ygn,yla,yro,yca,yL,yR⟩:GlC)=A:=⟨_,rfl⟩
 rw[hC]at HNM
 rw[hA,hC]at HKN HKQ HKG HHS HHL HRN HRS HRL HH0 HR0 HBT ⊢
 clear hA hC
 obtain⟨ub,W0,hub,hW0,V0,b0,z0⟩:=boxL w [.string xnm, .int .u32 xtg, .int .i64 xgn, .int .i64 xla, .int .i64 xro, .int .i64 xca, .slice x1 xn xk, .slice x2 xm xl] 44
 obtain⟨vb,W1,hvb,hW1,V1,b1,z1⟩:=boxL W0 [.string ynm, .int .u32 ytg, .int .i64 ygn, .int .i64 yla, .int .i64 yro, .int .i64 yca, .slice y1 yn yk, .slice y2 ym yl] 44
 have HV0:=Lh (V0.after b1)
 have HV1:=Lh V1
 have HBW:=Lh (below_step b0 b1)
 obtain⟨B,hB⟩: ∃B,W1.heap.size=B:=⟨_,rfl⟩
 have HBB:Hid (W1.heap.size=B∧w.heap.size≤B):=Lh ⟨hB,by have:=(below_step b0 b1).size;omega⟩
 have HXI:=Lh (i2.out.below (below_step b0 b1))
 have HYI:=Lh (j2.out.below (below_step b0 b1))
 have a0:=HV0.out.c 0 rfl;have a1:=HV0.out.c 1 rfl;have a2:=HV0.out.c 2 rfl;have a3:=HV0.out.c 3 rfl;have a4:=HV0.out.c 4 rfl;have a5:=HV0.out.c 5 rfl;have a6:=HV0.out.c 6 rfl;have a7:=HV0.out.c 7 rfl
 have e0:=HV1.out.c 0 rfl;have e1:=HV1.out.c 1 rfl;have e2:=HV1.out.c 2 rfl;have e3:=HV1.out.c 3 rfl;have e4:=HV1.out.c 4 rfl;have e5:=HV1.out.c 5 rfl;have e6:=HV1.out.c 6 rfl;have e7:=HV1.out.c 7 rfl
 clear i2 j2 V0 V1 b0 b1 z0 z1 hB
 cases q
 ·have HKG2:Hid (kindG A C=3):=Lh (by rw[HKG.out];rfl)
  go_enter Tryd.func20,Tryd.ntmps20
  go_wp2_with (go_at_call 38;(with_reducible refine(HSC.out W1 HBW.out).mono ?_);rintro e W2 ⟨rfl,h2⟩;have HB2:=Lh h2;clear h2;have z0:=(HV1.out.after HB2.out).c 0 rfl)
  refine wp_region_mix 6 (TBt B [.pointer (some ⟨vb,0,none⟩), .string ynm, .bool false, .int .i64 3, .agg #[.string ynm, .string ⟨#[]⟩, .int .i64 3]] ⟨ynm,nNone,3⟩) (fun _=>false) (by kernel_rfl) (by kernel_rfl) (TBt.keep _ _ _) (fun _ _ _ h=>by cases h) ?_ ?_
  ·refine⟨?_,?_,?_,?_,?_,?_,trivial⟩
   all_goals
    intro u W hb hd
    have z0:=(HV1.out.after (below_step HB2.out hb)).c 0 rfl
    have hBW:B≤W.heap.size:=by have:=(below_step HB2.out hb).size;have:=HBB.out;omega
    simp only[Kj,Jh,putAll,Act.put,Lq,Lk,Lj,Ly,Lx]
    try (have e0:u _=List.getD _ _ _:=hd.1 rfl (by decide);rw[e0])
    try (have e1:u _=List.getD _ _ _:=hd.2.1 rfl (by decide);rw[e1])
    try simp only[List.getD_cons_zero,List.getD_cons_succ]
    go_wp2_with (go_at_call 39;(with_reducible refine(stays_any _ _).mono ?_);rintro e W3 ⟨rfl,rfl⟩)
    first|exact⟨rfl,Mj _ _⟩|exact⟨_,rfl,rfl,Mj _ _⟩|exact⟨_,rfl,rfl,Mj _ _,fun h=>by simp at h⟩|exact⟨turs_made W B _ ⟨ynm,nNone,3⟩ rfl hBW,(Mj _ _).alloc (Mz _) _⟩|exact⟨_,rfl,turs_made W B _ ⟨ynm,nNone,3⟩ rfl hBW,(Mj _ _).alloc (Mz _) _,fun h=>by simp at h⟩
  intro u W3 hb3 hT _
  have HT5:Hid (Turs W3 B (u 5) [⟨ynm,nNone,3⟩]):=Lh (hT 5 (by decide))
  obtain⟨v5,hv5⟩: ∃v5,u 5=v5:=⟨_,rfl⟩
  rw[hv5]at HT5
  have HB3:=Lh (below_step HB2.out hb3)
  have y7:=(HV1.out.after HB3.out).c 7 rfl
  clear hb3 hT z0
  simp only[Kj,Jh,Jj,Jk,putAll,Act.put,Lq,Lk,Lj,Ly,Lx]
  rw[hv5]
  go_wp2
  go_loopw [6,28] (fun v6 v28 wr=> ∃i:Nat,i≤ym∧v28= .int .i64 (i:Int)∧Turs wr B v6 (headT A C i)∧Below B W1 wr) (fun _ v28 _=>ym-(intOf v28).toNat)
  case atStart=>exact⟨0,Nat.zero_le _,rfl,by rw[HH0.out,HKG2.out];exact HT5.out,by have:=HB3.out;rw[HBB.out.1]at this;exact this⟩
  case round=>
   obtain⟨i,hi,rfl,hrow,hb⟩:=hrel
   have HR:=Lh hrow
   have hbw:Below W1.heap.size W1 wr:=by rw[HBB.out.1];exact hb
   have HBR:=Lh hbw
   by_cases hin:i<ym
   ·obtain⟨⟨rn,rp,rl,rs,rf,rh,rk⟩,hr,hru⟩:=HYV.out i hin
    obtain⟨b,off,rfl,hlt,hcell⟩:=HYI.out.at i _ hru
    simp only[rulV]at hcell
    have f0:wr.cell? ⟨b,off+i*7,none⟩=some (.string rn):=(hbw.cell (p:=⟨b,off+i*7,none⟩) hlt).trans (hcell 0 _ rfl);have f1:wr.cell? ⟨b,off+i*7+1,none⟩=some (.bool rp):=(hbw.cell (p:=⟨b,off+i*7+1,none⟩) hlt).trans (hcell 1 _ rfl);have f2:wr.cell? ⟨b,off+i*7+2,none⟩=some (.int .i64 rl):=(hbw.cell (p:=⟨b,off+i*7+2,none⟩) hlt).trans (hcell 2 _ rfl);have f3:wr.cell? ⟨b,off+i*7+3,none⟩=some (.int .i64 rs):=(hbw.cell (p:=⟨b,off+i*7+3,none⟩) hlt).trans (hcell 3 _ rfl);have f4:wr.cell? ⟨b,off+i*7+4,none⟩=some (.int .u64 rf):=(hbw.cell (p:=⟨b,off+i*7+4,none⟩) hlt).trans (hcell 4 _ rfl);have f5:wr.cell? ⟨b,off+i*7+5,none⟩=some (.int .i64 rh):=(hbw.cell (p:=⟨b,off+i*7+5,none⟩) hlt).trans (hcell 5 _ rfl);have f6:wr.cell? ⟨b,off+i*7+6,none⟩=some (.int .i64 rk):=(hbw.cell (p:=⟨b,off+i*7+6,none⟩) hlt).trans (hcell 6 _ rfl)
    have HHI:=Lh (HHS.out i _ hr)
    have hln:=HLN.out
    have hi1:IntKind.i64.wrap ((i:Int)+1)=((i+1:Nat):Int):=by rw[IntKind.wrap_i64];omega
    obtain⟨xb,W4,hxb,hW4,V4,b4,z4⟩:=boxL wr [.string ⟨#[]⟩, .bool false, .int .i64 0, .int .i64 0, .int .u64 0, .int .i64 0, .int .i64 0] 52
    have c0:=V4.c 0 rfl;have q0:=V4.q 0 rfl;have c1:=V4.c 1 rfl;have q1:=V4.q 1 rfl;have c2:=V4.c 2 rfl;have q2:=V4.q 2 rfl;have c3:=V4.c 3 rfl;have q3:=V4.q 3 rfl;have c4:=V4.c 4 rfl;have q4:=V4.q 4 rfl;have c5:=V4.c 5 rfl;have q5:=V4.q 5 rfl;have c6:=V4.c 6 rfl;have q6:=V4.q 6 rfl
    obtain⟨W5,hW5⟩: ∃W5,putL xb 0 [.string rn, .bool rp, .int .i64 rl, .int .i64 rs, .int .u64 rf, .int .i64 rh, .int .i64 rk] W4=W5:=⟨_,rfl⟩
    have HV5:Hid (VarL W5 xb [.string rn, .bool rp, .int .i64 rl, .int .i64 rs, .int .u64 rf, .int .i64 rh, .int .i64 rk]):=Lh (by rw[←hW5];exact putL_var [.string rn, .bool rp, .int .i64 rl, .int .i64 rs, .int .u64 rf, .int .i64 rh, .int .i64 rk] [] [.string ⟨#[]⟩, .bool false, .int .i64 0, .int .i64 0, .int .u64 0, .int .i64 0, .int .i64 0] W4 V4 rfl)
    have hb5:Below wr.heap.size wr W5:=by rw[←hW5];exact putL_below _ (by omega) _ _ b4
    have HBW5:=Lh (below_step HBR.out hb5)
    have HRX:=Lh (HR.out.below hb5)
    have HRN2:=Lh (rule_named xR rn _ W5 (HXI.out.below HBW5.out) (by have:=HLN.out;omega))
    have x7:=(HV0.out.after HBW5.out).c 7 rfl
    have d0:=HV5.out.c 0 rfl
    have HLE:Hid (((headT A C i).map turV).length≤1000000):=Lh (by have:=HHL.out i;rw[Ky];omega)
    have hya:(i:Int)<(ym:Int):=by omega
    simp only[putL,Ly]at hW5
    clear hln hr hru hlt hcell hb hbw hrow b4 z4 V4 hb5 y7
    go_wp2_with (first
     |(go_at_call 40;(with_reducible refine(HRN2.out).mono ?_);rintro e w6 ⟨cs,bb,rfl,hor,h6⟩;have HB6:=Lh (below_step HBW5.out h6);have HV6:=Lh (HV5.out.after h6);have HR6:=Lh (HRX.out.below h6);clear h6;obtain⟨yb,W7,hyb,hW7,V7,b7,z7⟩:=boxL w6 [.string ⟨#[]⟩, .bool false, .int .i64 0, .int .i64 0, .int .u64 0, .int .i64 0, .int .i64 0] 52;have HV7b:=Lh (HV6.out.after b7);have HB7:=Lh (below_step HB6.out b7);have HR7:=Lh (HR6.out.below b7);have k0:=V7.c 0 rfl;have l0:=V7.q 0 rfl;have k1:=V7.c 1 rfl;have l1:=V7.q 1 rfl;have k2:=V7.c 2 rfl;have l2:=V7.q 2 rfl;have k3:=V7.c 3 rfl;have l3:=V7.q 3 rfl;have k4:=V7.c 4 rfl;have l4:=V7.q 4 rfl;have k5:=V7.c 5 rfl;have l5:=V7.q 5 rfl;have k6:=V7.c 6 rfl;have l6:=V7.q 6 rfl;rcases hor with⟨rfl,had,hf,rfl⟩|⟨rfl,hf,rfl⟩<;>first
      |(obtain⟨dn,dp,dl,ds,df,dh,dk⟩:=had;simp only[rulV];obtain⟨W8,hW8⟩: ∃W8,putL yb 0 [.string dn, .bool dp, .int .i64 dl, .int .i64 ds, .int .u64 df, .int .i64 dh, .int .i64 dk] W7=W8:=⟨_,rfl⟩;have HV8:Hid (VarL W8 yb [.string dn, .bool dp, .int .i64 dl, .int .i64 ds, .int .u64 df, .int .i64 dh, .int .i64 dk]):=Lh (by rw[←hW8];exact putL_var [.string dn, .bool dp, .int .i64 dl, .int .i64 ds, .int .u64 df, .int .i64 dh, .int .i64 dk] [] [.string ⟨#[]⟩, .bool false, .int .i64 0, .int .i64 0, .int .u64 0, .int .i64 0, .int .i64 0] W7 V7 rfl);have hb8:Below w6.heap.size w6 W8:=(by rw[←hW8];exact putL_below _ (by omega) _ _ b7);have HKR:Hid (kindR A C (⟨rn,rp,rl,rs,rf,rh,rk⟩:RlC)=3):=Lh (by rw[HKQ.out (⟨rn,rp,rl,rs,rf,rh,rk⟩:RlC) (⟨dn,dp,dl,ds,df,dh,dk⟩:RlC) hf];rfl);clear hf;have hb8w:=below_step HB6.out hb8;have z0:=(HV1.out.after hb8w).c 0 rfl;have m0:=(HV6.out.after hb8).c 0 rfl;have m1:=(HV6.out.after hb8).c 1 rfl;have m2:=(HV6.out.after hb8).c 2 rfl;have m3:=(HV6.out.after hb8).c 3 rfl;have m4:=(HV6.out.after hb8).c 4 rfl;have m5:=(HV6.out.after hb8).c 5 rfl;have m6:=(HV6.out.after hb8).c 6 rfl;have n0:=HV8.out.c 0 rfl;have n1:=HV8.out.c 1 rfl;have n2:=HV8.out.c 2 rfl;have n3:=HV8.out.c 3 rfl;have n4:=HV8.out.c 4 rfl;have n5:=HV8.out.c 5 rfl;have n6:=HV8.out.c 6 rfl;obtain⟨tb,W9,htb,hW9,V9,b9,z9⟩:=boxL W8 [.string ynm, .string rn, .int .i64 3] 37;have HR9:=Lh ((HR6.out.below hb8).below b9);have HB9:=Lh (below_step hb8w b9);have HCE:=Lh (one_cells (t:=⟨ynm,rn,3⟩) V9);have HSZ:Hid (B≤W9.heap.size):=Lh (by have:=HB9.out.size;have:=HBB.out;omega);simp only[putL,Ly]at hW8;clear hb8 hb8w b9 z9 V9 b7 z7 V7)
      |(simp only[zRul];obtain⟨W8,hW8⟩: ∃W8,putL yb 0 [.string ⟨#[]⟩, .bool false, .int .i64 0, .int .i64 0, .int .u64 0, .int .i64 0, .int .i64 0] W7=W8:=⟨_,rfl⟩;have HV8:Hid (VarL W8 yb [.string ⟨#[]⟩, .bool false, .int .i64 0, .int .i64 0, .int .u64 0, .int .i64 0, .int .i64 0]):=Lh (by rw[←hW8];exact putL_var [.string ⟨#[]⟩, .bool false, .int .i64 0, .int .i64 0, .int .u64 0, .int .i64 0, .int .i64 0] [] [.string ⟨#[]⟩, .bool false, .int .i64 0, .int .i64 0, .int .u64 0, .int .i64 0, .int .i64 0] W7 V7 rfl);have hb8:Below w6.heap.size w6 W8:=(by rw[←hW8];exact putL_below _ (by omega) _ _ b7);have HKR:Hid (kindR A C (⟨rn,rp,rl,rs,rf,rh,rk⟩:RlC)=1):=Lh (HKN.out (⟨rn,rp,rl,rs,rf,rh,rk⟩:RlC) hf);clear hf;have hb8w:=below_step HB6.out hb8;have z0:=(HV1.out.after hb8w).c 0 rfl;have m0:=(HV6.out.after hb8).c 0 rfl;have m1:=(HV6.out.after hb8).c 1 rfl;have m2:=(HV6.out.after hb8).c 2 rfl;have m3:=(HV6.out.after hb8).c 3 rfl;have m4:=(HV6.out.after hb8).c 4 rfl;have m5:=(HV6.out.after hb8).c 5 rfl;have m6:=(HV6.out.after hb8).c 6 rfl;have n0:=HV8.out.c 0 rfl;have n1:=HV8.out.c 1 rfl;have n2:=HV8.out.c 2 rfl;have n3:=HV8.out.c 3 rfl;have n4:=HV8.out.c 4 rfl;have n5:=HV8.out.c 5 rfl;have n6:=HV8.out.c 6 rfl;obtain⟨tb,W9,htb,hW9,V9,b9,z9⟩:=boxL W8 [.string ynm, .string rn, .int .i64 1] 37;have HR9:=Lh ((HR6.out.below hb8).below b9);have HB9:=Lh (below_step hb8w b9);have HCE:=Lh (one_cells (t:=⟨ynm,rn,1⟩) V9);have HSZ:Hid (B≤W9.heap.size):=Lh (by have:=HB9.out.size;have:=HBB.out;omega);simp only[putL,Ly]at hW8;clear hb8 hb8w b9 z9 V9 b7 z7 V7))
     |(go_at_call 39;(with_reducible refine(stays_any _ _).mono ?_);rintro e W9 ⟨rfl,rfl⟩)
     |(at_builtin;(refine wp_rowK (T:=29) (t:=37) (sz:=3) rfl _ _ rfl Tryd.underlying29 info_turn rfl (by decide) (by decide) B _ _ rfl HR9.out tb (turV ⟨ynm,rn,_⟩) rfl rfl HCE.out (tur_one1 _) HLE.out HSZ.out ?_);intro v' w' hrow' ho' _;have HRY:Hid (Turs w' B v' (headT A C (i+1))):=Lh (by rw[HHI.out];rw[HKR.out];exact turs_more hrow');have HBY:Hid (Below W1.heap.size W1 w'):=Lh (HB9.out.trans (by rw[HBB.out.1];exact ho'.bel));clear hrow' ho'))
    all_goals
     go_roundw
     case rel=>exact⟨i+1,by omega,by go_num,HRY.out,by have:=HBY.out;rw[HBB.out.1]at this;exact this⟩
     case measure=>simp[intOf];omega
   ·have en:ym=i:=by omega
    subst en
    have x7:=(HV0.out.after hbw).c 7 rfl
    clear hrow hb hbw y7
    go_wp2
    go_loopw [6,61] (fun v6 v61 wr=> ∃i:Nat,i≤xm∧v61= .int .i64 (i:Int)∧Turs wr B v6 (headT A C ym++restT A C i)∧Below B W1 wr) (fun _ v61 _=>xm-(intOf v61).toNat)
    case atStart=>exact⟨0,Nat.zero_le _,rfl,by rw[HR0.out,List.append_nil];exact HR.out,by have:=HBR.out;rw[HBB.out.1]at this;exact this⟩
    case round=>
     rename_i wq _
     clear HR HBR x7 hi
     obtain⟨i,hi,rfl,hrow,hb⟩:=hrel
     have HR:=Lh hrow
     have hbw:Below W1.heap.size W1 wr:=by rw[HBB.out.1];exact hb
     have HBR:=Lh hbw
     by_cases hin:i<xm
     ·obtain⟨r,hr,hru⟩:=HXV.out i hin
      obtain⟨b,off,rfl,hlt,hcell⟩:=HXI.out.at i _ hru
      simp only[rulV]at hcell
      have f0:wr.cell? ⟨b,off+i*7,none⟩=some (.string r.name):=(hbw.cell (p:=⟨b,off+i*7,none⟩) hlt).trans (hcell 0 _ rfl);have f1:wr.cell? ⟨b,off+i*7+1,none⟩=some (.bool r.page):=(hbw.cell (p:=⟨b,off+i*7+1,none⟩) hlt).trans (hcell 1 _ rfl);have f2:wr.cell? ⟨b,off+i*7+2,none⟩=some (.int .i64 r.long):=(hbw.cell (p:=⟨b,off+i*7+2,none⟩) hlt).trans (hcell 2 _ rfl);have f3:wr.cell? ⟨b,off+i*7+3,none⟩=some (.int .i64 r.short):=(hbw.cell (p:=⟨b,off+i*7+3,none⟩) hlt).trans (hcell 3 _ rfl);have f4:wr.cell? ⟨b,off+i*7+4,none⟩=some (.int .u64 r.factor):=(hbw.cell (p:=⟨b,off+i*7+4,none⟩) hlt).trans (hcell 4 _ rfl);have f5:wr.cell? ⟨b,off+i*7+5,none⟩=some (.int .i64 r.hold):=(hbw.cell (p:=⟨b,off+i*7+5,none⟩) hlt).trans (hcell 5 _ rfl);have f6:wr.cell? ⟨b,off+i*7+6,none⟩=some (.int .i64 r.keep):=(hbw.cell (p:=⟨b,off+i*7+6,none⟩) hlt).trans (hcell 6 _ rfl)
      have HRR:=Lh hr
      have hln:=HLN.out
      have hi1:IntKind.i64.wrap ((i:Int)+1)=((i+1:Nat):Int):=by rw[IntKind.wrap_i64];omega
      obtain⟨xb,W4,hxb,hW4,V4,b4,z4⟩:=boxL wr [.string ⟨#[]⟩, .bool false, .int .i64 0, .int .i64 0, .int .u64 0, .int .i64 0, .int .i64 0] 52
      have c0:=V4.c 0 rfl;have q0:=V4.q 0 rfl;have c1:=V4.c 1 rfl;have q1:=V4.q 1 rfl;have c2:=V4.c 2 rfl;have q2:=V4.q 2 rfl;have c3:=V4.c 3 rfl;have q3:=V4.q 3 rfl;have c4:=V4.c 4 rfl;have q4:=V4.q 4 rfl;have c5:=V4.c 5 rfl;have q5:=V4.q 5 rfl;have c6:=V4.c 6 rfl;have q6:=V4.q 6 rfl
      obtain⟨W5,hW5⟩: ∃W5,putL xb 0 [.string r.name, .bool r.page, .int .i64 r.long, .int .i64 r.short, .int .u64 r.factor, .int .i64 r.hold, .int .i64 r.keep] W4=W5:=⟨_,rfl⟩
      have HV5:Hid (VarL W5 xb [.string r.name, .bool r.page, .int .i64 r.long, .int .i64 r.short, .int .u64 r.factor, .int .i64 r.hold, .int .i64 r.keep]):=Lh (by rw[←hW5];exact putL_var [.string r.name, .bool r.page, .int .i64 r.long, .int .i64 r.short, .int .u64 r.factor, .int .i64 r.hold, .int .i64 r.keep] [] [.string ⟨#[]⟩, .bool false, .int .i64 0, .int .i64 0, .int .u64 0, .int .i64 0, .int .i64 0] W4 V4 rfl)
      have hb5:Below wr.heap.size wr W5:=by rw[←hW5];exact putL_below _ (by omega) _ _ b4
      have HBW5:=Lh (below_step HBR.out hb5)
      have HRX:=Lh (HR.out.below hb5)
      have HRN2:=Lh (rule_named yR r.name _ W5 (HYI.out.below HBW5.out) (by have:=HLN.out;omega))
      have y7:=(HV1.out.after HBW5.out).c 7 rfl
      have d0:=HV5.out.c 0 rfl
      have HLE:Hid (((headT A C ym++restT A C i).map turV).length≤1000000):=Lh (by have:=HRL.out i;have:=HHL.out ym;rw[Ky,Kq];omega)
      have hya:(i:Int)<(xm:Int):=by omega
      simp only[putL,Ly]at hW5
      clear hln hr hru hlt hcell hb hbw hrow b4 z4 V4 hb5
      go_wp2_with (first
       |(go_at_call 40;(with_reducible refine(HRN2.out).mono ?_);rintro e w6 ⟨cs,bb,rfl,hor,h6⟩;have HB6:=Lh (below_step HBW5.out h6);have HV6:=Lh (HV5.out.after h6);have HR6:=Lh (HRX.out.below h6);clear h6;obtain⟨yb,W7,hyb,hW7,V7,b7,z7⟩:=boxL w6 [.string ⟨#[]⟩, .bool false, .int .i64 0, .int .i64 0, .int .u64 0, .int .i64 0, .int .i64 0] 52;have HB7:=Lh (below_step HB6.out b7);have k0:=V7.c 0 rfl;have l0:=V7.q 0 rfl;have k1:=V7.c 1 rfl;have l1:=V7.q 1 rfl;have k2:=V7.c 2 rfl;have l2:=V7.q 2 rfl;have k3:=V7.c 3 rfl;have l3:=V7.q 3 rfl;have k4:=V7.c 4 rfl;have l4:=V7.q 4 rfl;have k5:=V7.c 5 rfl;have l5:=V7.q 5 rfl;have k6:=V7.c 6 rfl;have l6:=V7.q 6 rfl;rcases hor with⟨rfl,had,hf,rfl⟩|⟨rfl,hf,rfl⟩<;>first
        |(simp only[rulV];obtain⟨W8,hW8⟩: ∃W8,putL yb 0 [.string had.name, .bool had.page, .int .i64 had.long, .int .i64 had.short, .int .u64 had.factor, .int .i64 had.hold, .int .i64 had.keep] W7=W8:=⟨_,rfl⟩;have hb8:Below w6.heap.size w6 W8:=(by rw[←hW8];exact putL_below _ (by omega) _ _ b7);have HRY:Hid (Turs W8 B _ (headT A C ym++restT A C (i+1))):=Lh (by rw[HRS.out i r had HRR.out hf];exact HR6.out.below hb8);have HBY:=Lh (below_step HB6.out hb8);simp only[putL,Ly]at hW8;clear hf hb8 b7 z7 V7)
        |(simp only[zRul];obtain⟨W8,hW8⟩: ∃W8,putL yb 0 [.string ⟨#[]⟩, .bool false, .int .i64 0, .int .i64 0, .int .u64 0, .int .i64 0, .int .i64 0] W7=W8:=⟨_,rfl⟩;have hb8:Below w6.heap.size w6 W8:=(by rw[←hW8];exact putL_below _ (by omega) _ _ b7);have HRNI:=Lh (HRN.out i r HRR.out hf);have hb8w:=below_step HB6.out hb8;have z0:=(HV1.out.after hb8w).c 0 rfl;have m0:=(HV6.out.after hb8).c 0 rfl;obtain⟨tb,W9,htb,hW9,V9,b9,z9⟩:=boxL W8 [.string ynm, .string r.name, .int .i64 4] 37;have HR9:=Lh ((HR6.out.below hb8).below b9);have HB9:=Lh (below_step hb8w b9);have HCE:=Lh (one_cells (t:=⟨ynm,r.name,4⟩) V9);have HSZ:Hid (B≤W9.heap.size):=Lh (by have:=HB9.out.size;have:=HBB.out;omega);simp only[putL,Ly]at hW8;clear hf hb8 hb8w b9 z9 V9 b7 z7 V7))
       |(at_builtin;(refine wp_rowK (T:=29) (t:=37) (sz:=3) rfl _ _ rfl Tryd.underlying29 info_turn rfl (by decide) (by decide) B _ _ rfl HR9.out tb (turV ⟨ynm,r.name,4⟩) rfl rfl HCE.out (tur_one1 _) HLE.out HSZ.out ?_);intro v' w' hrow' ho' _;have HRY:Hid (Turs w' B v' (headT A C ym++restT A C (i+1))):=Lh (by rw[HRNI.out,←List.append_assoc];exact turs_more hrow');have HBY:Hid (Below W1.heap.size W1 w'):=Lh (HB9.out.trans (by rw[HBB.out.1];exact ho'.bel));clear hrow' ho'))
      all_goals
       go_roundw
       case rel=>exact⟨i+1,by omega,by go_num,HRY.out,by have:=HBY.out;rw[HBB.out.1]at this;exact this⟩
       case measure=>simp[intOf];omega
     ·have en:xm=i:=by omega
      subst en
      clear hrow hb hbw
      go_wp2
      go_ret
      exact⟨_,rfl,by rw[HBT.out];exact HR.out.weaken HBB.out.2,below_step HBW.out HBR.out⟩
 ·have HKG2:Hid (kindG A C=2):=Lh (by rw[HKG.out];rfl)
  go_enter Tryd.func20,Tryd.ntmps20
  go_wp2_with (go_at_call 38;(with_reducible refine(HSC.out W1 HBW.out).mono ?_);rintro e W2 ⟨rfl,h2⟩;have HB2:=Lh h2;clear h2;have z0:=(HV1.out.after HB2.out).c 0 rfl)
  refine wp_region_mix 6 (TBt B [.pointer (some ⟨vb,0,none⟩), .string ynm, .bool true, .int .i64 2, .agg #[.string ynm, .string ⟨#[]⟩, .int .i64 2]] ⟨ynm,nNone,2⟩) (fun _=>false) (by kernel_rfl) (by kernel_rfl) (TBt.keep _ _ _) (fun _ _ _ h=>by cases h) ?_ ?_
  ·refine⟨?_,?_,?_,?_,?_,?_,trivial⟩
   all_goals
    intro u W hb hd
    have z0:=(HV1.out.after (below_step HB2.out hb)).c 0 rfl
    have hBW:B≤W.heap.size:=by have:=(below_step HB2.out hb).size;have:=HBB.out;omega
    simp only[Kj,Jh,putAll,Act.put,Lq,Lk,Lj,Ly,Lx]
    try (have e0:u _=List.getD _ _ _:=hd.1 rfl (by decide);rw[e0])
    try (have e1:u _=List.getD _ _ _:=hd.2.1 rfl (by decide);rw[e1])
    try simp only[List.getD_cons_zero,List.getD_cons_succ]
    go_wp2_with (go_at_call 39;(with_reducible refine(stays_any _ _).mono ?_);rintro e W3 ⟨rfl,rfl⟩)
    first|exact⟨rfl,Mj _ _⟩|exact⟨_,rfl,rfl,Mj _ _⟩|exact⟨_,rfl,rfl,Mj _ _,fun h=>by simp at h⟩|exact⟨turs_made W B _ ⟨ynm,nNone,2⟩ rfl hBW,(Mj _ _).alloc (Mz _) _⟩|exact⟨_,rfl,turs_made W B _ ⟨ynm,nNone,2⟩ rfl hBW,(Mj _ _).alloc (Mz _) _,fun h=>by simp at h⟩
  intro u W3 hb3 hT _
  have HT5:Hid (Turs W3 B (u 5) [⟨ynm,nNone,2⟩]):=Lh (hT 5 (by decide))
  obtain⟨v5,hv5⟩: ∃v5,u 5=v5:=⟨_,rfl⟩
  rw[hv5]at HT5
  have HB3:=Lh (below_step HB2.out hb3)
  have y7:=(HV1.out.after HB3.out).c 7 rfl
  clear hb3 hT z0
  simp only[Kj,Jh,Jj,Jk,putAll,Act.put,Lq,Lk,Lj,Ly,Lx]
  rw[hv5]
  go_wp2
  go_loopw [6,28] (fun v6 v28 wr=> ∃i:Nat,i≤ym∧v28= .int .i64 (i:Int)∧Turs wr B v6 (headT A C i)∧Below B W1 wr) (fun _ v28 _=>ym-(intOf v28).toNat)
  case atStart=>exact⟨0,Nat.zero_le _,rfl,by rw[HH0.out,HKG2.out];exact HT5.out,by have:=HB3.out;rw[HBB.out.1]at this;exact this⟩
  case round=>
   obtain⟨i,hi,rfl,hrow,hb⟩:=hrel
   have HR:=Lh hrow
   have hbw:Below W1.heap.size W1 wr:=by rw[HBB.out.1];exact hb
   have HBR:=Lh hbw
   by_cases hin:i<ym
   ·obtain⟨⟨rn,rp,rl,rs,rf,rh,rk⟩,hr,hru⟩:=HYV.out i hin
    obtain⟨b,off,rfl,hlt,hcell⟩:=HYI.out.at i _ hru
    simp only[rulV]at hcell
    have f0:wr.cell? ⟨b,off+i*7,none⟩=some (.string rn):=(hbw.cell (p:=⟨b,off+i*7,none⟩) hlt).trans (hcell 0 _ rfl);have f1:wr.cell? ⟨b,off+i*7+1,none⟩=some (.bool rp):=(hbw.cell (p:=⟨b,off+i*7+1,none⟩) hlt).trans (hcell 1 _ rfl);have f2:wr.cell? ⟨b,off+i*7+2,none⟩=some (.int .i64 rl):=(hbw.cell (p:=⟨b,off+i*7+2,none⟩) hlt).trans (hcell 2 _ rfl);have f3:wr.cell? ⟨b,off+i*7+3,none⟩=some (.int .i64 rs):=(hbw.cell (p:=⟨b,off+i*7+3,none⟩) hlt).trans (hcell 3 _ rfl);have f4:wr.cell? ⟨b,off+i*7+4,none⟩=some (.int .u64 rf):=(hbw.cell (p:=⟨b,off+i*7+4,none⟩) hlt).trans (hcell 4 _ rfl);have f5:wr.cell? ⟨b,off+i*7+5,none⟩=some (.int .i64 rh):=(hbw.cell (p:=⟨b,off+i*7+5,none⟩) hlt).trans (hcell 5 _ rfl);have f6:wr.cell? ⟨b,off+i*7+6,none⟩=some (.int .i64 rk):=(hbw.cell (p:=⟨b,off+i*7+6,none⟩) hlt).trans (hcell 6 _ rfl)
    have HHI:=Lh (HHS.out i _ hr)
    have hln:=HLN.out
    have hi1:IntKind.i64.wrap ((i:Int)+1)=((i+1:Nat):Int):=by rw[IntKind.wrap_i64];omega
    obtain⟨xb,W4,hxb,hW4,V4,b4,z4⟩:=boxL wr [.string ⟨#[]⟩, .bool false, .int .i64 0, .int .i64 0, .int .u64 0, .int .i64 0, .int .i64 0] 52
    have c0:=V4.c 0 rfl;have q0:=V4.q 0 rfl;have c1:=V4.c 1 rfl;have q1:=V4.q 1 rfl;have c2:=V4.c 2 rfl;have q2:=V4.q 2 rfl;have c3:=V4.c 3 rfl;have q3:=V4.q 3 rfl;have c4:=V4.c 4 rfl;have q4:=V4.q 4 rfl;have c5:=V4.c 5 rfl;have q5:=V4.q 5 rfl;have c6:=V4.c 6 rfl;have q6:=V4.q 6 rfl
    obtain⟨W5,hW5⟩: ∃W5,putL xb 0 [.string rn, .bool rp, .int .i64 rl, .int .i64 rs, .int .u64 rf, .int .i64 rh, .int .i64 rk] W4=W5:=⟨_,rfl⟩
    have HV5:Hid (VarL W5 xb [.string rn, .bool rp, .int .i64 rl, .int .i64 rs, .int .u64 rf, .int .i64 rh, .int .i64 rk]):=Lh (by rw[←hW5];exact putL_var [.string rn, .bool rp, .int .i64 rl, .int .i64 rs, .int .u64 rf, .int .i64 rh, .int .i64 rk] [] [.string ⟨#[]⟩, .bool false, .int .i64 0, .int .i64 0, .int .u64 0, .int .i64 0, .int .i64 0] W4 V4 rfl)
    have hb5:Below wr.heap.size wr W5:=by rw[←hW5];exact putL_below _ (by omega) _ _ b4
    have HBW5:=Lh (below_step HBR.out hb5)
    have HRX:=Lh (HR.out.below hb5)
    have HRN2:=Lh (rule_named xR rn _ W5 (HXI.out.below HBW5.out) (by have:=HLN.out;omega))
    have x7:=(HV0.out.after HBW5.out).c 7 rfl
    have d0:=HV5.out.c 0 rfl
    have HLE:Hid (((headT A C i).map turV).length≤1000000):=Lh (by have:=HHL.out i;rw[Ky];omega)
    have hya:(i:Int)<(ym:Int):=by omega
    simp only[putL,Ly]at hW5
    clear hln hr hru hlt hcell hb hbw hrow b4 z4 V4 hb5 y7
    go_wp2_with (first
     |(go_at_call 40;(with_reducible refine(HRN2.out).mono ?_);rintro e w6 ⟨cs,bb,rfl,hor,h6⟩;have HB6:=Lh (below_step HBW5.out h6);have HV6:=Lh (HV5.out.after h6);have HR6:=Lh (HRX.out.below h6);clear h6;obtain⟨yb,W7,hyb,hW7,V7,b7,z7⟩:=boxL w6 [.string ⟨#[]⟩, .bool false, .int .i64 0, .int .i64 0, .int .u64 0, .int .i64 0, .int .i64 0] 52;have HV7b:=Lh (HV6.out.after b7);have HB7:=Lh (below_step HB6.out b7);have HR7:=Lh (HR6.out.below b7);have k0:=V7.c 0 rfl;have l0:=V7.q 0 rfl;have k1:=V7.c 1 rfl;have l1:=V7.q 1 rfl;have k2:=V7.c 2 rfl;have l2:=V7.q 2 rfl;have k3:=V7.c 3 rfl;have l3:=V7.q 3 rfl;have k4:=V7.c 4 rfl;have l4:=V7.q 4 rfl;have k5:=V7.c 5 rfl;have l5:=V7.q 5 rfl;have k6:=V7.c 6 rfl;have l6:=V7.q 6 rfl;rcases hor with⟨rfl,had,hf,rfl⟩|⟨rfl,hf,rfl⟩<;>first
      |(obtain⟨dn,dp,dl,ds,df,dh,dk⟩:=had;simp only[rulV];obtain⟨W8,hW8⟩: ∃W8,putL yb 0 [.string dn, .bool dp, .int .i64 dl, .int .i64 ds, .int .u64 df, .int .i64 dh, .int .i64 dk] W7=W8:=⟨_,rfl⟩;have HV8:Hid (VarL W8 yb [.string dn, .bool dp, .int .i64 dl, .int .i64 ds, .int .u64 df, .int .i64 dh, .int .i64 dk]):=Lh (by rw[←hW8];exact putL_var [.string dn, .bool dp, .int .i64 dl, .int .i64 ds, .int .u64 df, .int .i64 dh, .int .i64 dk] [] [.string ⟨#[]⟩, .bool false, .int .i64 0, .int .i64 0, .int .u64 0, .int .i64 0, .int .i64 0] W7 V7 rfl);have hb8:Below w6.heap.size w6 W8:=(by rw[←hW8];exact putL_below _ (by omega) _ _ b7);by_cases hs:SameRl (⟨dn,dp,dl,ds,df,dh,dk⟩:RlC) (⟨rn,rp,rl,rs,rf,rh,rk⟩:RlC)<;>first|(have HKR:Hid (kindR A C (⟨rn,rp,rl,rs,rf,rh,rk⟩:RlC)=2):=Lh (by rw[HKQ.out (⟨rn,rp,rl,rs,rf,rh,rk⟩:RlC) (⟨dn,dp,dl,ds,df,dh,dk⟩:RlC) hf,decide_eq_true hs];rfl);obtain⟨rfl,rfl,rfl,rfl,rfl,rfl,rfl⟩:=yes_same hs;clear hf hs;have hb8w:=below_step HB6.out hb8;have z0:=(HV1.out.after hb8w).c 0 rfl;have m0:=(HV6.out.after hb8).c 0 rfl;have m1:=(HV6.out.after hb8).c 1 rfl;have m2:=(HV6.out.after hb8).c 2 rfl;have m3:=(HV6.out.after hb8).c 3 rfl;have m4:=(HV6.out.after hb8).c 4 rfl;have m5:=(HV6.out.after hb8).c 5 rfl;have m6:=(HV6.out.after hb8).c 6 rfl;have p0:=HV8.out.c 0 rfl;have p1:=HV8.out.c 1 rfl;have p2:=HV8.out.c 2 rfl;have p3:=HV8.out.c 3 rfl;have p4:=HV8.out.c 4 rfl;have p5:=HV8.out.c 5 rfl;have p6:=HV8.out.c 6 rfl;obtain⟨tb,W9,htb,hW9,V9,b9,z9⟩:=boxL W8 [.string ynm, .string rn, .int .i64 2] 37;have HR9:=Lh ((HR6.out.below hb8).below b9);have HB9:=Lh (below_step hb8w b9);have HCE:=Lh (one_cells (t:=⟨ynm,rn,2⟩) V9);have HSZ:Hid (B≤W9.heap.size):=Lh (by have:=HB9.out.size;have:=HBB.out;omega);simp only[putL,Ly]at hW8;clear hb8 hb8w b9 z9 V9 b7 z7 V7)|(have HKR:Hid (kindR A C (⟨rn,rp,rl,rs,rf,rh,rk⟩:RlC)=3):=Lh (by rw[HKQ.out (⟨rn,rp,rl,rs,rf,rh,rk⟩:RlC) (⟨dn,dp,dl,ds,df,dh,dk⟩:RlC) hf,decide_eq_false hs];rfl);rcases not_same hs with nn|⟨rfl,nn⟩|⟨rfl,rfl,nn⟩|⟨rfl,rfl,rfl,nn⟩|⟨rfl,rfl,rfl,rfl,nn⟩|⟨rfl,rfl,rfl,rfl,rfl,nn⟩|⟨rfl,rfl,rfl,rfl,rfl,rfl,nn⟩<;>(clear hf hs;have hb8w:=below_step HB6.out hb8;have z0:=(HV1.out.after hb8w).c 0 rfl;have m0:=(HV6.out.after hb8).c 0 rfl;have m1:=(HV6.out.after hb8).c 1 rfl;have m2:=(HV6.out.after hb8).c 2 rfl;have m3:=(HV6.out.after hb8).c 3 rfl;have m4:=(HV6.out.after hb8).c 4 rfl;have m5:=(HV6.out.after hb8).c 5 rfl;have m6:=(HV6.out.after hb8).c 6 rfl;have p00:=HV8.out.c 0 rfl;have p1:=HV8.out.c 1 rfl;have p2:=HV8.out.c 2 rfl;have p3:=HV8.out.c 3 rfl;have p4:=HV8.out.c 4 rfl;have p5:=HV8.out.c 5 rfl;have p6:=HV8.out.c 6 rfl;obtain⟨tb,W9,htb,hW9,V9,b9,z9⟩:=boxL W8 [.string ynm, .string rn, .int .i64 3] 37;have HR9:=Lh ((HR6.out.below hb8).below b9);have HB9:=Lh (below_step hb8w b9);have HCE:=Lh (one_cells (t:=⟨ynm,rn,3⟩) V9);have HSZ:Hid (B≤W9.heap.size):=Lh (by have:=HB9.out.size;have:=HBB.out;omega);simp only[putL,Ly]at hW8;clear hb8 hb8w b9 z9 V9 b7 z7 V7)))
      |(simp only[zRul];obtain⟨W8,hW8⟩: ∃W8,putL yb 0 [.string ⟨#[]⟩, .bool false, .int .i64 0, .int .i64 0, .int .u64 0, .int .i64 0, .int .i64 0] W7=W8:=⟨_,rfl⟩;have HV8:Hid (VarL W8 yb [.string ⟨#[]⟩, .bool false, .int .i64 0, .int .i64 0, .int .u64 0, .int .i64 0, .int .i64 0]):=Lh (by rw[←hW8];exact putL_var [.string ⟨#[]⟩, .bool false, .int .i64 0, .int .i64 0, .int .u64 0, .int .i64 0, .int .i64 0] [] [.string ⟨#[]⟩, .bool false, .int .i64 0, .int .i64 0, .int .u64 0, .int .i64 0, .int .i64 0] W7 V7 rfl);have hb8:Below w6.heap.size w6 W8:=(by rw[←hW8];exact putL_below _ (by omega) _ _ b7);have HKR:Hid (kindR A C (⟨rn,rp,rl,rs,rf,rh,rk⟩:RlC)=1):=Lh (HKN.out (⟨rn,rp,rl,rs,rf,rh,rk⟩:RlC) hf);clear hf;have hb8w:=below_step HB6.out hb8;have z0:=(HV1.out.after hb8w).c 0 rfl;have m0:=(HV6.out.after hb8).c 0 rfl;have m1:=(HV6.out.after hb8).c 1 rfl;have m2:=(HV6.out.after hb8).c 2 rfl;have m3:=(HV6.out.after hb8).c 3 rfl;have m4:=(HV6.out.after hb8).c 4 rfl;have m5:=(HV6.out.after hb8).c 5 rfl;have m6:=(HV6.out.after hb8).c 6 rfl;have n0:=HV8.out.c 0 rfl;have n1:=HV8.out.c 1 rfl;have n2:=HV8.out.c 2 rfl;have n3:=HV8.out.c 3 rfl;have n4:=HV8.out.c 4 rfl;have n5:=HV8.out.c 5 rfl;have n6:=HV8.out.c 6 rfl;obtain⟨tb,W9,htb,hW9,V9,b9,z9⟩:=boxL W8 [.string ynm, .string rn, .int .i64 1] 37;have HR9:=Lh ((HR6.out.below hb8).below b9);have HB9:=Lh (below_step hb8w b9);have HCE:=Lh (one_cells (t:=⟨ynm,rn,1⟩) V9);have HSZ:Hid (B≤W9.heap.size):=Lh (by have:=HB9.out.size;have:=HBB.out;omega);simp only[putL,Ly]at hW8;clear hb8 hb8w b9 z9 V9 b7 z7 V7))
     |(go_at_call 39;(with_reducible refine(stays_any _ _).mono ?_);rintro e W9 ⟨rfl,rfl⟩)
     |(at_builtin;(refine wp_rowK (T:=29) (t:=37) (sz:=3) rfl _ _ rfl Tryd.underlying29 info_turn rfl (by decide) (by decide) B _ _ rfl HR9.out tb (turV ⟨ynm,rn,_⟩) rfl rfl HCE.out (tur_one1 _) HLE.out HSZ.out ?_);intro v' w' hrow' ho' _;have HRY:Hid (Turs w' B v' (headT A C (i+1))):=Lh (by rw[HHI.out];rw[HKR.out];exact turs_more hrow');have HBY:Hid (Below W1.heap.size W1 w'):=Lh (HB9.out.trans (by rw[HBB.out.1];exact ho'.bel));clear hrow' ho'))
    all_goals
     go_roundw
     case rel=>exact⟨i+1,by omega,by go_num,HRY.out,by have:=HBY.out;rw[HBB.out.1]at this;exact this⟩
     case measure=>simp[intOf];omega
   ·have en:ym=i:=by omega
    subst en
    have x7:=(HV0.out.after hbw).c 7 rfl
    clear hrow hb hbw y7
    go_wp2
    go_loopw [6,61] (fun v6 v61 wr=> ∃i:Nat,i≤xm∧v61= .int .i64 (i:Int)∧Turs wr B v6 (headT A C ym++restT A C i)∧Below B W1 wr) (fun _ v61 _=>xm-(intOf v61).toNat)
    case atStart=>exact⟨0,Nat.zero_le _,rfl,by rw[HR0.out,List.append_nil];exact HR.out,by have:=HBR.out;rw[HBB.out.1]at this;exact this⟩
    case round=>
     rename_i wq _
     clear HR HBR x7 hi
     obtain⟨i,hi,rfl,hrow,hb⟩:=hrel
     have HR:=Lh hrow
     have hbw:Below W1.heap.size W1 wr:=by rw[HBB.out.1];exact hb
     have HBR:=Lh hbw
     by_cases hin:i<xm
     ·obtain⟨r,hr,hru⟩:=HXV.out i hin
      obtain⟨b,off,rfl,hlt,hcell⟩:=HXI.out.at i _ hru
      simp only[rulV]at hcell
      have f0:wr.cell? ⟨b,off+i*7,none⟩=some (.string r.name):=(hbw.cell (p:=⟨b,off+i*7,none⟩) hlt).trans (hcell 0 _ rfl);have f1:wr.cell? ⟨b,off+i*7+1,none⟩=some (.bool r.page):=(hbw.cell (p:=⟨b,off+i*7+1,none⟩) hlt).trans (hcell 1 _ rfl);have f2:wr.cell? ⟨b,off+i*7+2,none⟩=some (.int .i64 r.long):=(hbw.cell (p:=⟨b,off+i*7+2,none⟩) hlt).trans (hcell 2 _ rfl);have f3:wr.cell? ⟨b,off+i*7+3,none⟩=some (.int .i64 r.short):=(hbw.cell (p:=⟨b,off+i*7+3,none⟩) hlt).trans (hcell 3 _ rfl);have f4:wr.cell? ⟨b,off+i*7+4,none⟩=some (.int .u64 r.factor):=(hbw.cell (p:=⟨b,off+i*7+4,none⟩) hlt).trans (hcell 4 _ rfl);have f5:wr.cell? ⟨b,off+i*7+5,none⟩=some (.int .i64 r.hold):=(hbw.cell (p:=⟨b,off+i*7+5,none⟩) hlt).trans (hcell 5 _ rfl);have f6:wr.cell? ⟨b,off+i*7+6,none⟩=some (.int .i64 r.keep):=(hbw.cell (p:=⟨b,off+i*7+6,none⟩) hlt).trans (hcell 6 _ rfl)
      have HRR:=Lh hr
      have hln:=HLN.out
      have hi1:IntKind.i64.wrap ((i:Int)+1)=((i+1:Nat):Int):=by rw[IntKind.wrap_i64];omega
      obtain⟨xb,W4,hxb,hW4,V4,b4,z4⟩:=boxL wr [.string ⟨#[]⟩, .bool false, .int .i64 0, .int .i64 0, .int .u64 0, .int .i64 0, .int .i64 0] 52
      have c0:=V4.c 0 rfl;have q0:=V4.q 0 rfl;have c1:=V4.c 1 rfl;have q1:=V4.q 1 rfl;have c2:=V4.c 2 rfl;have q2:=V4.q 2 rfl;have c3:=V4.c 3 rfl;have q3:=V4.q 3 rfl;have c4:=V4.c 4 rfl;have q4:=V4.q 4 rfl;have c5:=V4.c 5 rfl;have q5:=V4.q 5 rfl;have c6:=V4.c 6 rfl;have q6:=V4.q 6 rfl
      obtain⟨W5,hW5⟩: ∃W5,putL xb 0 [.string r.name, .bool r.page, .int .i64 r.long, .int .i64 r.short, .int .u64 r.factor, .int .i64 r.hold, .int .i64 r.keep] W4=W5:=⟨_,rfl⟩
      have HV5:Hid (VarL W5 xb [.string r.name, .bool r.page, .int .i64 r.long, .int .i64 r.short, .int .u64 r.factor, .int .i64 r.hold, .int .i64 r.keep]):=Lh (by rw[←hW5];exact putL_var [.string r.name, .bool r.page, .int .i64 r.long, .int .i64 r.short, .int .u64 r.factor, .int .i64 r.hold, .int .i64 r.keep] [] [.string ⟨#[]⟩, .bool false, .int .i64 0, .int .i64 0, .int .u64 0, .int .i64 0, .int .i64 0] W4 V4 rfl)
      have hb5:Below wr.heap.size wr W5:=by rw[←hW5];exact putL_below _ (by omega) _ _ b4
      have HBW5:=Lh (below_step HBR.out hb5)
      have HRX:=Lh (HR.out.below hb5)
      have HRN2:=Lh (rule_named yR r.name _ W5 (HYI.out.below HBW5.out) (by have:=HLN.out;omega))
      have y7:=(HV1.out.after HBW5.out).c 7 rfl
      have d0:=HV5.out.c 0 rfl
      have HLE:Hid (((headT A C ym++restT A C i).map turV).length≤1000000):=Lh (by have:=HRL.out i;have:=HHL.out ym;rw[Ky,Kq];omega)
      have hya:(i:Int)<(xm:Int):=by omega
      simp only[putL,Ly]at hW5
      clear hln hr hru hlt hcell hb hbw hrow b4 z4 V4 hb5
      go_wp2_with (first
       |(go_at_call 40;(with_reducible refine(HRN2.out).mono ?_);rintro e w6 ⟨cs,bb,rfl,hor,h6⟩;have HB6:=Lh (below_step HBW5.out h6);have HV6:=Lh (HV5.out.after h6);have HR6:=Lh (HRX.out.below h6);clear h6;obtain⟨yb,W7,hyb,hW7,V7,b7,z7⟩:=boxL w6 [.string ⟨#[]⟩, .bool false, .int .i64 0, .int .i64 0, .int .u64 0, .int .i64 0, .int .i64 0] 52;have HB7:=Lh (below_step HB6.out b7);have k0:=V7.c 0 rfl;have l0:=V7.q 0 rfl;have k1:=V7.c 1 rfl;have l1:=V7.q 1 rfl;have k2:=V7.c 2 rfl;have l2:=V7.q 2 rfl;have k3:=V7.c 3 rfl;have l3:=V7.q 3 rfl;have k4:=V7.c 4 rfl;have l4:=V7.q 4 rfl;have k5:=V7.c 5 rfl;have l5:=V7.q 5 rfl;have k6:=V7.c 6 rfl;have l6:=V7.q 6 rfl;rcases hor with⟨rfl,had,hf,rfl⟩|⟨rfl,hf,rfl⟩<;>first
        |(simp only[rulV];obtain⟨W8,hW8⟩: ∃W8,putL yb 0 [.string had.name, .bool had.page, .int .i64 had.long, .int .i64 had.short, .int .u64 had.factor, .int .i64 had.hold, .int .i64 had.keep] W7=W8:=⟨_,rfl⟩;have hb8:Below w6.heap.size w6 W8:=(by rw[←hW8];exact putL_below _ (by omega) _ _ b7);have HRY:Hid (Turs W8 B _ (headT A C ym++restT A C (i+1))):=Lh (by rw[HRS.out i r had HRR.out hf];exact HR6.out.below hb8);have HBY:=Lh (below_step HB6.out hb8);simp only[putL,Ly]at hW8;clear hf hb8 b7 z7 V7)
        |(simp only[zRul];obtain⟨W8,hW8⟩: ∃W8,putL yb 0 [.string ⟨#[]⟩, .bool false, .int .i64 0, .int .i64 0, .int .u64 0, .int .i64 0, .int .i64 0] W7=W8:=⟨_,rfl⟩;have hb8:Below w6.heap.size w6 W8:=(by rw[←hW8];exact putL_below _ (by omega) _ _ b7);have HRNI:=Lh (HRN.out i r HRR.out hf);have hb8w:=below_step HB6.out hb8;have z0:=(HV1.out.after hb8w).c 0 rfl;have m0:=(HV6.out.after hb8).c 0 rfl;obtain⟨tb,W9,htb,hW9,V9,b9,z9⟩:=boxL W8 [.string ynm, .string r.name, .int .i64 4] 37;have HR9:=Lh ((HR6.out.below hb8).below b9);have HB9:=Lh (below_step hb8w b9);have HCE:=Lh (one_cells (t:=⟨ynm,r.name,4⟩) V9);have HSZ:Hid (B≤W9.heap.size):=Lh (by have:=HB9.out.size;have:=HBB.out;omega);simp only[putL,Ly]at hW8;clear hf hb8 hb8w b9 z9 V9 b7 z7 V7))
       |(at_builtin;(refine wp_rowK (T:=29) (t:=37) (sz:=3) rfl _ _ rfl Tryd.underlying29 info_turn rfl (by decide) (by decide) B _ _ rfl HR9.out tb (turV ⟨ynm,r.name,4⟩) rfl rfl HCE.out (tur_one1 _) HLE.out HSZ.out ?_);intro v' w' hrow' ho' _;have HRY:Hid (Turs w' B v' (headT A C ym++restT A C (i+1))):=Lh (by rw[HRNI.out,←List.append_assoc];exact turs_more hrow');have HBY:Hid (Below W1.heap.size W1 w'):=Lh (HB9.out.trans (by rw[HBB.out.1];exact ho'.bel));clear hrow' ho'))
      all_goals
       go_roundw
       case rel=>exact⟨i+1,by omega,by go_num,HRY.out,by have:=HBY.out;rw[HBB.out.1]at this;exact this⟩
       case measure=>simp[intOf];omega
     ·have en:xm=i:=by omega
      subst en
      clear hrow hb hbw
      go_wp2
      go_ret
      exact⟨_,rfl,by rw[HBT.out];exact HR.out.weaken HBB.out.2,below_step HBW.out HBR.out⟩
end
end Go.Proofs.YtgmfkbamfnkbgaaDoor
