/-
  Package change: whether all that was counted serves: walked.
-/
import Derived.Test.YtgmfkbamfnkbgaaDoorPkChangeWindows07
set_option maxRecDepth 100000
set_option maxHeartbeats 16000000
namespace Go.Proofs.YtgmfkbamfnkbgaaDoor
open Lib renaming hid→Lh
open List renaming setIfInBounds_toArray→Lq,set_cons_zero→Lj,set_cons_succ→Lk,getElem?_eq_getElem→Kh,take_succ_cons→Kj,length_map→Ky,take_zero→Jh,length_cons→Jq,drop_succ_cons→Jj,drop_zero→Jk
open Nat renaming reduceAdd→Lx,zero_add→Ly
open Go.RowKit.Below renaming refl→Mj
section
open Go.RowKit
def turV (t:TrC):List Value:= [.string t.goal, .string t.rule, .int .i64 t.kind]
theorem tur_wid (l:List TrC): ∀u∈l.map turV,u.length=3:=fun u hu=>by
 obtain⟨x,_,rfl⟩:=List.mem_map.mp hu
 rfl
theorem tur_one1 (t:TrC): ∀y∈turV t,y.oneCell'=true:=fun y hy=>by
 simp only[turV,List.mem_cons,List.not_mem_nil,or_false]at hy
 rcases hy with rfl|rfl|rfl<;>rfl
theorem tur_one (l:List TrC): ∀u∈l.map turV,∀y∈u,y.oneCell'=true:=fun u hu y hy=>by
 obtain⟨x,_,rfl⟩:=List.mem_map.mp hu
 exact tur_one1 x y hy
theorem info_turn:(Tryd.prog.info? 37).map (fun i=>(i.zero,i.size,i.bytes))=some (some (.agg #[.string ⟨#[]⟩, .string ⟨#[]⟩, .int .i64 0]),3,40):=by kernel_rfl
abbrev Turs (w:World) (base:Nat) (v:Value) (l:List TrC):Prop:=RowK 37 3 w base v (l.map turV)
def GivesT (l:List TrC) (w:World) (e:Ending) (w':World):Prop:= ∃v,e= .returned v∧Turs w' w.heap.size v l∧Below w.heap.size w w'
theorem turs_made (w:World) (base g:Nat) (t:TrC) (hg:g=w.heap.size) (hb:base≤g):Turs (w.alloc (.cells (turV t).toArray 37)) base (.slice (some ⟨g,0,none⟩) 1 1) [t]:=by
 subst hg
 refine⟨?_,tur_wid [t],tur_one [t]⟩
 have:=World.ownsRow_lit (e:=37) (size:=3) w (turV t).toArray 1 hb (by decide) (by simp[turV])
 simpa [turV] using this
theorem one_cells {w:World} {g:Nat} {t:TrC} (h:VarL w g (turV t)): ∀j,j<3→w.cell? ⟨g,j,none⟩=some ((turV t).getD j undef):=fun j hj=>by
 have:j=0∨j=1∨j=2:=by omega
 rcases this with rfl|rfl|rfl
 ·exact h.c 0 rfl
 ·exact h.c 1 rfl
 ·exact h.c 2 rfl
theorem turs_more {w:World} {base:Nat} {v:Value} {l:List TrC} {t:TrC} (h:RowK 37 3 w base v (l.map turV++ [turV t])):Turs w base v (l++ [t]):=by
 unfold Turs
 rw[List.map_append]
 exact h
def oneT (nm:ByteArray) (k:Int) (rs:List RlC) (i:Nat):List TrC:=⟨nm,nNone,k⟩::(rs.take i).map (fun r=>⟨nm,r.name,k⟩)
theorem oneT_succ (nm:ByteArray) (k:Int) (rs:List RlC) (i:Nat) {r:RlC} (h:rs[i]?=some r):oneT nm k rs (i+1)=oneT nm k rs i++ [⟨nm,r.name,k⟩]:=by
 unfold oneT
 rw[List.take_add_one,h,List.map_append]
 rfl
theorem oneT_len (nm:ByteArray) (k:Int) (rs:List RlC) (i:Nat):(oneT nm k rs i).length≤rs.length+1:=by
 unfold oneT
 rw[Jq,Ky,List.length_take]
 omega
theorem inone_any (g:GlC) (k:Int) (u:List Value) (w:World) (hu:GolI w u g) (hl:g.rules.length≤400000):Calls Tryd.prog 21 #[.agg u.toArray, .int .i64 k] w (GivesT (newT g k) w):=by
 obtain⟨lv,rv,rfl,i1,i2⟩:=hu
 obtain⟨a1,k1,rfl,_⟩:=i1.size
 obtain⟨a2,k2,rfl,hc2⟩:=i2.size
 obtain⟨n1,hn1⟩: ∃n,(g.labels.map labV).length=n:=⟨_,rfl⟩
 obtain⟨n,hn⟩: ∃n,(g.rules.map rulV).length=n:=⟨_,rfl⟩
 obtain⟨gb,W0,hgb,hW0,V0,b0,z0⟩:=boxL w (golL g (.slice a1 (g.labels.map labV).length k1) (.slice a2 (g.rules.map rulV).length k2)) 44
 rw[hn1,hn]at hW0 V0 ⊢
 rw[hn]at i2 hc2
 have hnr:g.rules.length=n:=by rw[←hn,Ky]
 have HI:=Lh (i2.below b0)
 have HV0:=Lh V0
 have HB0:=Lh b0
 have HNT:Hid (newT g k=oneT g.name k g.rules n):=Lh (by unfold newT oneT;rw[←hnr,List.take_length])
 have HTL:=Lh (fun i=>oneT_len g.name k g.rules i)
 have HTS:=Lh (fun i r h=> @oneT_succ g.name k g.rules i r h)
 have HLN:Hid (g.rules.length=n∧g.rules.length≤400000):=Lh ⟨hnr,hl⟩
 have HRV:Hid (∀i,i<n→∃r,g.rules[i]?=some r∧(g.rules.map rulV)[i]?=some (rulV r)):=Lh (fun i hi=>⟨g.rules[i],Kh (by omega),by rw[List.getElem?_map,Kh (by omega)];rfl⟩)
 have c0:=V0.c 0 rfl
 have c7:=V0.c 7 rfl
 obtain⟨B,hB⟩: ∃B,W0.heap.size=B:=⟨_,rfl⟩
 have HBB:Hid (W0.heap.size=B∧w.heap.size≤B):=Lh ⟨hB,by have:=b0.size;omega⟩
 obtain⟨nm,tg,gn,la,ro,ca,L,R⟩:=g
 obtain⟨sb,W1,hsb,hW1,V1,b1,z1⟩:=boxL W0 [.string nm, .string ⟨#[]⟩, .int .i64 k] 37
 have HR1:Hid (Turs W1 B (.slice (some ⟨sb,0,none⟩) 1 1) (oneT nm k R 0)):=Lh (by rw[←hW1];exact turs_made W0 B sb ⟨nm,nNone,k⟩ hsb.symm (by omega))
 have HB1:=Lh b1
 have c7:=(V0.after b1).c 7 rfl
 simp only[golL]at hW0 c0 c7 HV0 HNT HTL HTS HLN HRV HI ⊢
 clear i1 i2 hn1 hn hnr hl V0 b0 hB b1 V1 z1 z0
 go_enter Tryd.func21,Tryd.ntmps21
 go_wp2
 go_loopw [5,16] (fun v5 v16 wr=> ∃i:Nat,i≤n∧v16= .int .i64 (i:Int)∧Turs wr B v5 (oneT nm k R i)∧Below B W0 wr) (fun _ v16 _=>n-(intOf v16).toNat)
 case atStart=>exact⟨0,Nat.zero_le _,rfl,HR1.out,by have:=HB1.out;rw[HBB.out.1]at this;exact this⟩
 case round=>
  obtain⟨i,hi,rfl,hrow,hb⟩:=hrel
  have HR:=Lh hrow
  have hbw:Below W0.heap.size W0 wr:=by rw[HBB.out.1];exact hb
  have HB:=Lh hbw
  by_cases hin:i<n
  ·obtain⟨r,hr,hru⟩:=HRV.out i hin
   obtain⟨b,off,rfl,hlt,hcell⟩:=HI.out.at i _ hru
   simp only[rulV]at hcell
   have x0:=(HV0.out.after hbw).c 0 rfl
   have f0:wr.cell? ⟨b,off+i*7,none⟩=some (.string r.name):=(hbw.cell (p:=⟨b,off+i*7,none⟩) hlt).trans (hcell 0 _ rfl)
   have f1:wr.cell? ⟨b,off+i*7+1,none⟩=some (.bool r.page):=(hbw.cell (p:=⟨b,off+i*7+1,none⟩) hlt).trans (hcell 1 _ rfl)
   have f2:wr.cell? ⟨b,off+i*7+2,none⟩=some (.int .i64 r.long):=(hbw.cell (p:=⟨b,off+i*7+2,none⟩) hlt).trans (hcell 2 _ rfl)
   have f3:wr.cell? ⟨b,off+i*7+3,none⟩=some (.int .i64 r.short):=(hbw.cell (p:=⟨b,off+i*7+3,none⟩) hlt).trans (hcell 3 _ rfl)
   have f4:wr.cell? ⟨b,off+i*7+4,none⟩=some (.int .u64 r.factor):=(hbw.cell (p:=⟨b,off+i*7+4,none⟩) hlt).trans (hcell 4 _ rfl)
   have f5:wr.cell? ⟨b,off+i*7+5,none⟩=some (.int .i64 r.hold):=(hbw.cell (p:=⟨b,off+i*7+5,none⟩) hlt).trans (hcell 5 _ rfl)
   have f6:wr.cell? ⟨b,off+i*7+6,none⟩=some (.int .i64 r.keep):=(hbw.cell (p:=⟨b,off+i*7+6,none⟩) hlt).trans (hcell 6 _ rfl)
   have HTI:=Lh (HTS.out i r hr)
   have hln:=HLN.out
   have hi1:IntKind.i64.wrap ((i:Int)+1)=((i+1:Nat):Int):=by rw[IntKind.wrap_i64];omega
   obtain⟨xb,W2,hxb,hW2,V2,b2,z2⟩:=boxL wr [.string ⟨#[]⟩, .bool false, .int .i64 0, .int .i64 0, .int .u64 0, .int .i64 0, .int .i64 0] 52
   have c0:=V2.c 0 rfl;have q0:=V2.q 0 rfl;have c1:=V2.c 1 rfl;have q1:=V2.q 1 rfl;have c2:=V2.c 2 rfl;have q2:=V2.q 2 rfl;have c3:=V2.c 3 rfl;have q3:=V2.q 3 rfl
   have c4:=V2.c 4 rfl;have q4:=V2.q 4 rfl;have c5:=V2.c 5 rfl;have q5:=V2.q 5 rfl;have c6:=V2.c 6 rfl;have q6:=V2.q 6 rfl
   obtain⟨W3,hW3⟩: ∃W3,putL xb 0 [.string r.name, .bool r.page, .int .i64 r.long, .int .i64 r.short, .int .u64 r.factor, .int .i64 r.hold, .int .i64 r.keep] W2=W3:=⟨_,rfl⟩
   have HV3:Hid (VarL W3 xb [.string r.name, .bool r.page, .int .i64 r.long, .int .i64 r.short, .int .u64 r.factor, .int .i64 r.hold, .int .i64 r.keep]):=Lh (by rw[←hW3];exact putL_var [.string r.name, .bool r.page, .int .i64 r.long, .int .i64 r.short, .int .u64 r.factor, .int .i64 r.hold, .int .i64 r.keep] [] [.string ⟨#[]⟩, .bool false, .int .i64 0, .int .i64 0, .int .u64 0, .int .i64 0, .int .i64 0] W2 V2 rfl)
   have hb3:Below wr.heap.size wr W3:=by rw[←hW3];exact putL_below _ (by omega) _ _ b2
   have x0:=(HV0.out.after (below_step hbw hb3)).c 0 rfl
   have d0:=HV3.out.c 0 rfl
   simp only[putL,Ly]at hW3
   obtain⟨yb,W4,hyb,hW4,V4,b4,z4⟩:=boxL W3 [.string nm, .string r.name, .int .i64 k] 37
   have hb4:=below_step hb3 b4
   have HR4:=Lh (HR.out.below hb4)
   have HB4:=Lh (below_step HB.out hb4)
   have HCE:=Lh (one_cells (t:=⟨nm,r.name,k⟩) V4)
   have HLE:Hid (((oneT nm k R i).map turV).length≤1000000):=Lh (by have:=HTL.out i;rw[Ky];omega)
   have HSZ:Hid (B≤W4.heap.size):=Lh (by have:=HB4.out.size;have:=HBB.out;omega)
   clear hln hr hru hlt hcell hb hbw hrow b2 z2 V2 hb3 b4 z4 V4 hb4
   go_wp2_with (at_builtin;(refine wp_rowK (T:=29) (t:=37) (sz:=3) rfl _ _ rfl Tryd.underlying29 info_turn rfl (by decide) (by decide) B _ _ rfl HR4.out yb (turV ⟨nm,r.name,k⟩) rfl rfl HCE.out (tur_one1 _) HLE.out HSZ.out ?_))
   intro v' w' hrow' ho' _
   have hb':Below W0.heap.size W0 w':=HB4.out.trans (by rw[HBB.out.1];exact ho'.bel)
   have HR5:Hid (Turs w' B v' (oneT nm k R (i+1))):=Lh (by rw[HTI.out];exact turs_more hrow')
   have HB5:=Lh hb'
   clear hrow' ho' hb' f0 f1 f2 f3 f4 f5 f6 c0 c1 c2 c3 c4 c5 c6 q0 q1 q2 q3 q4 q5 q6 d0 x0
   go_wp2
   go_roundw
   case rel=>exact⟨i+1,by omega,by go_num,HR5.out,by have:=HB5.out;rw[HBB.out.1]at this;exact this⟩
   case measure=>simp[intOf];omega
  ·have en:n=i:=by omega
   subst en
   clear hrow hb hbw c0 c7
   go_wp2
   go_ret
   exact⟨_,rfl,by rw[HNT.out];exact HR.out.weaken HBB.out.2,below_step HB0.out HB.out⟩
end
section
open Go.RowKit
theorem stays_any (q:Bool) (w:World):Calls Tryd.prog 39 #[.bool q] w fun e w'=>e= .returned (.int .i64 (if q=true then 2 else 3))∧w'=w:=by
 cases q
 all_goals
  go_enter Tryd.func39,Tryd.ntmps39
  go_wp2
  go_ret
  exact⟨rfl,rfl⟩
def NumsAt (l:List Int) (v:Value) (w:World):Prop:= ∃b,RowK 2 1 w b v (l.map numL)
theorem GivesN.at {l:List Int} {w w':World} {e:Ending} (h:GivesN l w e w'): ∃v,e= .returned v∧NumsAt l v w'∧Below w.heap.size w w':=by
 obtain⟨v,h1,h2,h3⟩:=h
 exact⟨v,h1,⟨_,h2⟩,h3⟩
def TSc (l:List Value) (A B:List Int):Nat→Value→World→Prop
 |14,v,w=>NumsAt A v w
 |16,v,w=>NumsAt B v w
 |i,v,_=>v=List.getD l i undef
theorem TSc.keep (l:List Value) (A B:List Int): ∀(i:Nat) (v:Value) (w w':World),TSc l A B i v w→Below w.heap.size w w'→TSc l A B i v w':=by
 intro i v w w' h hb
 unfold TSc at h ⊢
 split at h
 ·obtain⟨b,h⟩:=h;exact⟨b,h.below hb⟩
 ·obtain⟨b,h⟩:=h;exact⟨b,h.below hb⟩
 ·exact h
theorem win_len (g:GlC):(winS g).length≤2*g.rules.length+1:=by
 have h:=win_rises g
 have:=asc_len (all:=allW g) h.1 (fun x hx=>(h.2 x).mp hx)
 have e:(allW g).length≤2*g.rules.length+1:=by
  unfold allW
  rw[List.length_append]
  have h2:=takeW_len g.rules g.rules.length
  rw[takeW_all _ rfl]at h2
  split<;>simp only[Jq,List.length_nil]<;>omega
 omega
theorem int_eqb (a b:Int):(a==b)=decide (a=b):=by
 by_cases h:a=b<;>simp[h]
theorem same_any (a b:GlC) (u1 u2:List Value) (w:World) (h1:GolI w u1 a) (h2:GolI w u2 b) (l1:a.rules.length≤400000) (l2:b.rules.length≤400000):
  Calls Tryd.prog 38 #[.agg u1.toArray, .agg u2.toArray] w fun e w'=>e= .returned (.bool (decide (StaysS a b)))∧Below w.heap.size w w':=by
 have HW1:=Lh (fun W (hb:Below w.heap.size w W)=>win_any a u1 W (h1.below hb) l1)
 have HW2:=Lh (fun W (hb:Below w.heap.size w W)=>win_any b u2 W (h2.below hb) l2)
 have HLN:Hid ((winS a).length≤1000000∧(winS b).length≤1000000):=Lh ⟨by have:=win_len a;omega,by have:=win_len b;omega⟩
 obtain⟨A,hA⟩: ∃A,winS a=A:=⟨_,rfl⟩
 obtain⟨B,hB⟩: ∃B,winS b=B:=⟨_,rfl⟩
 obtain⟨q1,e1⟩: ∃q,decide (a.grain=b.grain)=q:=⟨_,rfl⟩
 obtain⟨q2,e2⟩: ∃q,decide (a.cal=b.cal)=q:=⟨_,rfl⟩
 obtain⟨q3,e3⟩: ∃q,decide (A=B)=q:=⟨_,rfl⟩
 have HS:Hid (decide (StaysS a b)=(q1&&(q2&&q3))):=Lh (by
  rw[←e1,←e2,←e3,←hA,←hB,←Bool.decide_and,←Bool.decide_and]
  exact decide_eq_decide.mpr Iff.rfl)
 rw[hA]at HW1 HLN
 rw[hB]at HW2 HLN
 have HE:=Lh e3
 obtain⟨v1,v2,rfl,i1,i2⟩:=h1
 obtain⟨x1,xk,rfl,_⟩:=i1.size
 obtain⟨x2,xl,rfl,_⟩:=i2.size
 obtain⟨v3,v4,rfl,j1,j2⟩:=h2
 obtain⟨y1,yk,rfl,_⟩:=j1.size
 obtain⟨y2,yl,rfl,_⟩:=j2.size
 obtain⟨xn,hxn⟩: ∃n,(a.labels.map labV).length=n:=⟨_,rfl⟩
 obtain⟨xm,hxm⟩: ∃n,(a.rules.map rulV).length=n:=⟨_,rfl⟩
 obtain⟨yn,hyn⟩: ∃n,(b.labels.map labV).length=n:=⟨_,rfl⟩
 obtain⟨ym,hym⟩: ∃n,(b.rules.map rulV).length=n:=⟨_,rfl⟩
 rw[hxn,hxm]at HW1 ⊢
 rw[hyn,hym]at HW2 ⊢
 rw[HS.out]
 have hg1:(a.grain==b.grain)=q1:=(int_eqb _ _).trans e1
 have hg2:(a.cal==b.cal)=q2:=(int_eqb _ _).trans e2
 clear hA hB i1 i2 j1 j2 hxn hxm hyn hym l1 l2 e1 e2 e3 HS
 obtain⟨xnm,xtg,xgn,xla,xro,xca,xL,xR⟩:=a
 obtain⟨ynm,ytg,ygn,yla,yro,yca,yL,yR⟩:=b
 simp only[golL]at HW1 HW2 hg1 hg2 ⊢
 obtain⟨ub,W0,hub,hW0,V0,b0,z0⟩:=boxL w [.string xnm, .int .u32 xtg, .int .i64 xgn, .int .i64 xla, .int .i64 xro, .int .i64 xca, .slice x1 xn xk, .slice x2 xm xl] 44
 obtain⟨vb,W1,hvb,hW1,V1,b1,z1⟩:=boxL W0 [.string ynm, .int .u32 ytg, .int .i64 ygn, .int .i64 yla, .int .i64 yro, .int .i64 yca, .slice y1 yn yk, .slice y2 ym yl] 44
 have HC:Hid (∀W,Below W1.heap.size W1 W→(W.cell? ⟨ub,0,none⟩=some (.string xnm)∧W.cell? ⟨ub,1,none⟩=some (.int .u32 xtg)∧W.cell? ⟨ub,2,none⟩=some (.int .i64 xgn)∧W.cell? ⟨ub,3,none⟩=some (.int .i64 xla)∧W.cell? ⟨ub,4,none⟩=some (.int .i64 xro)∧W.cell? ⟨ub,5,none⟩=some (.int .i64 xca)∧W.cell? ⟨ub,6,none⟩=some (.slice x1 xn xk)∧W.cell? ⟨ub,7,none⟩=some (.slice x2 xm xl))∧(W.cell? ⟨vb,0,none⟩=some (.string ynm)∧W.cell? ⟨vb,1,none⟩=some (.int .u32 ytg)∧W.cell? ⟨vb,2,none⟩=some (.int .i64 ygn)∧W.cell? ⟨vb,3,none⟩=some (.int .i64 yla)∧W.cell? ⟨vb,4,none⟩=some (.int .i64 yro)∧W.cell? ⟨vb,5,none⟩=some (.int .i64 yca)∧W.cell? ⟨vb,6,none⟩=some (.slice y1 yn yk)∧W.cell? ⟨vb,7,none⟩=some (.slice y2 ym yl))):=Lh (fun W h=>
  ⟨⟨((V0.after b1).after h).c 0 rfl,((V0.after b1).after h).c 1 rfl,((V0.after b1).after h).c 2 rfl,((V0.after b1).after h).c 3 rfl,((V0.after b1).after h).c 4 rfl,((V0.after b1).after h).c 5 rfl,((V0.after b1).after h).c 6 rfl,((V0.after b1).after h).c 7 rfl⟩,⟨(V1.after h).c 0 rfl,(V1.after h).c 1 rfl,(V1.after h).c 2 rfl,(V1.after h).c 3 rfl,(V1.after h).c 4 rfl,(V1.after h).c 5 rfl,(V1.after h).c 6 rfl,(V1.after h).c 7 rfl⟩⟩)
 have HB1:=Lh (below_step b0 b1)
 have HG1:=Lh hg1
 have HG2:=Lh hg2
 clear V0 V1 b0 b1 z0 z1 hg1 hg2
 cases q1
 ·go_enter Tryd.func38,Tryd.ntmps38
  go_wp2
  refine wp_region_mix 19 (TVs [.pointer (some ⟨ub,2,none⟩), .int .i64 xgn, .pointer (some ⟨vb,2,none⟩), .int .i64 ygn, .bool false, .bool false,undef,undef,undef,undef,undef, .bool false, .bool false,undef,undef,undef,undef,undef, .bool false]) (fun _=>false) (by kernel_rfl) (by kernel_rfl) (TVs.keep _) (fun _ _ _ h=>by cases h) ?_ ?_
  ·refine⟨?_,?_,?_,?_,?_,?_,?_,?_,?_,?_,?_,?_,?_,?_,?_,?_,?_,?_,?_,trivial⟩
   all_goals
    intro u W hb hd
    have⟨⟨g0,g1,g2,g3,g4,g5,g6,g7⟩,r0,r1,r2,r3,r4,r5,r6,r7⟩:=HC.out W hb
    have hg1:=HG1.out
    have hg2:=HG2.out
    simp only[Kj,Jh,putAll,Act.put,Lq,Lk,Lj,Ly,Lx]
    try (have e0:u _=List.getD _ _ _:=hd.1 rfl (by decide);rw[e0])
    try (have e1:u _=List.getD _ _ _:=hd.2.1 rfl (by decide);rw[e1])
    try (have e2:u _=List.getD _ _ _:=hd.2.2.1 rfl (by decide);rw[e2])
    try (have e3:u _=List.getD _ _ _:=hd.2.2.2.1 rfl (by decide);rw[e3])
    try simp only[List.getD_cons_zero,List.getD_cons_succ]
    go_wp2
    first|exact⟨rfl,Mj _ _⟩|exact⟨_,rfl,rfl,Mj _ _⟩|exact⟨_,rfl,rfl,Mj _ _,fun h=>by simp at h⟩
  ·intro u W hb hT _
   have e18:u 18= .bool false:=hT 18 (by decide)
   have HE2:=Lh (below_step HB1.out hb)
   clear hb hT
   simp only[Kj,Jh,Jj,Jk,putAll,Act.put,Lq,Lk,Lj,Ly,Lx]
   rw[e18]
   go_wp2
   go_ret
   exact⟨rfl,HE2.out⟩
 ·cases q2
  ·go_enter Tryd.func38,Tryd.ntmps38
   go_wp2
   refine wp_region_mix 19 (TVs [.pointer (some ⟨ub,2,none⟩), .int .i64 xgn, .pointer (some ⟨vb,2,none⟩), .int .i64 ygn, .bool true, .bool true, .pointer (some ⟨ub,5,none⟩), .int .i64 xca, .pointer (some ⟨vb,5,none⟩), .int .i64 yca, .bool false, .bool false, .bool false,undef,undef,undef,undef,undef, .bool false]) (fun _=>false) (by kernel_rfl) (by kernel_rfl) (TVs.keep _) (fun _ _ _ h=>by cases h) ?_ ?_
   ·refine⟨?_,?_,?_,?_,?_,?_,?_,?_,?_,?_,?_,?_,?_,?_,?_,?_,?_,?_,?_,trivial⟩
    all_goals
     intro u W hb hd
     have⟨⟨g0,g1,g2,g3,g4,g5,g6,g7⟩,r0,r1,r2,r3,r4,r5,r6,r7⟩:=HC.out W hb
     have hg1:=HG1.out
     have hg2:=HG2.out
     simp only[Kj,Jh,putAll,Act.put,Lq,Lk,Lj,Ly,Lx]
     try (have e0:u _=List.getD _ _ _:=hd.1 rfl (by decide);rw[e0])
     try (have e1:u _=List.getD _ _ _:=hd.2.1 rfl (by decide);rw[e1])
     try (have e2:u _=List.getD _ _ _:=hd.2.2.1 rfl (by decide);rw[e2])
     try (have e3:u _=List.getD _ _ _:=hd.2.2.2.1 rfl (by decide);rw[e3])
     try simp only[List.getD_cons_zero,List.getD_cons_succ]
     go_wp2
     first|exact⟨rfl,Mj _ _⟩|exact⟨_,rfl,rfl,Mj _ _⟩|exact⟨_,rfl,rfl,Mj _ _,fun h=>by simp at h⟩
   ·intro u W hb hT _
    have e18:u 18= .bool false:=hT 18 (by decide)
    have HE2:=Lh (below_step HB1.out hb)
    clear hb hT
    simp only[Kj,Jh,Jj,Jk,putAll,Act.put,Lq,Lk,Lj,Ly,Lx]
    rw[e18]
    go_wp2
    go_ret
    exact⟨rfl,HE2.out⟩
  ·go_enter Tryd.func38,Tryd.ntmps38
   go_wp2
   refine wp_region_mix 19 (TSc [.pointer (some ⟨ub,2,none⟩), .int .i64 xgn, .pointer (some ⟨vb,2,none⟩), .int .i64 ygn, .bool true, .bool true, .pointer (some ⟨ub,5,none⟩), .int .i64 xca, .pointer (some ⟨vb,5,none⟩), .int .i64 yca, .bool true, .bool true, .bool true, .agg #[.string xnm, .int .u32 xtg, .int .i64 xgn, .int .i64 xla, .int .i64 xro, .int .i64 xca, .slice x1 xn xk, .slice x2 xm xl],undef, .agg #[.string ynm, .int .u32 ytg, .int .i64 ygn, .int .i64 yla, .int .i64 yro, .int .i64 yca, .slice y1 yn yk, .slice y2 ym yl],undef, .bool q3, .bool q3] A B) (fun _=>false) (by kernel_rfl) (by kernel_rfl) (TSc.keep _ _ _) (fun _ _ _ h=>by cases h) ?_ ?_
   ·refine⟨?_,?_,?_,?_,?_,?_,?_,?_,?_,?_,?_,?_,?_,?_,?_,?_,?_,?_,?_,trivial⟩
    all_goals
     intro u W hb hd
     have⟨⟨g0,g1,g2,g3,g4,g5,g6,g7⟩,r0,r1,r2,r3,r4,r5,r6,r7⟩:=HC.out W hb
     have hg1:=HG1.out
     have hg2:=HG2.out
     have HWW:=Lh (below_step HB1.out hb)
     try (have n14:NumsAt A (u 14) W:=(by first|exact hd.1 rfl (by decide)|exact hd.2.1 rfl (by decide)|exact hd.2.2.1 rfl (by decide));have n16:NumsAt B (u 16) W:=(by first|exact hd.1 rfl (by decide)|exact hd.2.1 rfl (by decide)|exact hd.2.2.1 rfl (by decide));have⟨b14,k14⟩:=n14;have⟨b16,k16⟩:=n16;have HEQ:=Lh (equal_row b14 b16 (u 14) (u 16) A B W k14 k16 HLN.out.1 HLN.out.2))
     simp only[Kj,Jh,putAll,Act.put,Lq,Lk,Lj,Ly,Lx]
     try (have e0:u _=List.getD _ _ _:=hd.1 rfl (by decide);rw[e0])
     try (have e1:u _=List.getD _ _ _:=hd.2.1 rfl (by decide);rw[e1])
     try (have e2:u _=List.getD _ _ _:=hd.2.2.1 rfl (by decide);rw[e2])
     try (have e3:u _=List.getD _ _ _:=hd.2.2.2.1 rfl (by decide);rw[e3])
     try simp only[List.getD_cons_zero,List.getD_cons_succ]
     go_wp2_with (first
      |(go_at_call 15;(with_reducible refine(HW1.out W HWW.out).mono ?_);intro e W2 h;obtain⟨v,rfl,hv,g⟩:=h.at)
      |(go_at_call 15;(with_reducible refine(HW2.out W HWW.out).mono ?_);intro e W2 h;obtain⟨v,rfl,hv,g⟩:=h.at)
      |(go_at_call 62;(with_reducible refine(HEQ.out).mono ?_);rintro e W2 ⟨rfl,g⟩;rw[HE.out]))
     first|exact⟨rfl,Mj _ _⟩|exact⟨_,rfl,rfl,Mj _ _⟩|exact⟨_,rfl,rfl,Mj _ _,fun h=>by simp at h⟩|exact⟨hv,g⟩|exact⟨_,rfl,hv,g⟩|exact⟨_,rfl,hv,g,fun h=>by simp at h⟩|exact⟨rfl,g⟩|exact⟨_,rfl,rfl,g⟩|exact⟨_,rfl,rfl,g,fun h=>by simp at h⟩
   ·intro u W hb hT _
    have e18:u 18= .bool q3:=hT 18 (by decide)
    have HE2:=Lh (below_step HB1.out hb)
    clear hb hT
    simp only[Kj,Jh,Jj,Jk,putAll,Act.put,Lq,Lk,Lj,Ly,Lx]
    rw[e18]
    go_wp2
    go_ret
    exact⟨rfl,HE2.out⟩
end
end Go.Proofs.YtgmfkbamfnkbgaaDoor
