/-
  The document's SameFaults, of the same faults.
-/
import Derived.Test.YtalcagmhdppdjaaGreatDoorPkCompileTurns25
set_option maxRecDepth 100000
set_option maxHeartbeats 8000000
namespace Go.Proofs.YtalcagmhdppdjaaGreatDoor
open Lib renaming hid→Lh
open Nat renaming reduceAdd→Lx,zero_add→Ly,lt_of_lt_of_le→Kx,le_trans→Kz
open Or renaming inr→Mx,inl→My
open List renaming length_map→Ky,mem_cons_of_mem→Jy,mem_cons_self→Jz
section
open Go.RowKit
def innerN (n:ByteArray):Option Nat:=if n=nObjective then some 1 else if n=nRule then some 2 else if n=nNotify then some 3 else none
def GivesLk (d:Nat) (S:Nat→Prop) (cs:List It) (F:List Flt) (w:World) (e:Ending) (w':World):Prop:=
 ∃cv fv,e= .returned (.tuple #[cv,fv])∧ItemsIs d w' (fun b=>S b∨(w.heap.size≤b∧b<w'.heap.size)) cv cs∧FltsV w' w.heap.size fv F∧Below w.heap.size w w'
structure InnerOk (n:Nat) (x:It) (k:List It) (F1 F2:List Flt):Prop where
 lk: ∀(D:Nat) (S:Nat→Prop) (v:Value) (W:World),ItemsIs D W S v x.kids→(∀b,S b→b<W.heap.size)→Calls Tryz.prog 24 #[.int .i64 (n:Int),v] W (GivesLk (D+1) S k F1 W)
 wh: ∀(D:Nat) (S:Nat→Prop) (cv:Value) (wa:Option Addr) (wl wc:Nat) (ka:Option Addr) (kl kc:Nat) (W:World),ItemsIs D W S cv k→(∀b,S b→b<W.heap.size)→
  Calls Tryz.prog 39 #[.int .i64 (n:Int), .agg #[.string x.name, .slice wa wl wc, .bool x.block, .slice ka kl kc, .int .i64 x.a, .int .i64 x.b],cv] W fun e w'=> ∃fv,e= .returned fv∧FltsV w' W.heap.size fv F2∧Below W.heap.size W w'
def Inners (wh:Nat) (sub:It→List Flt) (L:List It):Prop:= ∀x∈L,∀cs,codeS wh cs x=0→match innerN x.name with
 |some n=> ∃k F1 F2,InnerOk n x k F1 F2∧sub x=F1++F2
 |none=>sub x= []
theorem fold_inv {wh:Nat} {sub:It→List Flt} {P:List It×List Flt→Prop} : ∀(l:List It) (r:List It×List Flt),P r→(∀r x,x∈l→P r→P (stepS wh sub r x))→P (l.foldl (stepS wh sub) r)
 | [],_,h,_=>h
 |x::l,r,h,hs=>fold_inv l _ (hs r x (Jz ..) h) (fun r y hy=>hs r y (Jy _ hy))
theorem looked {wh:Nat} {sub:It→List Flt} (L:List It): ∀c∈(lookS wh sub L).1,c∈L∧∃cs,codeS wh cs c=0:=by
 unfold lookS
 refine fold_inv (P:=fun r=> ∀c∈r.1,c∈L∧∃cs,codeS wh cs c=0) L ([],[]) (fun c hc=>by cases hc) (fun r x hx h=>?_)
 unfold stepS
 split
 ·rename_i h0
  intro c hc
  rcases List.mem_append.mp hc with hc|hc
  ·exact h c hc
  ·rw[List.mem_singleton.mp hc];exact⟨hx,_,h0⟩
 ·exact h
theorem lookS_le (wh:Nat) (sub:It→List Flt) (L:List It):(lookS wh sub L).1.length≤L.length:=by
 have: ∀(l:List It) (r:List It×List Flt),(l.foldl (stepS wh sub) r).1.length≤r.1.length+l.length:=fun l=>by
  induction l with
  |nil=>intro r;simp
  |cons x l ih=>
   intro r
   have h1:=ih (stepS wh sub r x)
   have h2:(stepS wh sub r x).1.length≤r.1.length+1:=by unfold stepS;split<;>simp
   simp only[List.foldl_cons,List.length_cons];omega
 unfold lookS
 simpa using this L ([],[])
theorem lookS_flts {wh:Nat} {sub:It→List Flt} {c:Nat} : ∀(L:List It),(∀x∈L,(sub x).length+1≤c*cntL [x])→(lookS wh sub L).2.length≤c*cntL L:=by
 have: ∀(l:List It) (r:List It×List Flt),(∀x∈l,(sub x).length+1≤c*cntL [x])→(l.foldl (stepS wh sub) r).2.length≤r.2.length+c*cntL l:=fun l=>by
  induction l with
  |nil=>intro r _;simp
  |cons x l ih=>
   intro r h
   have h1:=ih (stepS wh sub r x) (fun y hy=>h y (Jy _ hy))
   have h0:=h x (Jz ..)
   have h2:(stepS wh sub r x).2.length≤r.2.length+((sub x).length+1):=by unfold stepS;split<;>simp<;>omega
   rw[cnt_cons,Nat.mul_add]
   simp only[List.foldl_cons];omega
 intro L h
 unfold lookS
 simpa using this L ([],[]) h
structure LkM (d:Nat) (S:Nat→Prop) (base:Nat) (cs:List It) (F:List Flt) (cv fv:Value) (w:World):Prop where
 lst: ∃ps,ListIs d w S base cv ps∧ps.map ItV.x=cs
 flt:FltsV w base fv F
 apart: ∀b,cv.ownBlock=some b→fv.ownBlock≠some b
end
section
open Go.RowKit
theorem comp_bad (D:Nat) (S:Nat→Prop) (v:Value) (L:List It) (w:World) (env:Env w) (h:ItemsIs D w S v L) (hS: ∀b,S b→b<w.heap.size) (hm:cntL L≤1000000) (hd:depL L≤900000) (hl:LightL L) (hr:RightL L) (hF:(lookS 0 subT L).2≠ []):Calls Tryz.prog 13 #[v] w fun e w'=> ∃cv fv,e= .returned (.tuple #[cv,fv])∧ConfV w' w.heap.size cv zeroC∧FltsV w' w.heap.size fv (lookS 0 subT L).2∧Below w.heap.size w w':=by
 obtain⟨rb,W1,hrb,hW1,V1,b1,z1⟩:=boxL w [.slice none 0 0, .int .i64 0, .int .i64 0, .int .i64 0, .int .i64 0, .int .i64 0] 27
 have HR:=Lh (lright_any D S v L W1 (env.step b1) (h.belowS hS b1) (fun b hb=>Kx (hS b hb) b1.size) hm hd hl)
 have HNR:=Lh hr
 have HB1:=Lh b1
 have HRB:Hid (w.heap.size≤rb):=Lh (by omega)
 have HFA:Hid (∀w2,Below W1.heap.size W1 w2→∃sb W3,w2.heap.size=sb∧w2.alloc (.cells #[.slice none 0 0, .slice none 0 0, .int .i64 0, .int .i64 0, .int .i64 0, .int .i64 0, .int .i64 0] 63)=W3∧VarL W3 rb [.slice none 0 0, .int .i64 0, .int .i64 0, .int .i64 0, .int .i64 0, .int .i64 0]∧rb<sb∧sb<W3.heap.size∧Below w.heap.size w W3∧(Calls Tryz.prog 22 #[.pointer (some ⟨sb,0,none⟩),v] W3 fun e w'=>e= .returned (.tuple #[])∧∃O',M0 w.heap.size sb (lookS 0 subT L).1 (lookS 0 subT L).2 O' w'∧Frm (fun i=>i=sb) W3 w'∧Grown (fun i=>i=sb) O' W3.heap.size)):=Lh (fun w2 g2=>by
  obtain⟨sb,W3,hsb,hW3,V3,b3,z3⟩:=boxL w2 [.slice none 0 0, .slice none 0 0, .int .i64 0, .int .i64 0, .int .i64 0, .int .i64 0, .int .i64 0] 63
  have hb2:=below_step b1 g2
  have hb3:=below_step hb2 b3
  have hz:=hb2.size
  have hz1:=g2.size
  have hz3:=hb3.size
  have hmany:=hr.many
  exact⟨sb,W3,hsb,hW3,(V1.after g2).after b3,by omega,by omega,hb3,sread_any L D S v W3 V3 (by omega) (h.belowS hS hb3) (fun b hb=>by have:=hS b hb;omega) (fun hb=>by have:=hS sb hb;omega) (ok_three hr.each hl) (by omega)⟩)
 clear env h hS hm hd hl hr V1 b1 z1
 have HFN:=Lh hF
 clear hF
 go_enter Tryz.func13,Tryz.ntmps13
 go_upto_region 5 with(first
  |(go_at_call 21;(with_reducible refine(HR.out).mono ?_);rintro e w2 ⟨q,rfl,hq,g2⟩;have hqf:q=true:=(hq.mpr HNR.out);subst hqf;obtain⟨sb,W3,hsb,hW3,hv3,hrs,hsl,hb3,hsr⟩:=HFA.out w2 g2;have HV3:=Lh hv3;have HRS:=Lh hrs;have HSL:=Lh hsl;have HB3:=Lh hb3;have HSR:=Lh hsr;clear hv3 hrs hsl hb3 hsr g2 hq)
  |(go_at_call 22;(with_reducible refine(HSR.out).mono ?_);rintro e w5 ⟨rfl,O5,hm5,hf5,hg5⟩;have HM5:=Lh hm5;have HF5:=Lh hf5;have HG5:=Lh hg5;clear hm5 hf5 hg5))
 have HV5:=Lh (HF5.out.var HV3.out (fun e=>by have:=HRS.out;omega))
 have HO5:Hid (¬O5 rb):=Lh (fun e=>(HG5.out rb e).elim (fun h=>by have:=HRS.out;omega) (fun h=>by have:=HV3.out.s;omega))
 have HB5:Hid (Below w.heap.size w w5):=Lh ⟨HF5.out.os.trans HB3.out.os,HF5.out.tape.trans HB3.out.tape,HF5.out.output.trans HB3.out.output,Kz HB3.out.size HF5.out.size,fun i hi=>(HF5.out.keep i (by have:=HB3.out.size;omega) (fun e=>by have:=HRS.out;have:=HRB.out;omega)).trans (HB3.out.block i hi)⟩
 obtain⟨fv,gv,us,hsr,hso⟩:=HM5.out.2
 have hrow:=hsr.flt.row
 obtain⟨fa,fc,hfv⟩:=hrow.size
 rw[Ky]at hfv
 obtain⟨n,hn⟩: ∃n,(lookS 0 subT L).2.length=n:=⟨_,rfl⟩
 rw[hn]at hfv
 subst hfv
 have HN:=Lh hn
 have HSC:=Lh hsr
 have HSO:=Lh hso
 have HVS:=Lh hsr.flt.var
 have x0:=hsr.flt.var.c 0 rfl
 have hpos:0<n:=by rw[←hn];exact List.length_pos_iff.mpr HFN.out
 clear hsr hso hrow hn hrb hW1 hsb hW3
 obtain⟨W8,hW8⟩: ∃W8,w5.drew=W8:=⟨_,rfl⟩
 have HB8:Hid (Below w5.heap.size w5 W8):=Lh (by rw[←hW8];exact(Below.refl _ _).drew)
 have HV8:=Lh (HV5.out.after HB8.out)
 have hx0:=(HVS.out.after HB8.out).c 0 rfl
 have z0:=HV8.out.c 0 rfl
 have y0:=HV8.out.q 0 rfl
 have z1:=HV8.out.c 1 rfl
 have y1:=HV8.out.q 1 rfl
 have z2:=HV8.out.c 2 rfl
 have y2:=HV8.out.q 2 rfl
 have z3:=HV8.out.c 3 rfl
 have y3:=HV8.out.q 3 rfl
 have z4:=HV8.out.c 4 rfl
 have y4:=HV8.out.q 4 rfl
 have z5:=HV8.out.c 5 rfl
 have y5:=HV8.out.q 5 rfl
 have v4:=putL_var [.slice none 0 0, .int .i64 0, .int .i64 0, .int .i64 0, .int .i64 0, .int .i64 0] [] [.slice none 0 0, .int .i64 0, .int .i64 0, .int .i64 0, .int .i64 0, .int .i64 0] W8 HV8.out rfl
 have b4:=putL_below rb HRB.out [.slice none 0 0, .int .i64 0, .int .i64 0, .int .i64 0, .int .i64 0, .int .i64 0] 0 (below_step HB5.out HB8.out)
 have r4:=(HSC.out.flt.row.below HB8.out).kept (w':=putL rb 0 [.slice none 0 0, .int .i64 0, .int .i64 0, .int .i64 0, .int .i64 0, .int .i64 0] W8) (fun b e=>putL_else rb _ _ _ _ (fun e2=>HO5.out ((HSO.out rb).mpr (Mx (My (by rw[←e2];exact e.symm))))))
 have s4:=(HVS.out.after HB8.out).stay (w':=putL rb 0 [.slice none 0 0, .int .i64 0, .int .i64 0, .int .i64 0, .int .i64 0, .int .i64 0] W8) (putL_else rb _ _ _ _ (by have:=HRS.out;omega))
 obtain⟨W4,hW4⟩: ∃W4,putL rb 0 [.slice none 0 0, .int .i64 0, .int .i64 0, .int .i64 0, .int .i64 0, .int .i64 0] W8=W4:=⟨_,rfl⟩
 rw[List.length_nil,hW4]at v4
 rw[hW4]at b4 r4 s4
 have hx4:=s4.c 0 rfl
 have HB4:=Lh b4
 have HR4:=Lh r4
 have HV4:=Lh v4
 clear s4
 have HRS2:rb≠sb:=by have:=HRS.out;omega
 simp only[putL,Ly,Lx]at hW4
 clear v4 b4 r4
 go_wp2
 go_region
 all_goals (first
  |(clear x0;go_wp2;(try simp only[Exit.inBlock,Exit.then]);refine bodyPost_ret (comp_results HV4.out rfl rfl) rfl ?_;exact⟨_,_,rfl,ConfV.zero _ _,HR4.out,HB4.out⟩)
  |exact(0:Nat))
theorem comp_good (D:Nat) (S:Nat→Prop) (v:Value) (L:List It) (w:World) (env:Env w) (h:ItemsIs D w S v L) (hS: ∀b,S b→b<w.heap.size) (hm:cntL L≤1000000) (hd:depL L≤900000) (hl:LightL L) (hr:RightL L) (hF:(lookS 0 subT L).2= []):Calls Tryz.prog 13 #[v] w fun e w'=> ∃cv fv,e= .returned (.tuple #[cv,fv])∧ConfV w' w.heap.size cv (confC L)∧FltsV w' w.heap.size fv []∧Below w.heap.size w w':=by
 obtain⟨rb,W1,hrb,hW1,V1,b1,z1⟩:=boxL w [.slice none 0 0, .int .i64 0, .int .i64 0, .int .i64 0, .int .i64 0, .int .i64 0] 27
 have HR:=Lh (lright_any D S v L W1 (env.step b1) (h.belowS hS b1) (fun b hb=>Kx (hS b hb) b1.size) hm hd hl)
 have HNR:=Lh hr
 have HB1:=Lh b1
 have HRB:Hid (w.heap.size≤rb):=Lh (by omega)
 have HFA:Hid (∀w2,Below W1.heap.size W1 w2→∃sb W3,w2.heap.size=sb∧w2.alloc (.cells #[.slice none 0 0, .slice none 0 0, .int .i64 0, .int .i64 0, .int .i64 0, .int .i64 0, .int .i64 0] 63)=W3∧VarL W3 rb [.slice none 0 0, .int .i64 0, .int .i64 0, .int .i64 0, .int .i64 0, .int .i64 0]∧rb<sb∧sb<W3.heap.size∧Below w.heap.size w W3∧(Calls Tryz.prog 22 #[.pointer (some ⟨sb,0,none⟩),v] W3 fun e w'=>e= .returned (.tuple #[])∧∃O',M0 w.heap.size sb (lookS 0 subT L).1 (lookS 0 subT L).2 O' w'∧Frm (fun i=>i=sb) W3 w'∧Grown (fun i=>i=sb) O' W3.heap.size)):=Lh (fun w2 g2=>by
  obtain⟨sb,W3,hsb,hW3,V3,b3,z3⟩:=boxL w2 [.slice none 0 0, .slice none 0 0, .int .i64 0, .int .i64 0, .int .i64 0, .int .i64 0, .int .i64 0] 63
  have hb2:=below_step b1 g2
  have hb3:=below_step hb2 b3
  have hz:=hb2.size
  have hz1:=g2.size
  have hz3:=hb3.size
  have hmany:=hr.many
  exact⟨sb,W3,hsb,hW3,(V1.after g2).after b3,by omega,by omega,hb3,sread_any L D S v W3 V3 (by omega) (h.belowS hS hb3) (fun b hb=>by have:=hS b hb;omega) (fun hb=>by have:=hS sb hb;omega) (ok_three hr.each hl) (by omega)⟩)
 clear env h hS hm hd hl hr V1 b1 z1
 have HFN:=Lh hF
 clear hF
 go_enter Tryz.func13,Tryz.ntmps13
 go_upto_region 5 with(first
  |(go_at_call 21;(with_reducible refine(HR.out).mono ?_);rintro e w2 ⟨q,rfl,hq,g2⟩;have hqf:q=true:=(hq.mpr HNR.out);subst hqf;obtain⟨sb,W3,hsb,hW3,hv3,hrs,hsl,hb3,hsr⟩:=HFA.out w2 g2;have HV3:=Lh hv3;have HRS:=Lh hrs;have HSL:=Lh hsl;have HB3:=Lh hb3;have HSR:=Lh hsr;clear hv3 hrs hsl hb3 hsr g2 hq)
  |(go_at_call 22;(with_reducible refine(HSR.out).mono ?_);rintro e w5 ⟨rfl,O5,hm5,hf5,hg5⟩;have HM5:=Lh hm5;have HF5:=Lh hf5;have HG5:=Lh hg5;clear hm5 hf5 hg5))
 have HV5:=Lh (HF5.out.var HV3.out (fun e=>by have:=HRS.out;omega))
 have HO5:Hid (¬O5 rb):=Lh (fun e=>(HG5.out rb e).elim (fun h=>by have:=HRS.out;omega) (fun h=>by have:=HV3.out.s;omega))
 have HB5:Hid (Below w.heap.size w w5):=Lh ⟨HF5.out.os.trans HB3.out.os,HF5.out.tape.trans HB3.out.tape,HF5.out.output.trans HB3.out.output,Kz HB3.out.size HF5.out.size,fun i hi=>(HF5.out.keep i (by have:=HB3.out.size;omega) (fun e=>by have:=HRS.out;have:=HRB.out;omega)).trans (HB3.out.block i hi)⟩
 obtain⟨fv,gv,us,hsr,hso⟩:=HM5.out.2
 have hrow:=hsr.flt.row
 obtain⟨fa,fc,hfv⟩:=hrow.size
 rw[Ky]at hfv
 obtain⟨n,hn⟩: ∃n,(lookS 0 subT L).2.length=n:=⟨_,rfl⟩
 rw[hn]at hfv
 subst hfv
 have HN:=Lh hn
 have HSC:=Lh hsr
 have HSO:=Lh hso
 have HVS:=Lh hsr.flt.var
 have x0:=hsr.flt.var.c 0 rfl
 have hn0:n=0:=by rw[←hn,HFN.out];rfl
 subst hn0
 obtain⟨l0,hl0⟩: ∃l,getS (notC (lookS 0 subT L).1 []) nRoom 16=l:=⟨_,rfl⟩
 obtain⟨l1,hl1⟩: ∃l,getS (notC (lookS 0 subT L).1 []) nReserve 0=l:=⟨_,rfl⟩
 obtain⟨l2,hl2⟩: ∃l,getS (notC (lookS 0 subT L).1 []) nFirst 10=l:=⟨_,rfl⟩
 obtain⟨l3,hl3⟩: ∃l,getS (notC (lookS 0 subT L).1 []) nCap 300=l:=⟨_,rfl⟩
 obtain⟨l4,hl4⟩: ∃l,getS (notC (lookS 0 subT L).1 []) nRepeat 0=l:=⟨_,rfl⟩
 have HCL:Hid (confL gv (confC L)= [gv, .int .i64 l0, .int .i64 l1, .int .i64 l2, .int .i64 l3, .int .i64 l4]):=Lh (by unfold confL confC confB;simp only;rw[hl0,hl1,hl2,hl3,hl4])
 have x1:=hsr.flt.var.c 1 rfl
 have x2:=hsr.flt.var.c 2 rfl
 have x3:=hsr.flt.var.c 3 rfl
 have x4:=hsr.flt.var.c 4 rfl
 have x5:=hsr.flt.var.c 5 rfl
 have x6:=hsr.flt.var.c 6 rfl
 rw[hl0]at x2
 rw[hl1]at x3
 rw[hl2]at x4
 rw[hl3]at x5
 rw[hl4]at x6
 obtain⟨ga,gc,hgv⟩:=hsr.gol.size
 subst hgv
 have z0:=HV5.out.c 0 rfl
 have y0:=HV5.out.q 0 rfl
 have z1:=HV5.out.c 1 rfl
 have y1:=HV5.out.q 1 rfl
 have z2:=HV5.out.c 2 rfl
 have y2:=HV5.out.q 2 rfl
 have z3:=HV5.out.c 3 rfl
 have y3:=HV5.out.q 3 rfl
 have z4:=HV5.out.c 4 rfl
 have y4:=HV5.out.q 4 rfl
 have z5:=HV5.out.c 5 rfl
 have y5:=HV5.out.q 5 rfl
 clear hsr hso hrow hn hrb hW1 hsb hW3 hl0 hl1 hl2 hl3 hl4
 have v4:=putL_var [.slice ga us.length gc, .int .i64 l0, .int .i64 l1, .int .i64 l2, .int .i64 l3, .int .i64 l4] [] [.slice none 0 0, .int .i64 0, .int .i64 0, .int .i64 0, .int .i64 0, .int .i64 0] w5 HV5.out rfl
 have b4:=putL_below rb HRB.out [.slice ga us.length gc, .int .i64 l0, .int .i64 l1, .int .i64 l2, .int .i64 l3, .int .i64 l4] 0 HB5.out
 have k4: ∀b,ownS sb (.slice fa 0 fc) (.slice ga us.length gc) us b→(putL rb 0 [.slice ga us.length gc, .int .i64 l0, .int .i64 l1, .int .i64 l2, .int .i64 l3, .int .i64 l4] w5).heap[b]?=w5.heap[b]?:=fun b hb=>putL_else rb _ _ _ _ (fun e2=>HO5.out ((HSO.out rb).mpr (by rw[←e2];exact hb)))
 obtain⟨W4,hW4⟩: ∃W4,putL rb 0 [.slice ga us.length gc, .int .i64 l0, .int .i64 l1, .int .i64 l2, .int .i64 l3, .int .i64 l4] w5=W4:=⟨_,rfl⟩
 rw[List.length_nil,hW4]at v4
 rw[hW4]at b4 k4
 have HB4:=Lh b4
 have HK4:=Lh k4
 have HV4:=Lh v4
 simp only[putL,Ly,Lx]at hW4
 clear v4 b4 k4
 go_wp2
 (try simp only[Exit.inBlock,Exit.then])
 refine bodyPost_ret (comp_results HV4.out rfl rfl) rfl ?_
 refine⟨_,_,rfl,⟨_,us,by rw[HCL.out],(HSC.out.gol.kept (fun b e=>HK4.out b (Mx (Mx (My e.symm))))),HSC.out.len,fun i u g hu hg=>(HSC.out.each i u g hu hg).kept (fun v hv b e=>HK4.out b (Mx (Mx (Mx ⟨u,List.mem_of_getElem? hu,v,hv,e⟩))))⟩,RowK.nil _ _ _ _,HB4.out⟩
theorem comp_any (D:Nat) (S:Nat→Prop) (v:Value) (L:List It) (w:World) (env:Env w) (h:ItemsIs D w S v L) (hS: ∀b,S b→b<w.heap.size) (hm:cntL L≤1000000) (hd:depL L≤900000) (hl:LightL L):
  Calls Tryz.prog 13 #[v] w fun e w'=> ∃cv fv c F,e= .returned (.tuple #[cv,fv])∧CompS L c F∧ConfV w' w.heap.size cv c∧FltsV w' w.heap.size fv F∧Below w.heap.size w w':=by
 by_cases hr:RightL L
 ·by_cases hF:(lookS 0 subT L).2= []
  ·refine(comp_good D S v L w env h hS hm hd hl hr hF).mono ?_
   rintro e w' ⟨cv,fv,h1,h2,h3,h4⟩
   exact⟨cv,fv,_,_,h1,Mx (Mx ⟨hr,hF,rfl,rfl⟩),h2,h3,h4⟩
  ·refine(comp_bad D S v L w env h hS hm hd hl hr hF).mono ?_
   rintro e w' ⟨cv,fv,h1,h2,h3,h4⟩
   exact⟨cv,fv,_,_,h1,Mx (My ⟨hr,hF,rfl,rfl⟩),h2,h3,h4⟩
 ·refine(comp_no D S v L w env h hS hm hd hl hr).mono ?_
  rintro e w' ⟨cv,fv,h1,h2,h3,h4⟩
  exact⟨cv,fv,_,_,h1,My ⟨hr,rfl,rfl⟩,h2,h3,h4⟩
end
section
open Go.RowKit
def ReadS (r:Except (Int×Int×Int) (List It)) (c:CfC) (F:List Flt):Prop:=match r with
 | .error x=>c=zeroC∧F= [x]
 | .ok L=>CompS L c F
theorem GolV.weaken {w:World} {base base':Nat} {u:List Value} {g:GlC} (h:GolV w base u g) (hb:base'≤base):GolV w base' u g:=by
 obtain⟨lv,rv,e,h1,h2⟩:=h
 exact⟨lv,rv,e,h1.weaken hb,h2.weaken hb⟩
theorem GolV.keepB {w w':World} {base:Nat} {u:List Value} {g:GlC} (h:GolV w base u g) (hk: ∀b,base≤b→b<w.heap.size→w'.heap[b]?=w.heap[b]?):GolV w' base u g:=by
 obtain⟨lv,rv,e,h1,h2⟩:=h
 exact⟨lv,rv,e,h1.kept (fun b hb=>hk b (h1.lt hb).1 (h1.lt hb).2),h2.kept (fun b hb=>hk b (h2.lt hb).1 (h2.lt hb).2)⟩
theorem ConfV.weaken {w:World} {base base':Nat} {cv:Value} {c:CfC} (h:ConfV w base cv c) (hb:base'≤base):ConfV w base' cv c:=by
 obtain⟨gv,us,e,h1,h2,h3⟩:=h
 exact⟨gv,us,e,h1.weaken hb,h2,fun i u g hu hg=>(h3 i u g hu hg).weaken hb⟩
theorem ConfV.keepB {w w':World} {base:Nat} {cv:Value} {c:CfC} (h:ConfV w base cv c) (hk: ∀b,base≤b→b<w.heap.size→w'.heap[b]?=w.heap[b]?):ConfV w' base cv c:=by
 obtain⟨gv,us,e,h1,h2,h3⟩:=h
 exact⟨gv,us,e,h1.kept (fun b hb=>hk b (h1.lt hb).1 (h1.lt hb).2),h2,fun i u g hu hg=>(h3 i u g hu hg).keepB hk⟩
theorem ConfV.after {w w':World} {base:Nat} {cv:Value} {c:CfC} (h:ConfV w base cv c) (hb:Below w.heap.size w w'):ConfV w' base cv c:=h.keepB (fun b _ hl=>hb.block b hl)
theorem read_bad (s:ByteArray) (w:World) (c a b:Int) (hc:c≠0) (hp: ∀W,Below w.heap.size w W→Calls Tryz.prog 15 #[.string s] W fun e w'=>e= .returned (.tuple #[.slice none 0 0, .agg #[.int .i64 c, .int .i64 a, .int .i64 b]])∧Below W.heap.size W w'):
  Calls Tryz.prog 8 #[.string s] w fun e w'=> ∃cv fv,e= .returned (.tuple #[cv,fv])∧ConfV w' w.heap.size cv zeroC∧FltsV w' w.heap.size fv [(c,a,b)]∧Below w.heap.size w w':=by
 obtain⟨rb,W1,hrb,hW1,V1,b1,z1⟩:=boxL w [.slice none 0 0, .int .i64 0, .int .i64 0, .int .i64 0, .int .i64 0, .int .i64 0] 27
 have HP:=Lh (hp W1 b1)
 have HB1:=Lh b1
 have HRB:Hid (w.heap.size≤rb):=Lh (by omega)
 have HV1:=Lh V1
 have hcb:(c !=0)=true:=by simpa using hc
 clear V1 b1 z1 hp hc
 go_enter Tryz.func8,Tryz.ntmps8
 go_upto_region 2 with(go_at_call 15;(with_reducible refine(HP.out).mono ?_);rintro e w2 ⟨rfl,g2⟩;have G2:=Lh (below_step HB1.out g2);have HV2:=Lh (HV1.out.after g2);obtain⟨fb,Wa,w3,hfb,hWa,hw3,Va,Vb,h23,hz3⟩:=freshL w2 [.int .i64 0, .int .i64 0, .int .i64 0] [.int .i64 c, .int .i64 a, .int .i64 b] 41 rfl;simp only[putL,Ly,Lx]at hw3;have HV3:=Lh (HV2.out.after h23);have HB3:=Lh (below_step G2.out h23);have HVb:=Lh Vb;have HFB:Hid (rb<fb):=Lh (by have:=HV2.out.s;omega);have z0:=Va.c 0 rfl;have z1:=Va.c 1 rfl;have z2:=Va.c 2 rfl;have zq0:=Va.q 0 rfl;have zq1:=Va.q 1 rfl;have zq2:=Va.q 2 rfl;clear g2 Va Vb h23 hz3)
 clear z0 z1 z2 zq0 zq1 zq2 hfb hWa hw3 hrb hW1
 have x0:=HVb.out.c 0 rfl
 go_upto_region 3 with fail
 clear x0
 obtain⟨W8,hW8⟩: ∃W8,w3.drew=W8:=⟨_,rfl⟩
 have hb8:Below w3.heap.size w3 W8:=by rw[←hW8];exact(Below.refl _ _).drew
 have v8:=HV3.out.after hb8
 have u8:=HVb.out.after hb8
 have HB8:=Lh (below_step HB3.out hb8)
 obtain⟨gb,W5,hgb,hW5,V5,b5,z5⟩:=boxL W8 [.int .i64 c, .int .i64 a, .int .i64 b] 41
 have r5:=RowK.one_new 41 3 W8 w.heap.size [.int .i64 c, .int .i64 a, .int .i64 b] rfl (by intro u hu;simp only[List.mem_cons,List.not_mem_nil,or_false]at hu;rcases hu with rfl|rfl|rfl<;>rfl) HB8.out.size
 rw[hW5,hgb]at r5
 have v5:=v8.after b5
 have k6:=putL_var [.slice none 0 0, .int .i64 0, .int .i64 0, .int .i64 0, .int .i64 0, .int .i64 0] [] [.slice none 0 0, .int .i64 0, .int .i64 0, .int .i64 0, .int .i64 0, .int .i64 0] W5 v5 rfl
 have b6:=putL_below rb HRB.out [.slice none 0 0, .int .i64 0, .int .i64 0, .int .i64 0, .int .i64 0, .int .i64 0] 0 (below_step HB8.out b5)
 have r6:=r5.kept (w':=putL rb 0 [.slice none 0 0, .int .i64 0, .int .i64 0, .int .i64 0, .int .i64 0, .int .i64 0] W5) (fun b e=>putL_else rb _ _ _ _ (fun e2=>by have e':some gb=some b:=e;injection e' with e';have:=v8.s;omega))
 obtain⟨W6,hW6⟩: ∃W6,putL rb 0 [.slice none 0 0, .int .i64 0, .int .i64 0, .int .i64 0, .int .i64 0, .int .i64 0] W5=W6:=⟨_,rfl⟩
 rw[List.length_nil,hW6]at k6
 rw[hW6]at b6 r6
 have k7:=putL_var [.slice none 0 0, .int .i64 0, .int .i64 0, .int .i64 0, .int .i64 0, .int .i64 0] [] [.slice none 0 0, .int .i64 0, .int .i64 0, .int .i64 0, .int .i64 0, .int .i64 0] W8 v8 rfl
 have b7:=putL_below rb HRB.out [.slice none 0 0, .int .i64 0, .int .i64 0, .int .i64 0, .int .i64 0, .int .i64 0] 0 HB8.out
 have s7:=u8.stay (w':=putL rb 0 [.slice none 0 0, .int .i64 0, .int .i64 0, .int .i64 0, .int .i64 0, .int .i64 0] W8) (putL_else rb _ _ _ _ (by have:=HFB.out;omega))
 have hz7:=putL_size rb [.slice none 0 0, .int .i64 0, .int .i64 0, .int .i64 0, .int .i64 0, .int .i64 0] 0 W8
 obtain⟨W7,hW7⟩: ∃W7,putL rb 0 [.slice none 0 0, .int .i64 0, .int .i64 0, .int .i64 0, .int .i64 0, .int .i64 0] W8=W7:=⟨_,rfl⟩
 rw[List.length_nil,hW7]at k7
 rw[hW7]at b7 s7 hz7
 rw[hgb]at hz7
 obtain⟨gb',W9,hgb',hW9,V9,b9,z9⟩:=boxL W7 [.int .i64 c, .int .i64 a, .int .i64 b] 41
 obtain rfl:gb'=gb:=hgb'.symm.trans hz7
 have r9:=RowK.one_new 41 3 W7 w.heap.size [.int .i64 c, .int .i64 a, .int .i64 b] rfl (by intro u hu;simp only[List.mem_cons,List.not_mem_nil,or_false]at hu;rcases hu with rfl|rfl|rfl<;>rfl) b7.size
 rw[hW9,hgb']at r9
 have HE6:=Lh (And.intro k6 (And.intro r6 b6))
 have HE9:=Lh (And.intro (k7.after b9) (And.intro r9 (below_step b7 b9)))
 have cz0:=v8.c 0 rfl
 have cy0:=v8.q 0 rfl
 have zz0:=v5.c 0 rfl
 have yy0:=v5.q 0 rfl
 have cz1:=v8.c 1 rfl
 have cy1:=v8.q 1 rfl
 have zz1:=v5.c 1 rfl
 have yy1:=v5.q 1 rfl
 have cz2:=v8.c 2 rfl
 have cy2:=v8.q 2 rfl
 have zz2:=v5.c 2 rfl
 have yy2:=v5.q 2 rfl
 have cz3:=v8.c 3 rfl
 have cy3:=v8.q 3 rfl
 have zz3:=v5.c 3 rfl
 have yy3:=v5.q 3 rfl
 have cz4:=v8.c 4 rfl
 have cy4:=v8.q 4 rfl
 have zz4:=v5.c 4 rfl
 have yy4:=v5.q 4 rfl
 have cz5:=v8.c 5 rfl
 have cy5:=v8.q 5 rfl
 have zz5:=v5.c 5 rfl
 have yy5:=v5.q 5 rfl
 have p0:=u8.c 0 rfl
 have p1:=u8.c 1 rfl
 have p2:=u8.c 2 rfl
 have pp0:=s7.c 0 rfl
 have pp1:=s7.c 1 rfl
 have pp2:=s7.c 2 rfl
 simp only[putL,Ly,Lx]at hW6 hW7
 clear hb8 v8 u8 V5 b5 z5 r5 v5 k6 b6 r6 k7 b7 s7 V9 b9 z9 r9 hgb'
 go_region
 all_goals (first
  |(go_wp2;(try simp only[Exit.inBlock,Exit.then]);refine bodyPost_ret (read_results HE6.out.1 rfl rfl) rfl ?_;exact⟨_,_,rfl,ConfV.zero _ _,HE6.out.2.1,HE6.out.2.2⟩)
  |(go_wp2;(try simp only[Exit.inBlock,Exit.then]);refine bodyPost_ret (read_results HE9.out.1 rfl rfl) rfl ?_;exact⟨_,_,rfl,ConfV.zero _ _,HE9.out.2.1,HE9.out.2.2⟩))
theorem read_fine (s:ByteArray) (w:World) (env:Env w) (L:List It) (hm:cntL L≤1000000) (hd:depL L≤900000) (hl:LightL L) (hp: ∀W,Below w.heap.size w W→Calls Tryz.prog 15 #[.string s] W fun e w'=> ∃v,e= .returned (.tuple #[v, .agg #[.int .i64 0, .int .i64 0, .int .i64 0]])∧ItemsIs 5 w' (fun b=>W.heap.size≤b∧b<w'.heap.size) v L∧Below W.heap.size W w'):
  Calls Tryz.prog 8 #[.string s] w fun e w'=> ∃cv fv c F,e= .returned (.tuple #[cv,fv])∧CompS L c F∧ConfV w' w.heap.size cv c∧FltsV w' w.heap.size fv F∧Below w.heap.size w w':=by
 obtain⟨rb,W1,hrb,hW1,V1,b1,z1⟩:=boxL w [.slice none 0 0, .int .i64 0, .int .i64 0, .int .i64 0, .int .i64 0, .int .i64 0] 27
 have HP:=Lh (hp W1 b1)
 have HB1:=Lh b1
 have HRB:Hid (w.heap.size≤rb):=Lh (by omega)
 have HV1:=Lh V1
 have HCM:Hid (∀W v S,Below w.heap.size w W→ItemsIs 5 W S v L→(∀b,S b→b<W.heap.size)→Calls Tryz.prog 13 #[v] W fun e w'=> ∃ga gn gc fv c F,e= .returned (.tuple #[.agg #[.slice ga gn gc, .int .i64 c.room, .int .i64 c.reserve, .int .i64 c.first, .int .i64 c.cap, .int .i64 c.again],fv])∧CompS L c F∧ConfV w' W.heap.size (.agg #[.slice ga gn gc, .int .i64 c.room, .int .i64 c.reserve, .int .i64 c.first, .int .i64 c.cap, .int .i64 c.again]) c∧FltsV w' W.heap.size fv F∧Below W.heap.size W w'):=Lh (fun W v S hb h hS=>(comp_any 5 S v L W (env.step hb) h hS hm hd hl).mono (by
  rintro e w' ⟨cv,fv,c,F,rfl,h1,⟨gv,us,rfl,h2,h3,h4⟩,h5,h6⟩
  obtain⟨ga,gc,hgv⟩:=h2.size
  subst hgv
  exact⟨ga,us.length,gc,fv,c,F,rfl,h1,⟨_,us,rfl,h2,h3,h4⟩,h5,h6⟩))
 clear V1 b1 z1 hp hm hd hl env
 go_enter Tryz.func8,Tryz.ntmps8
 go_upto_region 2 with(go_at_call 15;(with_reducible refine(HP.out).mono ?_);rintro e w2 ⟨v,rfl,hit,g2⟩;have G2:=Lh (below_step HB1.out g2);have HV2:=Lh (HV1.out.after g2);obtain⟨va,vc,hvv⟩:=hit.size;obtain⟨n,hn⟩: ∃n,L.length=n:=⟨_,rfl⟩;rw[hn]at hvv;subst hvv;clear hn;obtain⟨fb,Wa,w3,hfb,hWa,hw3,Va,Vb,h23,hz3⟩:=freshL w2 [.int .i64 0, .int .i64 0, .int .i64 0] [.int .i64 0, .int .i64 0, .int .i64 0] 41 rfl;simp only[putL,Ly,Lx]at hw3;have HV3:=Lh (HV2.out.after h23);have HB3:=Lh (below_step G2.out h23);have HVb:=Lh Vb;have HIT:=Lh (hit.belowS (fun b h=>h.2) h23);have HZ3:=Lh h23.size;have z0:=Va.c 0 rfl;have z1:=Va.c 1 rfl;have z2:=Va.c 2 rfl;have zq0:=Va.q 0 rfl;have zq1:=Va.q 1 rfl;have zq2:=Va.q 2 rfl;clear g2 Va Vb h23 hz3 hit)
 clear z0 z1 z2 zq0 zq1 zq2 hfb hWa hw3 hrb hW1
 have x0:=HVb.out.c 0 rfl
 have HC3:=Lh (HCM.out w3 _ _ HB3.out HIT.out (fun b h=>Kx h.2 HZ3.out))
 have HW6:Hid (∀w5 (gv:Value) (c:CfC),Below w3.heap.size w3 w5→(∃W6,putL rb 0 (confL gv c) w5=W6∧VarL W6 rb (confL gv c)∧Below w.heap.size w W6∧∀b,w3.heap.size≤b→W6.heap[b]?=w5.heap[b]?)∧VarL w5 rb [.slice none 0 0, .int .i64 0, .int .i64 0, .int .i64 0, .int .i64 0, .int .i64 0]):=Lh (fun w5 gv c g=>⟨⟨_,rfl,putL_var (confL gv c) [] [.slice none 0 0, .int .i64 0, .int .i64 0, .int .i64 0, .int .i64 0, .int .i64 0] w5 (HV3.out.after g) rfl,putL_below rb HRB.out _ 0 (below_step HB3.out g),fun b hb=>putL_else rb _ _ _ _ (fun e=>by have:=HV3.out.s;omega)⟩,HV3.out.after g⟩)
 go_wp2_with (go_at_call 13;(with_reducible refine(HC3.out).mono ?_);rintro e w5 ⟨ga,gn,gc,fv,c,F,rfl,hS,hcv,hf,g5⟩;obtain⟨⟨W6,hW6,v6,b6,k6⟩,v5⟩:=HW6.out w5 (.slice ga gn gc) c g5;have HS:=Lh hS;have HCV:=Lh hcv;have HFV:=Lh hf;have HV6:=Lh v6;have HB6:=Lh b6;have HK6:=Lh k6;simp only[putL,confL,Ly,Lx]at hW6;have z0:=v5.c 0 rfl;have y0:=v5.q 0 rfl;have z1:=v5.c 1 rfl;have y1:=v5.q 1 rfl;have z2:=v5.c 2 rfl;have y2:=v5.q 2 rfl;have z3:=v5.c 3 rfl;have y3:=v5.q 3 rfl;have z4:=v5.c 4 rfl;have y4:=v5.q 4 rfl;have z5:=v5.c 5 rfl;have y5:=v5.q 5 rfl;clear hS hcv hf g5 v6 b6 k6 v5)
 (try simp only[Exit.inBlock,Exit.then])
 refine bodyPost_ret (read_results HV6.out rfl rfl) rfl ?_
 refine⟨_,_,c,F,rfl,HS.out,?_,?_,HB6.out⟩
 ·have h:=(HCV.out.keepB (w':=W6) (fun b h _=>HK6.out b h)).weaken HB3.out.size
  exact h
 ·exact(HFV.out.kept (w':=W6) (fun b e=>HK6.out b (HFV.out.lt e).1)).weaken HB3.out.size
end
section
open Go.RowKit
theorem treR_fine {s:ByteArray} {L:List It} (h:treR s= .ok L):cntL L≤300∧depL L≤4∧RightL L∧NumsR L∧LightL L:=by
 unfold treR at h
 split at h
 ·have h1:=tre_few h
  obtain⟨h2,h3⟩:=tre_right (runes_ok (nums_byte s)) h
  exact⟨h1.1,h1.2,h2,h3,h2.each.light h3⟩
 ·cases h
theorem cread_any (s:ByteArray) (w:World) (env:Env w):Calls Tryz.prog 8 #[.string s] w fun e w'=> ∃cv fv c F,e= .returned (.tuple #[cv,fv])∧ReadS (treR s) c F∧ConfV w' w.heap.size cv c∧FltsV w' w.heap.size fv F∧Below w.heap.size w w':=by
 have hP: ∀W,Below w.heap.size w W→Calls Tryz.prog 15 #[.string s] W (GivesTre (treR s) W):=fun W hb=>parse_any s W (env.step hb)
 cases hr:treR s with
 |error x=>
  obtain⟨c,a,b⟩:=x
  refine(read_bad s w c a b (treR_err hr) (fun W hb=>(hP W hb).mono ?_)).mono ?_
  ·rintro e w' ⟨h1,⟨c',a',b',h2,rfl⟩|⟨L,v,h2,_⟩⟩
   ·rw[hr]at h2
    injection h2 with h2
    injection h2 with h3 h4
    injection h4 with h4 h5
    subst h3 h4 h5
    exact⟨rfl,h1⟩
   ·rw[hr]at h2;cases h2
  ·rintro e w' ⟨cv,fv,h1,h2,h3,h4⟩
   exact⟨cv,fv,_,_,h1,⟨rfl,rfl⟩,h2,h3,h4⟩
 |ok L=>
  obtain⟨h1,h2,h3,h4,h5⟩:=treR_fine hr
  refine(read_fine s w env L (by omega) (by omega) h5 (fun W hb=>(hP W hb).mono ?_)).mono ?_
  ·rintro e w' ⟨q1,⟨c',a',b',q2,_⟩|⟨L',v,q2,rfl,q3⟩⟩
   ·rw[hr]at q2;cases q2
   ·rw[hr]at q2
    injection q2 with q2
    subst q2
    exact⟨v,rfl,q3,q1⟩
  ·rintro e w' ⟨cv,fv,c,F,q1,q2,q3⟩
   exact⟨cv,fv,c,F,q1,q2,q3⟩
end
section
open Go.RowKit
end
section
open Go.RowKit
end
section
def exC:ByteArray:=⟨#[111,98,106,101,99,116,105,118,101,32,97,32,123,32,116,97,114,103,101,116,32,57,57,46,57,37,59,32,114,117,108,101,32,114,32,112,97,103,101,32,123,32,108,111,110,103,32,49,104,59,32,115,104,111,114,116,32,53,109,59,32,102,97,99,116,111,114,32,49,52,46,52,59,32,125,32,125]⟩
theorem exC_nums:nums exC= [111,98,106,101,99,116,105,118,101,32,97,32,123,32,116,97,114,103,101,116,32,57,57,46,57,37,59,32,114,117,108,101,32,114,32,112,97,103,101,32,123,32,108,111,110,103,32,49,104,59,32,115,104,111,114,116,32,53,109,59,32,102,97,99,116,111,114,32,49,52,46,52,59,32,125,32,125]:=rfl
theorem ex_1h:spn 3600= [49,104]:=by
 have e2:dec 1= [49]:=by rw[dec_small (by decide)];rfl
 unfold spn
 rw[if_neg (by decide)]
 simp[units,sp,unitOf,e2]
theorem ex_5m:spn 300= [53,109]:=by
 have e2:dec 5= [53]:=by rw[dec_small (by decide)];rfl
 unfold spn
 rw[if_neg (by decide)]
 simp[units,sp,unitOf,e2]
theorem ex_fac:facP 14400= [49,52,46,52]:=by
 have e1:dec 14= [49,52]:=by rw[dec_big (by decide),dec_small (by decide)];rfl
 unfold facP tailD
 simp[e1]
def exCToks:List (TkV×Nat):= [(⟨1,[111,98,106,101,99,116,105,118,101],0⟩,0),(⟨1,[97],0⟩,10),(⟨7,[],0⟩,12),(⟨1,[116,97,114,103,101,116],0⟩,14),(⟨5,[],999000⟩,21),(⟨9,[],0⟩,26),(⟨1,[114,117,108,101],0⟩,28),(⟨1,[114],0⟩,33),(⟨1,[112,97,103,101],0⟩,35),(⟨7,[],0⟩,40),(⟨1,[108,111,110,103],0⟩,42),(⟨6,[],3600⟩,47),(⟨9,[],0⟩,49),(⟨1,[115,104,111,114,116],0⟩,51),(⟨6,[],300⟩,57),(⟨9,[],0⟩,59),(⟨1,[102,97,99,116,111,114],0⟩,61),(⟨4,[],14400⟩,68),(⟨9,[],0⟩,72),(⟨8,[],0⟩,74),(⟨8,[],0⟩,76)]
theorem exC_toks:tokF (runesOf (nums exC)) 0= .ok exCToks:=by
 have hl:runesOf (nums exC)= [111,98,106,101,99,116,105,118,101,32,97,32,123,32,116,97,114,103,101,116,32,57,57,46,57,37,59,32,114,117,108,101,32,114,32,112,97,103,101,32,123,32,108,111,110,103,32,49,104,59,32,115,104,111,114,116,32,53,109,59,32,102,97,99,116,111,114,32,49,52,46,52,59,32,125,32,125]:=by
  rw[exC_nums]
  exact runes_of_ascii (by decide)
 obtain⟨l,hll⟩: ∃l,runesOf (nums exC)=l:=⟨_,rfl⟩
 rw[hll]at hl ⊢
 have r_objective:=reads_plain (zs:= [111,98,106,101,99,116,105,118,101]) (by decide) (by unfold NameL;decide)
 have r_a:=reads_plain (zs:= [97]) (by decide) (by unfold NameL;decide)
 have r_target:=reads_plain (zs:= [116,97,114,103,101,116]) (by decide) (by unfold NameL;decide)
 have r_rule:=reads_plain (zs:= [114,117,108,101]) (by decide) (by unfold NameL;decide)
 have r_r:=reads_plain (zs:= [114]) (by decide) (by unfold NameL;decide)
 have r_page:=reads_plain (zs:= [112,97,103,101]) (by decide) (by unfold NameL;decide)
 have r_long:=reads_plain (zs:= [108,111,110,103]) (by decide) (by unfold NameL;decide)
 have r_short:=reads_plain (zs:= [115,104,111,114,116]) (by decide) (by unfold NameL;decide)
 have r_factor:=reads_plain (zs:= [102,97,99,116,111,114]) (by decide) (by unfold NameL;decide)
 have r_ex_share:=reads_share (n:=999000) (by decide)
 rw[ex_share]at r_ex_share
 have r_ex_1h:=reads_span (n:=3600) (by decide)
 rw[ex_1h]at r_ex_1h
 have r_ex_5m:=reads_span (n:=300) (by decide)
 rw[ex_5m]at r_ex_5m
 have r_ex_fac:=reads_factor (n:=14400) (by decide)
 rw[ex_fac]at r_ex_fac
 have r_m9:=reads_mark (c:=59) (k:=9) (by decide)
 have r_m8:=reads_mark (c:=125) (k:=8) (by decide)
 have z77:=tokF_none (l:=l) (i:=77) (by rw[hl];rfl)
 have a76:=tokF_reads (l:=l) (i:=76) (R:= []) (by rw[hl];rfl) r_m8 endG_nil
 have e76:tokF l 76= .ok [(⟨8,[],0⟩,76)]:=by rw[a76];show Except.map _ (tokF l 77)=_;rw[z77];rfl
 have a74:=tokF_reads (l:=l) (i:=74) (R:= [32,125]) (by rw[hl];rfl) r_m8 (endG_gap (by decide))
 have b75:=tokF_blank (l:=l) (i:=75) (z:=32) (R:= [125]) (by rw[hl];rfl) (by decide)
 have e74:tokF l 74= .ok [(⟨8,[],0⟩,74),(⟨8,[],0⟩,76)]:=by rw[a74];show Except.map _ (tokF l 75)=_;rw[b75,e76];rfl
 have a72:=tokF_reads (l:=l) (i:=72) (R:= [32,125,32,125]) (by rw[hl];rfl) r_m9 (endG_gap (by decide))
 have b73:=tokF_blank (l:=l) (i:=73) (z:=32) (R:= [125,32,125]) (by rw[hl];rfl) (by decide)
 have e72:tokF l 72= .ok [(⟨9,[],0⟩,72),(⟨8,[],0⟩,74),(⟨8,[],0⟩,76)]:=by rw[a72];show Except.map _ (tokF l 73)=_;rw[b73,e74];rfl
 have a68:=tokF_reads (l:=l) (i:=68) (R:= [59,32,125,32,125]) (by rw[hl];rfl) r_ex_fac (endG_gap (by decide))
 have e68:tokF l 68= .ok [(⟨4,[],14400⟩,68),(⟨9,[],0⟩,72),(⟨8,[],0⟩,74),(⟨8,[],0⟩,76)]:=by rw[a68];show Except.map _ (tokF l 72)=_;rw[e72];rfl
 have a61:=tokF_reads (l:=l) (i:=61) (R:= [32,49,52,46,52,59,32,125,32,125]) (by rw[hl];rfl) r_factor (endG_gap (by decide))
 have b67:=tokF_blank (l:=l) (i:=67) (z:=32) (R:= [49,52,46,52,59,32,125,32,125]) (by rw[hl];rfl) (by decide)
 have e61:tokF l 61= .ok [(⟨1,[102,97,99,116,111,114],0⟩,61),(⟨4,[],14400⟩,68),(⟨9,[],0⟩,72),(⟨8,[],0⟩,74),(⟨8,[],0⟩,76)]:=by rw[a61];show Except.map _ (tokF l 67)=_;rw[b67,e68];rfl
 have a59:=tokF_reads (l:=l) (i:=59) (R:= [32,102,97,99,116,111,114,32,49,52,46,52,59,32,125,32,125]) (by rw[hl];rfl) r_m9 (endG_gap (by decide))
 have b60:=tokF_blank (l:=l) (i:=60) (z:=32) (R:= [102,97,99,116,111,114,32,49,52,46,52,59,32,125,32,125]) (by rw[hl];rfl) (by decide)
 have e59:tokF l 59= .ok [(⟨9,[],0⟩,59),(⟨1,[102,97,99,116,111,114],0⟩,61),(⟨4,[],14400⟩,68),(⟨9,[],0⟩,72),(⟨8,[],0⟩,74),(⟨8,[],0⟩,76)]:=by rw[a59];show Except.map _ (tokF l 60)=_;rw[b60,e61];rfl
 have a57:=tokF_reads (l:=l) (i:=57) (R:= [59,32,102,97,99,116,111,114,32,49,52,46,52,59,32,125,32,125]) (by rw[hl];rfl) r_ex_5m (endG_gap (by decide))
 have e57:tokF l 57= .ok [(⟨6,[],300⟩,57),(⟨9,[],0⟩,59),(⟨1,[102,97,99,116,111,114],0⟩,61),(⟨4,[],14400⟩,68),(⟨9,[],0⟩,72),(⟨8,[],0⟩,74),(⟨8,[],0⟩,76)]:=by rw[a57];show Except.map _ (tokF l 59)=_;rw[e59];rfl
 have a51:=tokF_reads (l:=l) (i:=51) (R:= [32,53,109,59,32,102,97,99,116,111,114,32,49,52,46,52,59,32,125,32,125]) (by rw[hl];rfl) r_short (endG_gap (by decide))
 have b56:=tokF_blank (l:=l) (i:=56) (z:=32) (R:= [53,109,59,32,102,97,99,116,111,114,32,49,52,46,52,59,32,125,32,125]) (by rw[hl];rfl) (by decide)
 have e51:tokF l 51= .ok [(⟨1,[115,104,111,114,116],0⟩,51),(⟨6,[],300⟩,57),(⟨9,[],0⟩,59),(⟨1,[102,97,99,116,111,114],0⟩,61),(⟨4,[],14400⟩,68),(⟨9,[],0⟩,72),(⟨8,[],0⟩,74),(⟨8,[],0⟩,76)]:=by rw[a51];show Except.map _ (tokF l 56)=_;rw[b56,e57];rfl
 have a49:=tokF_reads (l:=l) (i:=49) (R:= [32,115,104,111,114,116,32,53,109,59,32,102,97,99,116,111,114,32,49,52,46,52,59,32,125,32,125]) (by rw[hl];rfl) r_m9 (endG_gap (by decide))
 have b50:=tokF_blank (l:=l) (i:=50) (z:=32) (R:= [115,104,111,114,116,32,53,109,59,32,102,97,99,116,111,114,32,49,52,46,52,59,32,125,32,125]) (by rw[hl];rfl) (by decide)
 have e49:tokF l 49= .ok [(⟨9,[],0⟩,49),(⟨1,[115,104,111,114,116],0⟩,51),(⟨6,[],300⟩,57),(⟨9,[],0⟩,59),(⟨1,[102,97,99,116,111,114],0⟩,61),(⟨4,[],14400⟩,68),(⟨9,[],0⟩,72),(⟨8,[],0⟩,74),(⟨8,[],0⟩,76)]:=by rw[a49];show Except.map _ (tokF l 50)=_;rw[b50,e51];rfl
 have a47:=tokF_reads (l:=l) (i:=47) (R:= [59,32,115,104,111,114,116,32,53,109,59,32,102,97,99,116,111,114,32,49,52,46,52,59,32,125,32,125]) (by rw[hl];rfl) r_ex_1h (endG_gap (by decide))
 have e47:tokF l 47= .ok [(⟨6,[],3600⟩,47),(⟨9,[],0⟩,49),(⟨1,[115,104,111,114,116],0⟩,51),(⟨6,[],300⟩,57),(⟨9,[],0⟩,59),(⟨1,[102,97,99,116,111,114],0⟩,61),(⟨4,[],14400⟩,68),(⟨9,[],0⟩,72),(⟨8,[],0⟩,74),(⟨8,[],0⟩,76)]:=by rw[a47];show Except.map _ (tokF l 49)=_;rw[e49];rfl
 have a42:=tokF_reads (l:=l) (i:=42) (R:= [32,49,104,59,32,115,104,111,114,116,32,53,109,59,32,102,97,99,116,111,114,32,49,52,46,52,59,32,125,32,125]) (by rw[hl];rfl) r_long (endG_gap (by decide))
 have b46:=tokF_blank (l:=l) (i:=46) (z:=32) (R:= [49,104,59,32,115,104,111,114,116,32,53,109,59,32,102,97,99,116,111,114,32,49,52,46,52,59,32,125,32,125]) (by rw[hl];rfl) (by decide)
 have e42:tokF l 42= .ok [(⟨1,[108,111,110,103],0⟩,42),(⟨6,[],3600⟩,47),(⟨9,[],0⟩,49),(⟨1,[115,104,111,114,116],0⟩,51),(⟨6,[],300⟩,57),(⟨9,[],0⟩,59),(⟨1,[102,97,99,116,111,114],0⟩,61),(⟨4,[],14400⟩,68),(⟨9,[],0⟩,72),(⟨8,[],0⟩,74),(⟨8,[],0⟩,76)]:=by rw[a42];show Except.map _ (tokF l 46)=_;rw[b46,e47];rfl
 have a40:=tokF_open (l:=l) (i:=40) (R:= [32,108,111,110,103,32,49,104,59,32,115,104,111,114,116,32,53,109,59,32,102,97,99,116,111,114,32,49,52,46,52,59,32,125,32,125]) (by rw[hl];rfl)
 have b41:=tokF_blank (l:=l) (i:=41) (z:=32) (R:= [108,111,110,103,32,49,104,59,32,115,104,111,114,116,32,53,109,59,32,102,97,99,116,111,114,32,49,52,46,52,59,32,125,32,125]) (by rw[hl];rfl) (by decide)
 have e40:tokF l 40= .ok [(⟨7,[],0⟩,40),(⟨1,[108,111,110,103],0⟩,42),(⟨6,[],3600⟩,47),(⟨9,[],0⟩,49),(⟨1,[115,104,111,114,116],0⟩,51),(⟨6,[],300⟩,57),(⟨9,[],0⟩,59),(⟨1,[102,97,99,116,111,114],0⟩,61),(⟨4,[],14400⟩,68),(⟨9,[],0⟩,72),(⟨8,[],0⟩,74),(⟨8,[],0⟩,76)]:=by rw[a40];show Except.map _ (tokF l 41)=_;rw[b41,e42];rfl
 have a35:=tokF_reads (l:=l) (i:=35) (R:= [32,123,32,108,111,110,103,32,49,104,59,32,115,104,111,114,116,32,53,109,59,32,102,97,99,116,111,114,32,49,52,46,52,59,32,125,32,125]) (by rw[hl];rfl) r_page (endG_gap (by decide))
 have b39:=tokF_blank (l:=l) (i:=39) (z:=32) (R:= [123,32,108,111,110,103,32,49,104,59,32,115,104,111,114,116,32,53,109,59,32,102,97,99,116,111,114,32,49,52,46,52,59,32,125,32,125]) (by rw[hl];rfl) (by decide)
 have e35:tokF l 35= .ok [(⟨1,[112,97,103,101],0⟩,35),(⟨7,[],0⟩,40),(⟨1,[108,111,110,103],0⟩,42),(⟨6,[],3600⟩,47),(⟨9,[],0⟩,49),(⟨1,[115,104,111,114,116],0⟩,51),(⟨6,[],300⟩,57),(⟨9,[],0⟩,59),(⟨1,[102,97,99,116,111,114],0⟩,61),(⟨4,[],14400⟩,68),(⟨9,[],0⟩,72),(⟨8,[],0⟩,74),(⟨8,[],0⟩,76)]:=by rw[a35];show Except.map _ (tokF l 39)=_;rw[b39,e40];rfl
 have a33:=tokF_reads (l:=l) (i:=33) (R:= [32,112,97,103,101,32,123,32,108,111,110,103,32,49,104,59,32,115,104,111,114,116,32,53,109,59,32,102,97,99,116,111,114,32,49,52,46,52,59,32,125,32,125]) (by rw[hl];rfl) r_r (endG_gap (by decide))
 have b34:=tokF_blank (l:=l) (i:=34) (z:=32) (R:= [112,97,103,101,32,123,32,108,111,110,103,32,49,104,59,32,115,104,111,114,116,32,53,109,59,32,102,97,99,116,111,114,32,49,52,46,52,59,32,125,32,125]) (by rw[hl];rfl) (by decide)
 have e33:tokF l 33= .ok [(⟨1,[114],0⟩,33),(⟨1,[112,97,103,101],0⟩,35),(⟨7,[],0⟩,40),(⟨1,[108,111,110,103],0⟩,42),(⟨6,[],3600⟩,47),(⟨9,[],0⟩,49),(⟨1,[115,104,111,114,116],0⟩,51),(⟨6,[],300⟩,57),(⟨9,[],0⟩,59),(⟨1,[102,97,99,116,111,114],0⟩,61),(⟨4,[],14400⟩,68),(⟨9,[],0⟩,72),(⟨8,[],0⟩,74),(⟨8,[],0⟩,76)]:=by rw[a33];show Except.map _ (tokF l 34)=_;rw[b34,e35];rfl
 have a28:=tokF_reads (l:=l) (i:=28) (R:= [32,114,32,112,97,103,101,32,123,32,108,111,110,103,32,49,104,59,32,115,104,111,114,116,32,53,109,59,32,102,97,99,116,111,114,32,49,52,46,52,59,32,125,32,125]) (by rw[hl];rfl) r_rule (endG_gap (by decide))
 have b32:=tokF_blank (l:=l) (i:=32) (z:=32) (R:= [114,32,112,97,103,101,32,123,32,108,111,110,103,32,49,104,59,32,115,104,111,114,116,32,53,109,59,32,102,97,99,116,111,114,32,49,52,46,52,59,32,125,32,125]) (by rw[hl];rfl) (by decide)
 have e28:tokF l 28= .ok [(⟨1,[114,117,108,101],0⟩,28),(⟨1,[114],0⟩,33),(⟨1,[112,97,103,101],0⟩,35),(⟨7,[],0⟩,40),(⟨1,[108,111,110,103],0⟩,42),(⟨6,[],3600⟩,47),(⟨9,[],0⟩,49),(⟨1,[115,104,111,114,116],0⟩,51),(⟨6,[],300⟩,57),(⟨9,[],0⟩,59),(⟨1,[102,97,99,116,111,114],0⟩,61),(⟨4,[],14400⟩,68),(⟨9,[],0⟩,72),(⟨8,[],0⟩,74),(⟨8,[],0⟩,76)]:=by rw[a28];show Except.map _ (tokF l 32)=_;rw[b32,e33];rfl
 have a26:=tokF_reads (l:=l) (i:=26) (R:= [32,114,117,108,101,32,114,32,112,97,103,101,32,123,32,108,111,110,103,32,49,104,59,32,115,104,111,114,116,32,53,109,59,32,102,97,99,116,111,114,32,49,52,46,52,59,32,125,32,125]) (by rw[hl];rfl) r_m9 (endG_gap (by decide))
 have b27:=tokF_blank (l:=l) (i:=27) (z:=32) (R:= [114,117,108,101,32,114,32,112,97,103,101,32,123,32,108,111,110,103,32,49,104,59,32,115,104,111,114,116,32,53,109,59,32,102,97,99,116,111,114,32,49,52,46,52,59,32,125,32,125]) (by rw[hl];rfl) (by decide)
 have e26:tokF l 26= .ok [(⟨9,[],0⟩,26),(⟨1,[114,117,108,101],0⟩,28),(⟨1,[114],0⟩,33),(⟨1,[112,97,103,101],0⟩,35),(⟨7,[],0⟩,40),(⟨1,[108,111,110,103],0⟩,42),(⟨6,[],3600⟩,47),(⟨9,[],0⟩,49),(⟨1,[115,104,111,114,116],0⟩,51),(⟨6,[],300⟩,57),(⟨9,[],0⟩,59),(⟨1,[102,97,99,116,111,114],0⟩,61),(⟨4,[],14400⟩,68),(⟨9,[],0⟩,72),(⟨8,[],0⟩,74),(⟨8,[],0⟩,76)]:=by rw[a26];show Except.map _ (tokF l 27)=_;rw[b27,e28];rfl
 have a21:=tokF_reads (l:=l) (i:=21) (R:= [59,32,114,117,108,101,32,114,32,112,97,103,101,32,123,32,108,111,110,103,32,49,104,59,32,115,104,111,114,116,32,53,109,59,32,102,97,99,116,111,114,32,49,52,46,52,59,32,125,32,125]) (by rw[hl];rfl) r_ex_share (endG_gap (by decide))
 have e21:tokF l 21= .ok [(⟨5,[],999000⟩,21),(⟨9,[],0⟩,26),(⟨1,[114,117,108,101],0⟩,28),(⟨1,[114],0⟩,33),(⟨1,[112,97,103,101],0⟩,35),(⟨7,[],0⟩,40),(⟨1,[108,111,110,103],0⟩,42),(⟨6,[],3600⟩,47),(⟨9,[],0⟩,49),(⟨1,[115,104,111,114,116],0⟩,51),(⟨6,[],300⟩,57),(⟨9,[],0⟩,59),(⟨1,[102,97,99,116,111,114],0⟩,61),(⟨4,[],14400⟩,68),(⟨9,[],0⟩,72),(⟨8,[],0⟩,74),(⟨8,[],0⟩,76)]:=by rw[a21];show Except.map _ (tokF l 26)=_;rw[e26];rfl
 have a14:=tokF_reads (l:=l) (i:=14) (R:= [32,57,57,46,57,37,59,32,114,117,108,101,32,114,32,112,97,103,101,32,123,32,108,111,110,103,32,49,104,59,32,115,104,111,114,116,32,53,109,59,32,102,97,99,116,111,114,32,49,52,46,52,59,32,125,32,125]) (by rw[hl];rfl) r_target (endG_gap (by decide))
 have b20:=tokF_blank (l:=l) (i:=20) (z:=32) (R:= [57,57,46,57,37,59,32,114,117,108,101,32,114,32,112,97,103,101,32,123,32,108,111,110,103,32,49,104,59,32,115,104,111,114,116,32,53,109,59,32,102,97,99,116,111,114,32,49,52,46,52,59,32,125,32,125]) (by rw[hl];rfl) (by decide)
 have e14:tokF l 14= .ok [(⟨1,[116,97,114,103,101,116],0⟩,14),(⟨5,[],999000⟩,21),(⟨9,[],0⟩,26),(⟨1,[114,117,108,101],0⟩,28),(⟨1,[114],0⟩,33),(⟨1,[112,97,103,101],0⟩,35),(⟨7,[],0⟩,40),(⟨1,[108,111,110,103],0⟩,42),(⟨6,[],3600⟩,47),(⟨9,[],0⟩,49),(⟨1,[115,104,111,114,116],0⟩,51),(⟨6,[],300⟩,57),(⟨9,[],0⟩,59),(⟨1,[102,97,99,116,111,114],0⟩,61),(⟨4,[],14400⟩,68),(⟨9,[],0⟩,72),(⟨8,[],0⟩,74),(⟨8,[],0⟩,76)]:=by rw[a14];show Except.map _ (tokF l 20)=_;rw[b20,e21];rfl
 have a12:=tokF_open (l:=l) (i:=12) (R:= [32,116,97,114,103,101,116,32,57,57,46,57,37,59,32,114,117,108,101,32,114,32,112,97,103,101,32,123,32,108,111,110,103,32,49,104,59,32,115,104,111,114,116,32,53,109,59,32,102,97,99,116,111,114,32,49,52,46,52,59,32,125,32,125]) (by rw[hl];rfl)
 have b13:=tokF_blank (l:=l) (i:=13) (z:=32) (R:= [116,97,114,103,101,116,32,57,57,46,57,37,59,32,114,117,108,101,32,114,32,112,97,103,101,32,123,32,108,111,110,103,32,49,104,59,32,115,104,111,114,116,32,53,109,59,32,102,97,99,116,111,114,32,49,52,46,52,59,32,125,32,125]) (by rw[hl];rfl) (by decide)
 have e12:tokF l 12= .ok [(⟨7,[],0⟩,12),(⟨1,[116,97,114,103,101,116],0⟩,14),(⟨5,[],999000⟩,21),(⟨9,[],0⟩,26),(⟨1,[114,117,108,101],0⟩,28),(⟨1,[114],0⟩,33),(⟨1,[112,97,103,101],0⟩,35),(⟨7,[],0⟩,40),(⟨1,[108,111,110,103],0⟩,42),(⟨6,[],3600⟩,47),(⟨9,[],0⟩,49),(⟨1,[115,104,111,114,116],0⟩,51),(⟨6,[],300⟩,57),(⟨9,[],0⟩,59),(⟨1,[102,97,99,116,111,114],0⟩,61),(⟨4,[],14400⟩,68),(⟨9,[],0⟩,72),(⟨8,[],0⟩,74),(⟨8,[],0⟩,76)]:=by rw[a12];show Except.map _ (tokF l 13)=_;rw[b13,e14];rfl
 have a10:=tokF_reads (l:=l) (i:=10) (R:= [32,123,32,116,97,114,103,101,116,32,57,57,46,57,37,59,32,114,117,108,101,32,114,32,112,97,103,101,32,123,32,108,111,110,103,32,49,104,59,32,115,104,111,114,116,32,53,109,59,32,102,97,99,116,111,114,32,49,52,46,52,59,32,125,32,125]) (by rw[hl];rfl) r_a (endG_gap (by decide))
 have b11:=tokF_blank (l:=l) (i:=11) (z:=32) (R:= [123,32,116,97,114,103,101,116,32,57,57,46,57,37,59,32,114,117,108,101,32,114,32,112,97,103,101,32,123,32,108,111,110,103,32,49,104,59,32,115,104,111,114,116,32,53,109,59,32,102,97,99,116,111,114,32,49,52,46,52,59,32,125,32,125]) (by rw[hl];rfl) (by decide)
 have e10:tokF l 10= .ok [(⟨1,[97],0⟩,10),(⟨7,[],0⟩,12),(⟨1,[116,97,114,103,101,116],0⟩,14),(⟨5,[],999000⟩,21),(⟨9,[],0⟩,26),(⟨1,[114,117,108,101],0⟩,28),(⟨1,[114],0⟩,33),(⟨1,[112,97,103,101],0⟩,35),(⟨7,[],0⟩,40),(⟨1,[108,111,110,103],0⟩,42),(⟨6,[],3600⟩,47),(⟨9,[],0⟩,49),(⟨1,[115,104,111,114,116],0⟩,51),(⟨6,[],300⟩,57),(⟨9,[],0⟩,59),(⟨1,[102,97,99,116,111,114],0⟩,61),(⟨4,[],14400⟩,68),(⟨9,[],0⟩,72),(⟨8,[],0⟩,74),(⟨8,[],0⟩,76)]:=by rw[a10];show Except.map _ (tokF l 11)=_;rw[b11,e12];rfl
 have a0:=tokF_reads (l:=l) (i:=0) (R:= [32,97,32,123,32,116,97,114,103,101,116,32,57,57,46,57,37,59,32,114,117,108,101,32,114,32,112,97,103,101,32,123,32,108,111,110,103,32,49,104,59,32,115,104,111,114,116,32,53,109,59,32,102,97,99,116,111,114,32,49,52,46,52,59,32,125,32,125]) (by rw[hl];rfl) r_objective (endG_gap (by decide))
 have b9:=tokF_blank (l:=l) (i:=9) (z:=32) (R:= [97,32,123,32,116,97,114,103,101,116,32,57,57,46,57,37,59,32,114,117,108,101,32,114,32,112,97,103,101,32,123,32,108,111,110,103,32,49,104,59,32,115,104,111,114,116,32,53,109,59,32,102,97,99,116,111,114,32,49,52,46,52,59,32,125,32,125]) (by rw[hl];rfl) (by decide)
 have e0:tokF l 0= .ok [(⟨1,[111,98,106,101,99,116,105,118,101],0⟩,0),(⟨1,[97],0⟩,10),(⟨7,[],0⟩,12),(⟨1,[116,97,114,103,101,116],0⟩,14),(⟨5,[],999000⟩,21),(⟨9,[],0⟩,26),(⟨1,[114,117,108,101],0⟩,28),(⟨1,[114],0⟩,33),(⟨1,[112,97,103,101],0⟩,35),(⟨7,[],0⟩,40),(⟨1,[108,111,110,103],0⟩,42),(⟨6,[],3600⟩,47),(⟨9,[],0⟩,49),(⟨1,[115,104,111,114,116],0⟩,51),(⟨6,[],300⟩,57),(⟨9,[],0⟩,59),(⟨1,[102,97,99,116,111,114],0⟩,61),(⟨4,[],14400⟩,68),(⟨9,[],0⟩,72),(⟨8,[],0⟩,74),(⟨8,[],0⟩,76)]:=by rw[a0];show Except.map _ (tokF l 9)=_;rw[b9,e10];rfl
 exact e0
def exCConf:CfC:=⟨[⟨⟨#[97]⟩,999000,60,0,0,0,[],[⟨⟨#[114]⟩,true,3600,300,14400,0,0⟩]⟩],16,0,10,300,0⟩
theorem exC_tree: ∃L,treR exC= .ok L∧RightL L∧NumsR L∧(lookS 0 subT L).2= []∧confC L=exCConf:=by
 have hrr:treR exC=treF (runesOf (nums exC)):=if_pos (by decide)
 have hok:=runes_ok (nums_byte exC)
 rw[hrr]
 obtain⟨l,hl⟩: ∃l,runesOf (nums exC)=l:=⟨_,rfl⟩
 have h:=exC_toks
 rw[hl]at h hok ⊢
 have ht:=treF_fine h
 obtain⟨v0,v1,v2,v3,v4,v5,v6,v7,v8,v9,v10,v11,v12,v13,v14,v15,v16,v17,v18,v19,v20,v21,v22,v23,v24,v25,hx⟩: ∃v0 v1 v2 v3 v4 v5 v6 v7 v8 v9 v10 v11 v12 v13 v14 v15 v16 v17 v18 v19 v20 v21 v22 v23 v24 v25,trF (exCToks.map (tk3 l)++ [tk3 l (tk0,l.length)]) [({},[])] 0 none= .ok [.mk (strOfNums [111,98,106,101,99,116,105,118,101]) [{ k:=1,s:=strOfNums [97],n:=0,a:=v22,b:=v23 }] true [.mk (strOfNums [116,97,114,103,101,116]) [{ k:=5,s:=strOfNums [],n:=999000,a:=v0,b:=v1 }] false [] v2 v3, .mk (strOfNums [114,117,108,101]) [{ k:=1,s:=strOfNums [114],n:=0,a:=v16,b:=v17 }, { k:=1,s:=strOfNums [112,97,103,101],n:=0,a:=v18,b:=v19 }] true [.mk (strOfNums [108,111,110,103]) [{ k:=6,s:=strOfNums [],n:=3600,a:=v4,b:=v5 }] false [] v6 v7, .mk (strOfNums [115,104,111,114,116]) [{ k:=6,s:=strOfNums [],n:=300,a:=v8,b:=v9 }] false [] v10 v11, .mk (strOfNums [102,97,99,116,111,114]) [{ k:=4,s:=strOfNums [],n:=14400,a:=v12,b:=v13 }] false [] v14 v15] v20 v21] v24 v25]:=⟨_,_,_,_,_,_,_,_,_,_,_,_,_,_,_,_,_,_,_,_,_,_,_,_,_,_,rfl⟩
 rw[hx]at ht
 obtain⟨h1,h2⟩:=tre_right hok ht
 refine⟨_,ht,h1,h2,?_,?_⟩
 ·kernel_rfl
 ·kernel_rfl
end
section
open Go.RowKit
theorem exc_read (w:World) (env:Env w):Calls Tryz.prog 8 #[.string exC] w fun e w'=> ∃ga gc fa fc lv rb rc,e= .returned (.tuple #[.agg #[.slice (some ⟨ga,0,none⟩) 1 gc, .int .i64 16, .int .i64 0, .int .i64 10, .int .i64 300, .int .i64 0], .slice fa 0 fc])∧Below w.heap.size w w'∧ga<w'.heap.size∧rb<w'.heap.size∧
  (w'.cell? ⟨ga,0,none⟩=some (.string ⟨#[97]⟩)∧w'.cell? ⟨ga,1,none⟩=some (.int .u32 999000)∧w'.cell? ⟨ga,2,none⟩=some (.int .i64 60)∧w'.cell? ⟨ga,6,none⟩=some lv∧w'.cell? ⟨ga,7,none⟩=some (.slice (some ⟨rb,0,none⟩) 1 rc))∧
  w'.cell? ⟨rb,0,none⟩=some (.string ⟨#[114]⟩)∧w'.cell? ⟨rb,1,none⟩=some (.bool true)∧w'.cell? ⟨rb,2,none⟩=some (.int .i64 3600)∧w'.cell? ⟨rb,3,none⟩=some (.int .i64 300)∧w'.cell? ⟨rb,4,none⟩=some (.int .u64 14400)∧w'.cell? ⟨rb,5,none⟩=some (.int .i64 0)∧w'.cell? ⟨rb,6,none⟩=some (.int .i64 0):=by
 obtain⟨L,hr,hR,hN,hF,hC⟩:=exC_tree
 refine(cread_any exC w env).mono ?_
 rintro e w' ⟨cv,fv,c,F,rfl,hS,⟨gv,us,rfl,hg,hl,he⟩,hf,hb⟩
 rw[hr]at hS
 have hcf:c=exCConf∧F= []:=by
  rcases hS with⟨h,_⟩|⟨_,h,_⟩|⟨_,_,h1,h2⟩
  ·exact(h hR).elim
  ·exact(h hF).elim
  ·exact⟨h1.trans hC,h2⟩
 obtain⟨rfl,rfl⟩:=hcf
 have hl1:us.length=1:=hl
 obtain⟨ga,gc,hgv,_,hgl,_⟩:=hg.form (by omega)
 rw[hl1]at hgv
 subst hgv
 obtain⟨fa,fc,hfv⟩:=hf.size
 subst hfv
 obtain⟨u,hu⟩: ∃u,us[0]?=some u:=⟨_,List.getElem?_eq_getElem (by omega)⟩
 obtain⟨lv,rv,hue,hla,hru⟩:=he 0 u _ hu rfl
 obtain⟨rb,rc,hrv,_,hrl,_⟩:=hru.form (by decide)
 have hrv':rv= .slice (some ⟨rb,0,none⟩) 1 rc:=hrv
 subst hrv'
 have eu:us.getD 0 []=u:=by rw[List.getD_eq_getElem?_getD,hu];rfl
 have q: ∀j,j<8→w'.cell? ⟨ga,0*8+j,none⟩=some (u.getD j undef):=fun j hj=>by have:=hg.at 0 j (by omega) hj;rw[eu]at this;exact this
 subst hue
 have r: ∀j,j<7→w'.cell? ⟨rb,0*7+j,none⟩=some ((rulV ⟨⟨#[114]⟩,true,3600,300,14400,0,0⟩).getD j undef):=fun j hj=>hru.at 0 j (by decide) hj
 exact⟨ga,gc,fa,fc,lv,rb,rc,rfl,hb,hgl,hrl,⟨q 0 (by decide),q 1 (by decide),q 2 (by decide),q 6 (by decide),q 7 (by decide)⟩,r 0 (by decide),r 1 (by decide),r 2 (by decide),r 3 (by decide),r 4 (by decide),r 5 (by decide),r 6 (by decide)⟩
theorem cmp_awake (w:World) (env:Env w):Calls Tryz.prog 7 #[] w fun e w'=>e= .returned (.bool true)∧Below w.heap.size w w':=by
 have HP:=Lh (exc_read w env)
 have e:(.string exC:Value)= .string ⟨([111,98,106,101,99,116,105,118,101,32,97,32,123,32,116,97,114,103,101,116,32,57,57,46,57,37,59,32,114,117,108,101,32,114,32,112,97,103].append [101,32,123,32,108,111,110,103,32,49,104,59,32,115,104,111,114,116,32,53,109,59,32,102,97,99,116,111,114,32,49,52,46,52,59,32,125,32,125]).toArray⟩:=rfl
 have e2:(.string exC:Value)= .string ⟨#[111,98,106,101,99,116,105,118,101,32,97,32,123,32,116,97,114,103,101,116,32,57,57,46,57,37,59,32,114,117,108,101,32,114,32,112,97,103,101,32,123,32,108,111,110,103,32,49,104,59,32,115,104,111,114,116,32,53,109,59,32,102,97,99,116,111,114,32,49,52,46,52,59,32,125,32,125]⟩:=rfl
 have HQ:=HP
 rw[e]at HP
 rw[e2]at HQ
 clear e e2 env
 go_enter Tryz.func7,Tryz.ntmps7
 go_wp2_with (go_at_call 8;(first|(with_reducible refine(HP.out).mono ?_)|(with_reducible refine(HQ.out).mono ?_));rintro e w1 ⟨ga,gc,fa,fc,lv,rb,rc,rfl,hb,hgl,hrl,⟨h0,h1,h2,h6,h7⟩,r0,r1,r2,r3,r4,r5,r6⟩;obtain⟨p,Wa,Wb,hp,hWa,hWb,Va,Vb,h12,hz2⟩:=freshL w1 [.slice none 0 0, .int .i64 0, .int .i64 0, .int .i64 0, .int .i64 0, .int .i64 0] [.slice (some ⟨ga,0,none⟩) 1 gc, .int .i64 16, .int .i64 0, .int .i64 10, .int .i64 300, .int .i64 0] 27 rfl;simp only[putL,Ly,Lx]at hWb;have HB:=Lh (below_step hb h12);have z0:=Va.c 0 rfl;have y0:=Va.q 0 rfl;have z1:=Va.c 1 rfl;have y1:=Va.q 1 rfl;have z2:=Va.c 2 rfl;have y2:=Va.q 2 rfl;have z3:=Va.c 3 rfl;have y3:=Va.q 3 rfl;have z4:=Va.c 4 rfl;have y4:=Va.q 4 rfl;have z5:=Va.c 5 rfl;have y5:=Va.q 5 rfl;have x0:=Vb.c 0 rfl;have g1:=(h12.cell (p:=⟨ga,1,none⟩) hgl).trans h1;have g2:=(h12.cell (p:=⟨ga,2,none⟩) hgl).trans h2;have g7:=(h12.cell (p:=⟨ga,7,none⟩) hgl).trans h7;have s0:=(h12.cell (p:=⟨rb,0,none⟩) hrl).trans r0;have s1:=(h12.cell (p:=⟨rb,1,none⟩) hrl).trans r1;have s2:=(h12.cell (p:=⟨rb,2,none⟩) hrl).trans r2;have s3:=(h12.cell (p:=⟨rb,3,none⟩) hrl).trans r3;have s4:=(h12.cell (p:=⟨rb,4,none⟩) hrl).trans r4;have s5:=(h12.cell (p:=⟨rb,5,none⟩) hrl).trans r5;have s6:=(h12.cell (p:=⟨rb,6,none⟩) hrl).trans r6;clear hb hgl hrl h0 h1 h2 h6 h7 r0 r1 r2 r3 r4 r5 r6 Va Vb h12 hz2)
 go_ret
 exact⟨rfl,HB.out⟩
end
section
open Go.RowKit
theorem sff_yes (F:List Flt) (ba bb:Nat) (fv gv:Value) (w:World) (h1:FltsV w ba fv F) (h2:FltsV w bb gv F) (hn:F.length≤1000000):Calls Tryz.prog 11 #[fv,gv] w fun e w'=>e= .returned (.bool true)∧Below w.heap.size w w':=by
 obtain⟨fa,fc,hfv⟩:=h1.size
 obtain⟨ga,gc,hgv⟩:=h2.size
 rw[Ky]at hfv hgv
 obtain⟨n,hnn⟩: ∃n,F.length=n:=⟨_,rfl⟩
 rw[hnn]at hfv hgv hn
 subst hfv hgv
 have H1:=Lh h1
 have H2:=Lh h2
 have HN:=Lh hnn
 have HL:=Lh hn
 clear h1 h2 hnn hn
 go_enter Tryz.func11,Tryz.ntmps11
 go_wp2
 go_loopw [5] (fun v5 wr=> ∃i,i≤n∧v5= .int .i64 (i:Int)∧Below w.heap.size w wr) (fun v5 _=>n-(intOf v5).toNat)
 case atStart=>exact⟨0,Nat.zero_le _,rfl,Below.refl _ _⟩
 case round=>
  obtain⟨wo,rfl⟩: ∃y,y=wr:=⟨wr,rfl⟩
  obtain⟨i,hi,rfl,hb⟩:=hrel
  have HB:=Lh hb
  clear hb
  by_cases hin:i<n
  ·have r1:=H1.out.below HB.out
   have r2:=H2.out.below HB.out
   have hl:i<(F.map fltV).length:=by rw[Ky,HN.out];exact hin
   obtain⟨rg,rk,hrv,_,hrl,_⟩:=r1.form (by omega)
   obtain⟨sg,sk,hsv,_,hsl,_⟩:=r2.form (by omega)
   injection hrv with hra hnn1 hrk
   injection hsv with hsa hnn2 hsk
   clear hnn1 hnn2
   subst hra hrk hsa hsk
   obtain⟨f,hf⟩: ∃f,F[i]?=some f:=⟨_,List.getElem?_eq_getElem (by rw[HN.out];exact hin)⟩
   have ef:(F.map fltV).getD i []=fltV f:=by rw[List.getD_eq_getElem?_getD,List.getElem?_map,hf];rfl
   have q1: ∀j,j<3→wo.cell? ⟨rg,i*3+j,none⟩=some ((fltV f).getD j undef):=fun j hj=>by have:=r1.at i j hl hj;rw[ef]at this;exact this
   have q2: ∀j,j<3→wo.cell? ⟨sg,i*3+j,none⟩=some ((fltV f).getD j undef):=fun j hj=>by have:=r2.at i j hl hj;rw[ef]at this;exact this
   have a0:wo.cell? ⟨rg,i*3,none⟩=some (.int .i64 f.1):=q1 0 (by decide)
   have a1:wo.cell? ⟨rg,i*3+1,none⟩=some (.int .i64 f.2.1):=q1 1 (by decide)
   have a2:wo.cell? ⟨rg,i*3+2,none⟩=some (.int .i64 f.2.2):=q1 2 (by decide)
   have b0:wo.cell? ⟨sg,i*3,none⟩=some (.int .i64 f.1):=q2 0 (by decide)
   have b1:wo.cell? ⟨sg,i*3+1,none⟩=some (.int .i64 f.2.1):=q2 1 (by decide)
   have b2:wo.cell? ⟨sg,i*3+2,none⟩=some (.int .i64 f.2.2):=q2 2 (by decide)
   have hi1:IntKind.i64.wrap ((i:Int)+1)=((i+1:Nat):Int):=by rw[IntKind.wrap_i64];have:=HL.out;omega
   clear q1 q2 r1 r2 hl hrl hsl hf ef
   go_wp2
   go_quiet (fail)
   have HB3:Hid (Below w.heap.size w (wo.drewN nq)):=Lh (below_step HB.out (Go.below_drewN (Below.refl _ _) nq))
   generalize wo.drewN nq=W3 at HB3 ⊢
   clear a0 a1 a2 b0 b1 b2
   go_wp2
   go_roundw
   case rel=>exact⟨i+1,by omega,rfl,HB3.out⟩
   case measure=>simp[intOf];omega
  ·have en:n=i:=by omega
   subst en
   go_wp2
   go_ret
   exact⟨rfl,HB.out⟩
end
end Go.Proofs.YtalcagmhdppdjaaGreatDoor
