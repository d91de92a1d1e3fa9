/-
  Package compile's words: values of unlike types, asserted; what comes up where a word is of another kind.
-/
import Derived.Test.YtalcagmhdppdjaaGreatDoorPkCompileTurns11
import Derived.Defers
import Derived.Recover
set_option maxRecDepth 100000
set_option maxHeartbeats 8000000
namespace Go.Proofs.YtalcagmhdppdjaaGreatDoor
open Lib renaming hid→Lh
open Go.RowKit.Below renaming refl→Mj
open Nat renaming le_refl→Mz
section
open Go.RowKit
theorem drop_len {l:List Int} {i:Nat} {a R:List Int} (h:l.drop i=a++R) (ha:0<a.length):i<l.length∧l.getD i 0=a.getD 0 0∧l.drop (i+a.length)=R:=by
 have hl:=congrArg List.length h
 rw[List.length_drop,List.length_append]at hl
 refine⟨by omega,?_,?_⟩
 ·have:l.getD i 0=(l.drop i).getD 0 0:=by rw[List.getD_eq_getElem?_getD,List.getD_eq_getElem?_getD,List.getElem?_drop];rfl
  rw[this,h,getD_app R ha]
 ·have:l.drop (i+a.length)=(l.drop i).drop a.length:=by rw[List.drop_drop]
  rw[this,h];simp
theorem tokF_reads {l:List Int} {i:Nat} {pr R:List Int} {t:TkV} (h:l.drop i=pr++R) (hr:ReadsAs pr t) (hR:EndG R):tokF l i=(tokF l (i+pr.length)).map (fun L=>(t,i)::L):=by
 obtain⟨h1,h2,_⟩:=drop_len h hr.some
 have hp:pieceN (l.drop i)=pr.length:=by rw[h];exact hr.piece R hR
 rw[tokF_piece h1 (by rw[h2];exact hr.gap) (by rw[h2];exact hr.note),hp,h,List.take_left,hr.tok,if_pos rfl]
theorem tokF_blank {l:List Int} {i:Nat} {z:Int} {R:List Int} (h:l.drop i=z::R) (hz:gapB z=true):tokF l i=tokF l (i+1):=by
 obtain⟨h1,h2,_⟩:=drop_len (a:= [z]) (R:=R) h (by simp)
 exact tokF_gap h1 (by rw[h2];exact hz)
theorem tokF_none {l:List Int} {i:Nat} (h:l.drop i= []):tokF l i= .ok []:=tokF_end (by
 have:=congrArg List.length h
 rw[List.length_drop]at this
 simp at this;omega)
theorem endG_gap {z:Int} {R:List Int} (h:withinB z=false):EndG (z::R):=fun r t e=>by injection e with e1 _;rw[←e1];exact h
theorem endG_nil:EndG []:=fun r t e=>by cases e
noncomputable def outF (l:List Int):List (TkV×Nat)×Int×Int×Int:=match tokF l 0 with
 | .error (k,c)=>([],c,(spotAt l k).1,(spotAt l k).2)
 | .ok L=>(L++ [(tk0,l.length)],0,0,0)
def GivesRF (l:List Int) (p:List (TkV×Nat)×Int×Int×Int) (w:World) (e:Ending) (w':World):Prop:=
 ∃v,e= .returned (.tuple #[v, .agg #[.int .i64 p.2.1, .int .i64 p.2.2.1, .int .i64 p.2.2.2]])∧RowK 78 5 w' w.heap.size v (toksV l p.1)∧Below w.heap.size w w'
def exS:ByteArray:=⟨#[49,52,46,52,32,49,104,51,48,109,32,57,57,46,57,37]⟩
theorem ex_share:pct 999000= [57,57,46,57,37]:=by
 have e:dec (999000/10000)= [57,57]:=by rw[dec_big (by decide),dec_small (by decide)];rfl
 unfold pct tailOf
 rw[e,if_neg (by decide)]
 simp[fr]
end
section
open Go.RowKit
theorem list_all:ListOK 1:=by
 have l5:ListOK 5:=list_step 5 (by decide) (by decide) (fun h=>absurd h (by decide))
 have i4:ItemOK 4:=item_step 4 (by decide) (by decide) l5
 have l4:ListOK 4:=list_step 4 (by decide) (by decide) (fun _=>i4)
 have i3:ItemOK 3:=item_step 3 (by decide) (by decide) l4
 have l3:ListOK 3:=list_step 3 (by decide) (by decide) (fun _=>i3)
 have i2:ItemOK 2:=item_step 2 (by decide) (by decide) l3
 have l2:ListOK 2:=list_step 2 (by decide) (by decide) (fun _=>i2)
 have i1:ItemOK 1:=item_step 1 (by decide) (by decide) l2
 exact list_step 1 (by decide) (by decide) (fun _=>i1)
structure Var1 (W:World) (p:Nat) (x:Value):Prop where
 c:W.cell? ⟨p,0,none⟩=some x
 q:W.frozen? ⟨p,0,none⟩=false
 s:p<W.heap.size
theorem Var1.stay {W W':World} {p:Nat} {x:Value} (h:Var1 W p x) (e:W'.heap[p]?=W.heap[p]?) (hs:W.heap.size≤W'.heap.size):Var1 W' p x:=
 ⟨(World.cell?_of_block e).trans h.c,(World.frozen?_of_block e).trans h.q,Nat.lt_of_lt_of_le h.s hs⟩
theorem Var1.set {W:World} {p:Nat} {x:Value} (h:Var1 W p x) (y:Value):Var1 (W.setCell ⟨p,0,none⟩ y) p y:=by
 obtain⟨c,q,s⟩:=h
 refine⟨?_,?_,?_⟩<;>simp[go_sem, *]
theorem Var1.fresh (W:World) (x:Value) (t:TypeId) (p:Nat) (hp:p=W.heap.size):Var1 (W.alloc (.cells #[x] t)) p x:=by
 subst hp;exact⟨by simp,by simp[go_sem],by simp⟩
theorem catch_flies (p q:Nat) (c a b:Int) (x y z u:Value) (older:List PanicEntry) (w:World) (hp:Var1 w p u) (hq:Var3 w q x y z) (hpq:p≠q):
  CallsD Tryz.prog 27 #[.pointer (some ⟨p,0,none⟩), .pointer (some ⟨q,0,none⟩)] (.panicking ({ v:= .iface 41 (.agg #[.int .i64 c, .int .i64 a, .int .i64 b]),recovered:=false } ::older)) w fun e u' w'=>
   e= .returned (.tuple #[])∧u'= .panicking ({ v:= .iface 41 (.agg #[.int .i64 c, .int .i64 a, .int .i64 b]),recovered:=true } ::older)∧w'=(put3 (w.setCell ⟨p,0,none⟩ (.slice none 0 0)) q (.int .i64 c) (.int .i64 a) (.int .i64 b)).drew:=by
 obtain⟨c0,q0,s0⟩:=hp
 have V:=hq.hold (W':=w.setCell ⟨p,0,none⟩ (.slice none 0 0)) (sset_else _ _ _ _ _ (Ne.symm hpq)) (by simp)
 obtain⟨k0,k1,k2,r0,r1,r2,s1⟩:=hq
 obtain⟨j0,j1,j2,t0,t1,t2,_⟩:=V
 have has: ∀W,(Instr.typeAssert (.iface 41 (.agg #[.int .i64 c, .int .i64 a, .int .i64 b])) 20 41 false).run Tryz.prog W= .ok (.agg #[.int .i64 c, .int .i64 a, .int .i64 b]) W:=fun _=>by kernel_rfl
 refine callsD_of_wpS Tryz.func27 rfl fun c₀ cs hu=>?_
 apply wpS_seq
 apply wpS_region
 simp[wpOpsS,go_sem,recoverD,hu,Tryz.ntmps27,Exit.thenS]
 apply wpS_seq
 apply wpS_region
 simp[wpOpsS,go_sem,Exit.thenS]
 refine wpS_cond (t:=true) (by simp[Act.eval,Array.replicate]) ?_
 simp only[if_true]
 refine wpS_of_wp ?_
 simp only[Array.replicate_succ,Array.replicate_zero,List.push_toArray,List.append_toArray,List.nil_append,List.cons_append,List.setIfInBounds_toArray,List.set_cons_succ,List.set_cons_zero]
 go_region
 exact⟨rfl,_,rfl, .tuple #[],by simp[results,Tryz.results27],rfl,rfl,rfl⟩
theorem catch_none (p q:Addr) (w:World):
  CallsD Tryz.prog 27 #[.pointer (some p), .pointer (some q)] .returning w fun e u' w'=>e= .returned (.tuple #[])∧u'= .returning∧w'=w:=by
 refine callsD_of_wpS Tryz.func27 rfl fun c₀ cs hu=>?_
 apply wpS_seq
 apply wpS_region
 simp[wpOpsS,go_sem,recoverD,hu,Tryz.ntmps27,Exit.thenS]
 apply wpS_seq
 apply wpS_region
 simp[wpOpsS,go_sem,Exit.thenS]
 refine wpS_cond (t:=false) (by simp[Act.eval,Array.replicate]) ?_
 simp only[Bool.false_eq_true,if_false]
 refine wpS_of_wp (wp_skip ?_)
 cases c₀
 simp_all [bodyPostS,results,Tryz.results27]
theorem load_list {W:World} {g:Nat} {x:Value} (h:Var1 W g x):(loadVar 34 ⟨g,0,none⟩).run Tryz.prog W= .ok x W:=by
 obtain⟨c,_,_⟩:=h
 go_simp
theorem parse_results {W:World} {p q:Nat} {u x y z:Value} {tmps:Array Value} (h1:Var1 W p u) (h3:Var3 W q x y z) (e1:tmps.getD 2 undef= .pointer (some ⟨p,0,none⟩)) (e2:tmps.getD 3 undef= .pointer (some ⟨q,0,none⟩)):(results Tryz.f15 tmps).run Tryz.prog W= .ok (.tuple #[u, .agg #[x,y,z]]) W:=by
 have a1:(asAddr (Value.pointer (some ⟨p,0,none⟩))).run Tryz.prog W= .ok ⟨p,0,none⟩ W:=rfl
 have a2:(asAddr (Value.pointer (some ⟨q,0,none⟩))).run Tryz.prog W= .ok ⟨q,0,none⟩ W:=rfl
 have hr:Tryz.f15.results= #[.cell 2 34, .cell 3 41]:=rfl
 have q2:tmps[2]?.getD undef= .pointer (some ⟨p,0,none⟩):=by simpa using e1
 have q3:tmps[3]?.getD undef= .pointer (some ⟨q,0,none⟩):=by simpa using e2
 simp only[results,hr]
 simp[Sem.run_bind,Result.andThen,q2,q3,a1,a2,load_list h1,load_fault h3]
theorem tokF_err {l:List Int} : ∀(n i k:Nat) (c:Int),l.length-i≤n→tokF l i= .error (k,c)→c≠0
 |n,i,k,c,hn,h=>by
  by_cases hi:i<l.length
  ·match n,hn with
   |0,hn=>omega
   |n+1,hn=>
    cases hg:gapB (l.getD i 0)with
    |true=>
     rw[tokF_gap hi hg]at h
     exact tokF_err n (i+1) k c (by omega) h
    |false=>
     by_cases h35:l.getD i 0=35
     ·have h1:=lineEnd_one hi (by omega)
      rw[tokF_note hi h35]at h
      exact tokF_err n (lineEnd l i) k c (by omega) h
     ·by_cases hc:(oneF l i).2.2=0
      ·have hnx:=oneF_next hi hc
       rw[tokF_one hi hg h35 hc hnx.1]at h
       cases hr:tokF l (oneF l i).2.1 with
       |error x=>
        obtain⟨k2,c2⟩:=x
        rw[hr]at h
        have:=tokF_err n (oneF l i).2.1 k2 c2 (by omega) hr
        injection h with h
        injection h with h1 h2
        rw[←h2];exact this
       |ok L2=>rw[hr]at h;cases h
      ·rw[tokF_bad hi hg h35 hc]at h
       injection h with h
       injection h with h1 h2
       rw[←h2];exact hc
  ·rw[tokF_end (by omega)]at h;cases h
structure FaultVar (w:World) (g:Nat) (c x y:Int) (W2 W3:World):Prop where
 g0:w.heap.size=g
 a2:w.alloc (.cells #[.int .i64 0, .int .i64 0, .int .i64 0] 41)=W2
 s3:((W2.setCell ⟨g,0,none⟩ (.int .i64 c)).setCell ⟨g,1,none⟩ (.int .i64 x)).setCell ⟨g,2,none⟩ (.int .i64 y)=W3
 v2:Var3 W2 g (.int .i64 0) (.int .i64 0) (.int .i64 0)
 v3:Var3 W3 g (.int .i64 c) (.int .i64 x) (.int .i64 y)
 bel:Below w.heap.size w W3
theorem fault_var (w:World) (c x y:Int): ∃g W2 W3,FaultVar w g c x y W2 W3:=by
 obtain⟨g,hg⟩: ∃g,w.heap.size=g:=⟨_,rfl⟩
 obtain⟨W2,hW2⟩: ∃W,w.alloc (.cells #[.int .i64 0, .int .i64 0, .int .i64 0] 41)=W:=⟨_,rfl⟩
 have b2:Below w.heap.size w W2:=by rw[←hW2];exact(Mj _ _).alloc (Mz _) _
 have V2:Var3 W2 g (.int .i64 0) (.int .i64 0) (.int .i64 0):=by rw[←hW2];exact Var3.fresh _ _ _ _ _ _ hg.symm
 exact⟨g,W2,_,hg,hW2,rfl,V2,V2.put _ _ _,below_put3 b2 (by omega) _ _ _⟩
structure ParseMade (w:World) (B:Nat) (W0 W1:World):Prop where
 b0:w.heap.size=B
 a0:w.alloc (.cells #[.slice none 0 0] 34)=W0
 a1:W0.alloc (.cells #[.int .i64 0, .int .i64 0, .int .i64 0] 41)=W1
 z0:W0.heap.size=B+1
 z1:W1.heap.size=B+2
 v1:Var1 W1 B (.slice none 0 0)
 v2:Var3 W1 (B+1) (.int .i64 0) (.int .i64 0) (.int .i64 0)
 g1:Below w.heap.size w W1
theorem parse_made (w:World): ∃B W0 W1,ParseMade w B W0 W1:=by
 obtain⟨B,hB⟩: ∃B,w.heap.size=B:=⟨_,rfl⟩
 obtain⟨W0,hW0⟩: ∃W,w.alloc (.cells #[.slice none 0 0] 34)=W:=⟨_,rfl⟩
 have V0:Var1 W0 B (.slice none 0 0):=by rw[←hW0];exact Var1.fresh _ _ _ _ hB.symm
 have g0:Below w.heap.size w W0:=by rw[←hW0];exact(Mj _ _).alloc (Mz _) _
 have hs0:W0.heap.size=B+1:=by rw[←hW0];simp[hB]
 obtain⟨W1,hW1⟩: ∃W,W0.alloc (.cells #[.int .i64 0, .int .i64 0, .int .i64 0] 41)=W:=⟨_,rfl⟩
 have b1:Below W0.heap.size W0 W1:=by rw[←hW1];exact(Mj _ _).alloc (Mz _) _
 refine⟨B,W0,W1,hB,hW0,hW1,hs0,by rw[←hW1];simp[hs0],V0.stay (b1.block B V0.s) b1.size,by rw[←hW1];exact Var3.fresh _ _ _ _ _ _ hs0.symm,g0.trans (b1.mono (by omega))⟩
theorem Var1.after {W W':World} {p:Nat} {x:Value} (h:Var1 W p x) (hb:Below W.heap.size W W'):Var1 W' p x:=h.stay (hb.block p h.s) hb.size
theorem caught {w w2:World} {B:Nat} {u x y z:Value} {c a b:Int} (h1:Var1 w2 B u) (h3:Var3 w2 (B+1) x y z) (hb:Below w.heap.size w w2) (hB:w.heap.size=B):
  Var1 (put3 (w2.setCell ⟨B,0,none⟩ (.slice none 0 0)) (B+1) (.int .i64 c) (.int .i64 a) (.int .i64 b)).drew B (.slice none 0 0)∧Var3 (put3 (w2.setCell ⟨B,0,none⟩ (.slice none 0 0)) (B+1) (.int .i64 c) (.int .i64 a) (.int .i64 b)).drew (B+1) (.int .i64 c) (.int .i64 a) (.int .i64 b)∧
   Below w.heap.size w (put3 (w2.setCell ⟨B,0,none⟩ (.slice none 0 0)) (B+1) (.int .i64 c) (.int .i64 a) (.int .i64 b)).drew:=by
 have hb1:Below w.heap.size w (w2.setCell ⟨B,0,none⟩ (.slice none 0 0)):=hb.setCell (by show w.heap.size≤B;omega) _
 have v3:=h3.hold (W':=w2.setCell ⟨B,0,none⟩ (.slice none 0 0)) (sset_else _ _ _ _ _ (by omega)) (by simp)
 have p3: ∀j,j≠B+1→(put3 (w2.setCell ⟨B,0,none⟩ (.slice none 0 0)) (B+1) (.int .i64 c) (.int .i64 a) (.int .i64 b)).heap[j]?=(w2.setCell ⟨B,0,none⟩ (.slice none 0 0)).heap[j]?:=fun j hj=>by
  unfold put3
  rw[sset_else _ _ _ _ _ hj,sset_else _ _ _ _ _ hj,sset_else _ _ _ _ _ hj]
 have s3:(put3 (w2.setCell ⟨B,0,none⟩ (.slice none 0 0)) (B+1) (.int .i64 c) (.int .i64 a) (.int .i64 b)).heap.size=(w2.setCell ⟨B,0,none⟩ (.slice none 0 0)).heap.size:=by unfold put3;simp
 exact⟨((h1.set _).stay (p3 B (by omega)) (Nat.le_of_eq s3.symm)).after (Mj _ _).drew,(v3.put _ _ _).after (Mj _ _).drew,(below_put3 hb1 (by omega) _ _ _).drew⟩
theorem parse_bad (s:ByteArray) (w:World) (c x y:Int) (hc:c≠0) (hT: ∀W,Below w.heap.size w W→Calls Tryz.prog 28 #[.string s] W fun e w'=>e= .returned (.tuple #[.slice none 0 0, .agg #[.int .i64 c, .int .i64 x, .int .i64 y]])∧Below W.heap.size W w'):
  Calls Tryz.prog 15 #[.string s] w fun e w'=>e= .returned (.tuple #[.slice none 0 0, .agg #[.int .i64 c, .int .i64 x, .int .i64 y]])∧Below w.heap.size w w':=by
 obtain⟨B,W0,W1,pm⟩:=parse_made w
 have HT:=Lh (hT W1 pm.g1)
 have HPM:=Lh pm
 have hb0:=pm.b0;have ha0:=pm.a0;have ha1:=pm.a1;have hz0:=pm.z0
 have hcb:(c !=0)=true:=by simpa using hc
 have hmf: ∀(fn:Fn) (first cap:Array Value) (w:World),(Instr.makeFunc fn first cap).run Tryz.prog w= .ok (.func fn first cap) w:=fun _ _ _ _=>rfl
 have HB0:=Lh hb0
 clear pm hc hT
 go_enter_defers Tryz.func15,Tryz.ntmps15
 go_wp2_with (go_at_call 28;(with_reducible refine(HT.out).mono ?_);rintro e w2 ⟨rfl,g2⟩;have G2:=Lh g2;obtain⟨f2,U2,U3,fm2⟩:=fault_var w2 c x y;have hf2:=fm2.g0;have ha2:=fm2.a2;have hs2:=fm2.s3;have c0:=fm2.v2.c0;have c1:=fm2.v2.c1;have c2:=fm2.v2.c2;have q0:=fm2.v2.q0;have q1:=fm2.v2.q1;have q2:=fm2.v2.q2;have d0:=fm2.v3.c0;have d1:=fm2.v3.c1;have d2:=fm2.v3.c2;have HFM:=Lh fm2;clear g2 fm2)
 have GV:=HPM.out.g1.trans (G2.out.mono (by have:=HPM.out.z1;have:=HPM.out.b0;omega))
 have GU:=GV.trans (HFM.out.bel.mono (by have:=GV.size;omega))
 have V1:=(HPM.out.v1.after G2.out).after HFM.out.bel
 have V2:=(HPM.out.v2.after G2.out).after HFM.out.bel
 have HCA:=Lh (caught (c:=c) (a:=x) (b:=y) V1 V2 GU HB0.out)
 refine leaves_cons (f:=27) (args:= #[.pointer (some ⟨B,0,none⟩), .pointer (some ⟨B+1,0,none⟩)]) (by simp) (by simp[go_sem]) ?_
 refine(catch_flies B (B+1) c x y _ _ _ _ [] _ V1 V2 (by omega)).mono ?_
 rintro e u' w'' ⟨rfl,rfl,rfl⟩
 exact⟨_,parse_results HCA.out.1 HCA.out.2.1 rfl rfl,rfl,HCA.out.2.2⟩
theorem parse_toks (s:ByteArray) (w:World) (T:List Tk3) (hTE:TEnd T) (hT: ∀W,Below w.heap.size w W→Calls Tryz.prog 28 #[.string s] W fun e w'=> ∃v,e= .returned (.tuple #[v, .agg #[.int .i64 0, .int .i64 0, .int .i64 0]])∧RowK 78 5 w' W.heap.size v (T.map tkV)∧Below W.heap.size W w'):
  Calls Tryz.prog 15 #[.string s] w (GivesTre (trF T [({},[])] 0 none) w):=by
 obtain⟨B,W0,W1,pm⟩:=parse_made w
 have HT:=Lh (hT W1 pm.g1)
 have HTE:=Lh hTE
 have HPM:=Lh pm
 have hb0:=pm.b0;have ha0:=pm.a0;have ha1:=pm.a1;have hz0:=pm.z0
 have hmf: ∀(fn:Fn) (first cap:Array Value) (w:World),(Instr.makeFunc fn first cap).run Tryz.prog w= .ok (.func fn first cap) w:=fun _ _ _ _=>rfl
 have HB0:=Lh hb0
 have HLA:Hid (∀(w:World) (rb:Nat) (T:List Tk3) (n:Nat),RdM w rb T n→TEnd T→n≤300→Calls Tryz.prog 29 #[.pointer (some ⟨rb,0,none⟩), .int .i64 1] w (GivesL 1 w rb T n)):=Lh list_all
 clear pm hT hTE
 go_enter_defers Tryz.func15,Tryz.ntmps15
 go_wp2_with (go_at_call 28;(with_reducible refine(HT.out).mono ?_))
 rintro e w2 ⟨v,rfl,r2,g2⟩
 obtain⟨f2,U2,U3,fm2⟩:=fault_var w2 0 0 0
 have hf2:=fm2.g0;have ha2:=fm2.a2;have hs2:=fm2.s3;have c0:=fm2.v2.c0;have c1:=fm2.v2.c1;have c2:=fm2.v2.c2;have q0:=fm2.v2.q0;have q1:=fm2.v2.q1;have q2:=fm2.v2.q2;have d0:=fm2.v3.c0;have d1:=fm2.v3.c1;have d2:=fm2.v3.c2
 have hz3:U3.heap.size=f2+1:=by rw[←hs2,←ha2];simp[hf2]
 obtain⟨av,cv,rfl⟩:=r2.size
 rw[List.length_map]at*
 obtain⟨W5,hW5⟩: ∃W,U3.alloc (.cells #[.slice none 0 0, .int .i64 0] 72)=W:=⟨_,rfl⟩
 have V5:Var2 W5 (f2+1) (.slice none 0 0) (.int .i64 0):=by rw[←hW5];exact Var2.fresh _ _ _ _ _ hz3.symm
 have b5:Below U3.heap.size U3 W5:=by rw[←hW5];exact(Mj _ _).alloc (Mz _) _
 obtain⟨W6,hW6⟩: ∃W,put2 W5 (f2+1) (.slice av T.length cv) (.int .i64 0)=W:=⟨_,rfl⟩
 have hW6':(W5.setCell ⟨f2+1,0,none⟩ (.slice av T.length cv)).setCell ⟨f2+1,1,none⟩ (.int .i64 0)=W6:=hW6
 have V6:Var2 W6 (f2+1) (.slice av T.length cv) (.int .i64 0):=by rw[←hW6];exact V5.put _ _
 have k5: ∀i,i<f2+1→W6.heap[i]?=U3.heap[i]?:=fun i hi=>by rw[←hW6,put2_else _ _ _ _ _ (by omega)];exact b5.block i (by omega)
 have z6:W6.heap.size=f2+2:=by rw[←hW6,put2_size,←hW5];simp[hz3]
 have GV:Below w.heap.size w w2:=HPM.out.g1.trans (g2.mono (by have:=HPM.out.z1;have:=HPM.out.b0;omega))
 have hle:w.heap.size≤f2:=by have:=GV.size;omega
 have GU:=GV.trans (fm2.bel.mono (by omega))
 have GW:Below w.heap.size w W6:=GU.trans (by
  rw[←hW6]
  exact below_put2 ((Mj _ _).trans (b5.mono (by omega))) (by omega) _ _)
 have R3:RowK 78 5 U3 W1.heap.size (.slice av T.length cv) (T.map tkV):=r2.below fm2.bel
 have HRD:Hid (RdM W6 (f2+1) T 0):=Lh ⟨_,V6,RowK.words (R3.kept (fun b hb=>k5 b (by have:=(R3.lt hb).2;omega))) (fun b hb=>by have:=(R3.lt hb).2;omega)⟩
 have V1:Var1 W6 B (.slice none 0 0):=((HPM.out.v1.after g2).after fm2.bel).stay (k5 B (by have:=HPM.out.b0;omega)) (by omega)
 have V2:Var3 W6 (B+1) (.int .i64 0) (.int .i64 0) (.int .i64 0):=((HPM.out.v2.after g2).after fm2.bel).hold (k5 (B+1) (by have:=HPM.out.z1;have:=g2.size;omega)) (by omega)
 have HV1:=Lh V1
 have HV2:=Lh V2
 have HGW:=Lh GW
 have HBF:Hid (B+2≤f2):=Lh (by have:=HPM.out.z1;have:=g2.size;omega)
 have HZ6:=Lh z6
 have x0:=V5.c0;have x1:=V5.c1;have y0:=V5.q0;have y1:=V5.q1
 have HCALL:=Lh (HLA.out W6 (f2+1) T 0 HRD.out HTE.out (by decide))
 clear r2 g2 fm2 V5 b5 V6 k5 z6 GV hle GU GW R3 V1 V2 hW6
 go_wp2_with (go_at_call 29;(with_reducible refine(HCALL.out).mono ?_))
 intro e w3 hl
 obtain⟨ho,hl⟩:=hl
 have VV1:=HV1.out.stay (ho.keep B HV1.out.s (fun e=>by have:=HBF.out;omega)) ho.size
 have VV2:=HV2.out.hold (ho.keep (B+1) HV2.out.s (fun e=>by have:=HBF.out;omega)) ho.size
 have hG3:Below w.heap.size w w3:=HGW.out.trans (ho.bel.mono (by have:=HBF.out;have:=HB0.out;omega))
 rcases hl with⟨c,a,b,hbad,rfl⟩|⟨L,v,T',n',rfl,hdone,hit,_⟩
 ·have HBAD:=Lh hbad.all
  have HCA:=Lh (caught (c:=c) (a:=a) (b:=b) VV1 VV2 hG3 HB0.out)
  have HVV1:=Lh VV1
  have HVV2:=Lh VV2
  unfold flies
  clear VV1 VV2 hG3 ho hbad
  go_wp2
  refine leaves_cons (f:=27) (args:= #[.pointer (some ⟨B,0,none⟩), .pointer (some ⟨B+1,0,none⟩)]) (by simp) (by simp[go_sem]) ?_
  refine(catch_flies B (B+1) c a b _ _ _ _ [] _ HVV1.out HVV2.out (by omega)).mono ?_
  rintro e u' w'' ⟨rfl,rfl,rfl⟩
  exact⟨_,parse_results HCA.out.1 HCA.out.2.1 rfl rfl,HCA.out.2.2,Or.inl ⟨c,a,b,HBAD.out,rfl⟩⟩
 ·obtain⟨al,cl,rfl⟩:=hit.size
  have HIT:=Lh hit
  have HDO:=Lh hdone.all
  obtain⟨W7,hW7⟩: ∃W,w3.setCell ⟨B,0,none⟩ (.slice al L.length cl)=W:=⟨_,rfl⟩
  have v1:Var1 W7 B (.slice al L.length cl):=by rw[←hW7];exact VV1.set _
  have v2:Var3 W7 (B+1) (.int .i64 0) (.int .i64 0) (.int .i64 0):=by rw[←hW7];exact VV2.hold (sset_else _ _ _ _ _ (by omega)) (by simp)
  have hG7:Below w.heap.size w W7:=by rw[←hW7];exact hG3.setCell (by show w.heap.size≤B;omega) _
  have p3: ∀j,j≠B+1→(put3 W7 (B+1) (.int .i64 0) (.int .i64 0) (.int .i64 0)).heap[j]?=W7.heap[j]?:=fun j hj=>by
   unfold put3
   rw[sset_else _ _ _ _ _ hj,sset_else _ _ _ _ _ hj,sset_else _ _ _ _ _ hj]
  have s3:(put3 W7 (B+1) (.int .i64 0) (.int .i64 0) (.int .i64 0)).heap.size=w3.heap.size:=by unfold put3;rw[←hW7];simp
  have HF1:=Lh (v1.stay (p3 B (by omega)) (by rw[s3,←hW7];simp))
  have HF2:=Lh (v2.put (.int .i64 0) (.int .i64 0) (.int .i64 0))
  have HFB:Hid (Below w.heap.size w (put3 W7 (B+1) (.int .i64 0) (.int .i64 0) (.int .i64 0))):=Lh (below_put3 hG7 (by omega) _ _ _)
  have HFI:Hid (ItemsIs 5 (put3 W7 (B+1) (.int .i64 0) (.int .i64 0) (.int .i64 0)) (fun b=>w.heap.size≤b∧b<(put3 W7 (B+1) (.int .i64 0) (.int .i64 0) (.int .i64 0)).heap.size) (.slice al L.length cl) L):=Lh (by
   have hz:=HZ6.out
   have hf:=HBF.out
   refine ItemsIs.keep (S:=fun b=>W6.heap.size≤b∧b<w3.heap.size) HIT.out (fun b hb=>⟨by omega,by rw[s3];exact hb.2⟩) (fun b hb=>(p3 b (by omega)).trans (by rw[←hW7];exact sset_else _ _ _ _ _ (by omega)))
  )
  have e0:=VV1.c;have e1:=VV1.q
  have j0:=v2.c0;have j1:=v2.c1;have j2:=v2.c2;have u0:=v2.q0;have u1:=v2.q1;have u2:=v2.q2
  clear VV1 VV2 v1 v2 hG7 hG3 p3 s3 hit hdone ho
  go_wp2
  refine leaves_cons (f:=27) (args:= #[.pointer (some ⟨B,0,none⟩), .pointer (some ⟨B+1,0,none⟩)]) (by simp) (by simp[go_sem]) ?_
  refine(catch_none _ _ _).mono ?_
  rintro e u' w'' ⟨rfl,rfl,rfl⟩
  exact⟨_,parse_results HF1.out HF2.out rfl rfl,HFB.out,Or.inr ⟨L,_,HDO.out,rfl,HFI.out⟩⟩
theorem toks_end {l:List Int} {L:List (TkV×Nat)} (h:tokF l 0= .ok L):TEnd (L.map (tk3 l)++ [tk3 l (tk0,l.length)]):=
 ⟨_,_,rfl,rfl,fun t ht=>by
  obtain⟨x,hx,rfl⟩:=List.mem_map.mp ht
  exact(tk3_good (tokF_good l _ _ L (Mz _) h x hx)).1⟩
theorem toksV_end (l:List Int) (L:List (TkV×Nat)):toksV l (L++ [(tk0,l.length)])=(L.map (tk3 l)++ [tk3 l (tk0,l.length)]).map tkV:=by
 rw[toksV_tk3,List.map_append];rfl
theorem parse_any (s:ByteArray) (w:World) (env:Env w):Calls Tryz.prog 15 #[.string s] w (GivesTre (treR s) w):=by
 by_cases h:s.size≤40000
 ·have e:treR s=treF (runesOf (nums s)):=if_pos h
  rw[e]
  obtain⟨l,hl⟩: ∃l,runesOf (nums s)=l:=⟨_,rfl⟩
  have hp: ∀W,Below w.heap.size w W→Calls Tryz.prog 28 #[.string s] W (GivesToks l W):=fun W hW=>by rw[←hl];exact ptoks_any s W (env.step hW) h
  rw[hl]
  cases ht:tokF l 0 with
  |error x=>
   obtain⟨k,c⟩:=x
   rw[treF_bad ht]
   refine(parse_bad s w c (spotAt l k).1 (spotAt l k).2 (tokF_err l.length 0 k c (by omega) ht) (fun W hW=>(hp W hW).mono ?_)).mono ?_
   ·rintro e w' ⟨hb,h|h⟩
    ·obtain⟨k2,c2,h2,rfl⟩:=h
     rw[ht]at h2
     injection h2 with h2
     injection h2 with h3 h4
     subst h3 h4
     exact⟨rfl,hb⟩
    ·obtain⟨L,v,h2,_⟩:=h
     rw[ht]at h2;cases h2
   ·rintro e w' ⟨rfl,hb⟩
    exact⟨hb,Or.inl ⟨_,_,_,rfl,rfl⟩⟩
  |ok L=>
   rw[treF_fine ht]
   refine parse_toks s w _ (toks_end ht) (fun W hW=>(hp W hW).mono ?_)
   rintro e w' ⟨hb,h|h⟩
   ·obtain⟨k2,c2,h2,_⟩:=h
    rw[ht]at h2;cases h2
   ·obtain⟨L2,v,h2,rfl,hr⟩:=h
    rw[ht]at h2
    injection h2 with h2
    subst h2
    rw[toksV_end]at hr
    exact⟨v,rfl,hr,hb⟩
 ·have e:treR s= .error (9,1,1):=if_neg h
  rw[e]
  refine(parse_bad s w 9 1 1 (by decide) (fun W _=>ptoks_long s W (by omega))).mono ?_
  rintro e w' ⟨rfl,hb⟩
  exact⟨hb,Or.inl ⟨_,_,_,rfl,rfl⟩⟩
end
section
def exT:ByteArray:=⟨#[114,117,108,101,32,97,32,112,97,103,101,32,123,32,102,111,114,32,50,109,59,32,125]⟩
theorem reads_plain {zs:List Int} (hb: ∀z∈zs,0≤z∧z≤127) (h:NameL zs):ReadsAs zs ⟨1,zs,0⟩:=by
 have e:runesOf zs=zs:=runes_of_ascii (by simpa using fun z hz=>(by have:=hb z hz;omega))
 have:=reads_name (zs:=zs) (fun z hz=>by have:=hb z hz;omega) (by rw[e];exact h)
 rw[e]at this
 exact this
def exToks:List (TkV×Nat):= [(⟨1,[114,117,108,101],0⟩,0),(⟨1,[97],0⟩,5),(⟨1,[112,97,103,101],0⟩,7),(⟨7,[],0⟩,12),(⟨1,[102,111,114],0⟩,14),(⟨6,[],120⟩,18),(⟨9,[],0⟩,20),(⟨8,[],0⟩,22)]
end
section
open Go.RowKit
end
section
open Go.RowKit
abbrev up (c:Int):Ending:= .panicked [{ v:= .iface 37 (.int .i64 c),recovered:=false }]
theorem need_yes (w:World):Calls Tryz.prog 91 #[.bool true] w fun e w'=>e= .returned (.tuple #[])∧w'=w:=by
 go_enter Tryz.func91,Tryz.ntmps91
 go_wp2
 first|go_end0|refine bodyPost_ret (results_none rfl _ _ _) rfl ?_
 exact⟨rfl,rfl⟩
theorem need_no (w:World):Calls Tryz.prog 91 #[.bool false] w fun e w'=>e=up 6∧w'=w:=by
 go_enter Tryz.func91,Tryz.ntmps91
 go_wp2
 first|exact⟨rfl,rfl⟩|exact⟨rfl,rfl,rfl⟩
def cmpV (t:Tk3):Value:=
 if t.k=1 then .iface 150 (.string t.s)else
 if t.k=2 then .iface 170 (.string t.s)else
 if t.k=3 then .iface 171 (.int .u64 t.n)else
 if t.k=4 then .iface 172 (.int .u64 t.n)else
 if t.k=5 then .iface 173 (.int .u64 t.n)else
 .iface 174 (.int .u64 t.n)
theorem cmpV_cases {t:Tk3} (h1:1≤t.k) (h6:t.k≤6):(t.k=1∧cmpV t= .iface 150 (.string t.s))∨(t.k=2∧cmpV t= .iface 170 (.string t.s))∨(t.k=3∧cmpV t= .iface 171 (.int .u64 t.n))∨(t.k=4∧cmpV t= .iface 172 (.int .u64 t.n))∨(t.k=5∧cmpV t= .iface 173 (.int .u64 t.n))∨(t.k=6∧cmpV t= .iface 174 (.int .u64 t.n)):=by
 have:t.k=1∨t.k=2∨t.k=3∨t.k=4∨t.k=5∨t.k=6:=by omega
 unfold cmpV
 rcases this with h|h|h|h|h|h<;>simp[h]
theorem value_any (t:Tk3) (w:World) (h1:1≤t.k) (h6:t.k≤6):Calls Tryz.prog 92 #[tkA t] w fun e w'=>e= .returned (cmpV t)∧Below w.heap.size w w':=by
 obtain⟨B,W,hB,hW,V,hb,_⟩:=tok_box w t
 have HB:=Lh hb
 have HB2:Hid (Below B w W):=Lh (hB▸hb)
 obtain⟨c0,c1,c2,c3,c4,_,_⟩:=V
 have hc:=cmpV_cases h1 h6
 unfold tkA
 clear hb h1 h6
 rcases hc with⟨hk,hv⟩|hc
 ·rw[hv]
  rw[hk]at c0 hW ⊢
  clear hk hv
  go_enter Tryz.func92,Tryz.ntmps92
  go_wp2
  go_ret
  first|exact⟨rfl,HB.out⟩|exact⟨rfl,HB2.out⟩
 rcases hc with⟨hk,hv⟩|hc
 ·rw[hv]
  rw[hk]at c0 hW ⊢
  clear hk hv
  go_enter Tryz.func92,Tryz.ntmps92
  go_wp2
  go_ret
  first|exact⟨rfl,HB.out⟩|exact⟨rfl,HB2.out⟩
 rcases hc with⟨hk,hv⟩|hc
 ·rw[hv]
  rw[hk]at c0 hW ⊢
  clear hk hv
  go_enter Tryz.func92,Tryz.ntmps92
  go_wp2
  go_ret
  first|exact⟨rfl,HB.out⟩|exact⟨rfl,HB2.out⟩
 rcases hc with⟨hk,hv⟩|hc
 ·rw[hv]
  rw[hk]at c0 hW ⊢
  clear hk hv
  go_enter Tryz.func92,Tryz.ntmps92
  go_wp2
  go_ret
  first|exact⟨rfl,HB.out⟩|exact⟨rfl,HB2.out⟩
 rcases hc with⟨hk,hv⟩|hc
 ·rw[hv]
  rw[hk]at c0 hW ⊢
  clear hk hv
  go_enter Tryz.func92,Tryz.ntmps92
  go_wp2
  go_ret
  first|exact⟨rfl,HB.out⟩|exact⟨rfl,HB2.out⟩
 obtain⟨hk,hv⟩:=hc
 rw[hv]
 rw[hk]at c0 hW ⊢
 clear hk hv
 go_enter Tryz.func92,Tryz.ntmps92
 go_wp2
 go_ret
 first|exact⟨rfl,HB.out⟩|exact⟨rfl,HB2.out⟩
theorem told_name {t:Tk3} (h1:1≤t.k) (h6:t.k≤6) (W:World):(Instr.typeAssert (cmpV t) 20 150 true).run Tryz.prog W= .ok (.tuple #[if t.k=1 then .string t.s else .string ⟨#[]⟩, .bool (decide (t.k=1))]) W:=by
 obtain⟨k,s,n,a,b⟩:=t
 simp only at h1 h6 ⊢
 have hc:=cmpV_cases (t:=⟨k,s,n,a,b⟩) h1 h6
 simp only at hc
 rcases hc with⟨rfl,hv⟩|⟨rfl,hv⟩|⟨rfl,hv⟩|⟨rfl,hv⟩|⟨rfl,hv⟩|⟨rfl,hv⟩<;>(rw[hv];(show _=_;kernel_rfl))
theorem told_text {t:Tk3} (h1:1≤t.k) (h6:t.k≤6) (W:World):(Instr.typeAssert (cmpV t) 20 170 true).run Tryz.prog W= .ok (.tuple #[if t.k=2 then .string t.s else .string ⟨#[]⟩, .bool (decide (t.k=2))]) W:=by
 obtain⟨k,s,n,a,b⟩:=t
 simp only at h1 h6 ⊢
 have hc:=cmpV_cases (t:=⟨k,s,n,a,b⟩) h1 h6
 simp only at hc
 rcases hc with⟨rfl,hv⟩|⟨rfl,hv⟩|⟨rfl,hv⟩|⟨rfl,hv⟩|⟨rfl,hv⟩|⟨rfl,hv⟩<;>(rw[hv];(show _=_;kernel_rfl))
theorem told_count {t:Tk3} (h1:1≤t.k) (h6:t.k≤6) (W:World):(Instr.typeAssert (cmpV t) 20 171 true).run Tryz.prog W= .ok (.tuple #[if t.k=3 then .int .u64 t.n else .int .u64 0, .bool (decide (t.k=3))]) W:=by
 obtain⟨k,s,n,a,b⟩:=t
 simp only at h1 h6 ⊢
 have hc:=cmpV_cases (t:=⟨k,s,n,a,b⟩) h1 h6
 simp only at hc
 rcases hc with⟨rfl,hv⟩|⟨rfl,hv⟩|⟨rfl,hv⟩|⟨rfl,hv⟩|⟨rfl,hv⟩|⟨rfl,hv⟩<;>(rw[hv];(show _=_;kernel_rfl))
theorem told_factor {t:Tk3} (h1:1≤t.k) (h6:t.k≤6) (W:World):(Instr.typeAssert (cmpV t) 20 172 true).run Tryz.prog W= .ok (.tuple #[if t.k=4 then .int .u64 t.n else .int .u64 0, .bool (decide (t.k=4))]) W:=by
 obtain⟨k,s,n,a,b⟩:=t
 simp only at h1 h6 ⊢
 have hc:=cmpV_cases (t:=⟨k,s,n,a,b⟩) h1 h6
 simp only at hc
 rcases hc with⟨rfl,hv⟩|⟨rfl,hv⟩|⟨rfl,hv⟩|⟨rfl,hv⟩|⟨rfl,hv⟩|⟨rfl,hv⟩<;>(rw[hv];(show _=_;kernel_rfl))
theorem told_share {t:Tk3} (h1:1≤t.k) (h6:t.k≤6) (W:World):(Instr.typeAssert (cmpV t) 20 173 true).run Tryz.prog W= .ok (.tuple #[if t.k=5 then .int .u64 t.n else .int .u64 0, .bool (decide (t.k=5))]) W:=by
 obtain⟨k,s,n,a,b⟩:=t
 simp only at h1 h6 ⊢
 have hc:=cmpV_cases (t:=⟨k,s,n,a,b⟩) h1 h6
 simp only at hc
 rcases hc with⟨rfl,hv⟩|⟨rfl,hv⟩|⟨rfl,hv⟩|⟨rfl,hv⟩|⟨rfl,hv⟩|⟨rfl,hv⟩<;>(rw[hv];(show _=_;kernel_rfl))
theorem told_span {t:Tk3} (h1:1≤t.k) (h6:t.k≤6) (W:World):(Instr.typeAssert (cmpV t) 20 174 true).run Tryz.prog W= .ok (.tuple #[if t.k=6 then .int .u64 t.n else .int .u64 0, .bool (decide (t.k=6))]) W:=by
 obtain⟨k,s,n,a,b⟩:=t
 simp only at h1 h6 ⊢
 have hc:=cmpV_cases (t:=⟨k,s,n,a,b⟩) h1 h6
 simp only at hc
 rcases hc with⟨rfl,hv⟩|⟨rfl,hv⟩|⟨rfl,hv⟩|⟨rfl,hv⟩|⟨rfl,hv⟩|⟨rfl,hv⟩<;>(rw[hv];(show _=_;kernel_rfl))
theorem nameOf_yes (t:Tk3) (w:World) (h1:1≤t.k) (h6:t.k≤6) (hk:t.k=1):Calls Tryz.prog 60 #[tkA t] w fun e w'=>e= .returned (.string t.s)∧Below w.heap.size w w':=by
 have HV:Hid (∀W,Calls Tryz.prog 92 #[tkA t] W fun e w'=>e= .returned (cmpV t)∧Below W.heap.size W w'):=Lh (fun W=>value_any t W h1 h6)
 have ht:=told_name h1 h6
 rw[if_pos hk,decide_eq_true hk]at ht
 obtain⟨V,hV⟩: ∃V,cmpV t=V:=⟨_,rfl⟩
 rw[hV]at HV ht
 obtain⟨B,W,hB,hW,VV,hb,_⟩:=tok_box w t
 have HB:=Lh hb
 obtain⟨c0,c1,c2,c3,c4,_,_⟩:=VV
 unfold tkA at HV ⊢
 clear hb h1 h6 hk hV
 go_enter Tryz.func60,Tryz.ntmps60
 go_wp2_with (first
  |(go_at_call 92;(with_reducible refine(HV.out _).mono ?_);rintro e w1 ⟨rfl,g1⟩;have G1:=Lh (below_step HB.out g1);clear g1)
  |(go_at_call 91;(with_reducible refine(need_yes _).mono ?_);rintro e w2 ⟨rfl,rfl⟩))
 go_ret
 exact⟨rfl,G1.out⟩
theorem nameOf_no (t:Tk3) (w:World) (h1:1≤t.k) (h6:t.k≤6) (hk:t.k≠1):Calls Tryz.prog 60 #[tkA t] w fun e w'=>e=up 6∧Below w.heap.size w w':=by
 have HV:Hid (∀W,Calls Tryz.prog 92 #[tkA t] W fun e w'=>e= .returned (cmpV t)∧Below W.heap.size W w'):=Lh (fun W=>value_any t W h1 h6)
 have ht:=told_name h1 h6
 rw[if_neg hk,decide_eq_false hk]at ht
 obtain⟨V,hV⟩: ∃V,cmpV t=V:=⟨_,rfl⟩
 rw[hV]at HV ht
 obtain⟨B,W,hB,hW,VV,hb,_⟩:=tok_box w t
 have HB:=Lh hb
 obtain⟨c0,c1,c2,c3,c4,_,_⟩:=VV
 unfold tkA at HV ⊢
 clear hb h1 h6 hk hV
 go_enter Tryz.func60,Tryz.ntmps60
 go_wp2_with (first
  |(go_at_call 92;(with_reducible refine(HV.out _).mono ?_);rintro e w1 ⟨rfl,g1⟩;have G1:=Lh (below_step HB.out g1);clear g1)
  |(go_at_call 91;(with_reducible refine(need_no _).mono ?_);rintro e w2 ⟨rfl,rfl⟩))
 first|exact⟨rfl,G1.out⟩|exact⟨rfl,rfl,G1.out⟩
theorem textOf_yes (t:Tk3) (w:World) (h1:1≤t.k) (h6:t.k≤6) (hk:t.k=2):Calls Tryz.prog 123 #[tkA t] w fun e w'=>e= .returned (.string t.s)∧Below w.heap.size w w':=by
 have HV:Hid (∀W,Calls Tryz.prog 92 #[tkA t] W fun e w'=>e= .returned (cmpV t)∧Below W.heap.size W w'):=Lh (fun W=>value_any t W h1 h6)
 have ht:=told_text h1 h6
 rw[if_pos hk,decide_eq_true hk]at ht
 obtain⟨V,hV⟩: ∃V,cmpV t=V:=⟨_,rfl⟩
 rw[hV]at HV ht
 obtain⟨B,W,hB,hW,VV,hb,_⟩:=tok_box w t
 have HB:=Lh hb
 obtain⟨c0,c1,c2,c3,c4,_,_⟩:=VV
 unfold tkA at HV ⊢
 clear hb h1 h6 hk hV
 go_enter Tryz.func123,Tryz.ntmps123
 go_wp2_with (first
  |(go_at_call 92;(with_reducible refine(HV.out _).mono ?_);rintro e w1 ⟨rfl,g1⟩;have G1:=Lh (below_step HB.out g1);clear g1)
  |(go_at_call 91;(with_reducible refine(need_yes _).mono ?_);rintro e w2 ⟨rfl,rfl⟩))
 go_ret
 exact⟨rfl,G1.out⟩
theorem textOf_no (t:Tk3) (w:World) (h1:1≤t.k) (h6:t.k≤6) (hk:t.k≠2):Calls Tryz.prog 123 #[tkA t] w fun e w'=>e=up 6∧Below w.heap.size w w':=by
 have HV:Hid (∀W,Calls Tryz.prog 92 #[tkA t] W fun e w'=>e= .returned (cmpV t)∧Below W.heap.size W w'):=Lh (fun W=>value_any t W h1 h6)
 have ht:=told_text h1 h6
 rw[if_neg hk,decide_eq_false hk]at ht
 obtain⟨V,hV⟩: ∃V,cmpV t=V:=⟨_,rfl⟩
 rw[hV]at HV ht
 obtain⟨B,W,hB,hW,VV,hb,_⟩:=tok_box w t
 have HB:=Lh hb
 obtain⟨c0,c1,c2,c3,c4,_,_⟩:=VV
 unfold tkA at HV ⊢
 clear hb h1 h6 hk hV
 go_enter Tryz.func123,Tryz.ntmps123
 go_wp2_with (first
  |(go_at_call 92;(with_reducible refine(HV.out _).mono ?_);rintro e w1 ⟨rfl,g1⟩;have G1:=Lh (below_step HB.out g1);clear g1)
  |(go_at_call 91;(with_reducible refine(need_no _).mono ?_);rintro e w2 ⟨rfl,rfl⟩))
 first|exact⟨rfl,G1.out⟩|exact⟨rfl,rfl,G1.out⟩
theorem shareOf_yes (t:Tk3) (w:World) (h1:1≤t.k) (h6:t.k≤6) (hk:t.k=5):Calls Tryz.prog 94 #[tkA t] w fun e w'=>e= .returned (.int .u64 t.n)∧Below w.heap.size w w':=by
 have HV:Hid (∀W,Calls Tryz.prog 92 #[tkA t] W fun e w'=>e= .returned (cmpV t)∧Below W.heap.size W w'):=Lh (fun W=>value_any t W h1 h6)
 have ht:=told_share h1 h6
 rw[if_pos hk,decide_eq_true hk]at ht
 obtain⟨V,hV⟩: ∃V,cmpV t=V:=⟨_,rfl⟩
 rw[hV]at HV ht
 obtain⟨B,W,hB,hW,VV,hb,_⟩:=tok_box w t
 have HB:=Lh hb
 obtain⟨c0,c1,c2,c3,c4,_,_⟩:=VV
 unfold tkA at HV ⊢
 clear hb h1 h6 hk hV
 go_enter Tryz.func94,Tryz.ntmps94
 go_wp2_with (first
  |(go_at_call 92;(with_reducible refine(HV.out _).mono ?_);rintro e w1 ⟨rfl,g1⟩;have G1:=Lh (below_step HB.out g1);clear g1)
  |(go_at_call 91;(with_reducible refine(need_yes _).mono ?_);rintro e w2 ⟨rfl,rfl⟩))
 go_ret
 exact⟨rfl,G1.out⟩
theorem shareOf_no (t:Tk3) (w:World) (h1:1≤t.k) (h6:t.k≤6) (hk:t.k≠5):Calls Tryz.prog 94 #[tkA t] w fun e w'=>e=up 6∧Below w.heap.size w w':=by
 have HV:Hid (∀W,Calls Tryz.prog 92 #[tkA t] W fun e w'=>e= .returned (cmpV t)∧Below W.heap.size W w'):=Lh (fun W=>value_any t W h1 h6)
 have ht:=told_share h1 h6
 rw[if_neg hk,decide_eq_false hk]at ht
 obtain⟨V,hV⟩: ∃V,cmpV t=V:=⟨_,rfl⟩
 rw[hV]at HV ht
 obtain⟨B,W,hB,hW,VV,hb,_⟩:=tok_box w t
 have HB:=Lh hb
 obtain⟨c0,c1,c2,c3,c4,_,_⟩:=VV
 unfold tkA at HV ⊢
 clear hb h1 h6 hk hV
 go_enter Tryz.func94,Tryz.ntmps94
 go_wp2_with (first
  |(go_at_call 92;(with_reducible refine(HV.out _).mono ?_);rintro e w1 ⟨rfl,g1⟩;have G1:=Lh (below_step HB.out g1);clear g1)
  |(go_at_call 91;(with_reducible refine(need_no _).mono ?_);rintro e w2 ⟨rfl,rfl⟩))
 first|exact⟨rfl,G1.out⟩|exact⟨rfl,rfl,G1.out⟩
theorem countOf_yes (t:Tk3) (w:World) (h1:1≤t.k) (h6:t.k≤6) (hk:t.k=3):Calls Tryz.prog 99 #[tkA t] w fun e w'=>e= .returned (.int .u64 t.n)∧Below w.heap.size w w':=by
 have HV:Hid (∀W,Calls Tryz.prog 92 #[tkA t] W fun e w'=>e= .returned (cmpV t)∧Below W.heap.size W w'):=Lh (fun W=>value_any t W h1 h6)
 have ht:=told_count h1 h6
 rw[if_pos hk,decide_eq_true hk]at ht
 obtain⟨V,hV⟩: ∃V,cmpV t=V:=⟨_,rfl⟩
 rw[hV]at HV ht
 obtain⟨B,W,hB,hW,VV,hb,_⟩:=tok_box w t
 have HB:=Lh hb
 obtain⟨c0,c1,c2,c3,c4,_,_⟩:=VV
 unfold tkA at HV ⊢
 clear hb h1 h6 hk hV
 go_enter Tryz.func99,Tryz.ntmps99
 go_wp2_with (first
  |(go_at_call 92;(with_reducible refine(HV.out _).mono ?_);rintro e w1 ⟨rfl,g1⟩;have G1:=Lh (below_step HB.out g1);clear g1)
  |(go_at_call 91;(with_reducible refine(need_yes _).mono ?_);rintro e w2 ⟨rfl,rfl⟩))
 go_ret
 exact⟨rfl,G1.out⟩
theorem countOf_no (t:Tk3) (w:World) (h1:1≤t.k) (h6:t.k≤6) (hk:t.k≠3):Calls Tryz.prog 99 #[tkA t] w fun e w'=>e=up 6∧Below w.heap.size w w':=by
 have HV:Hid (∀W,Calls Tryz.prog 92 #[tkA t] W fun e w'=>e= .returned (cmpV t)∧Below W.heap.size W w'):=Lh (fun W=>value_any t W h1 h6)
 have ht:=told_count h1 h6
 rw[if_neg hk,decide_eq_false hk]at ht
 obtain⟨V,hV⟩: ∃V,cmpV t=V:=⟨_,rfl⟩
 rw[hV]at HV ht
 obtain⟨B,W,hB,hW,VV,hb,_⟩:=tok_box w t
 have HB:=Lh hb
 obtain⟨c0,c1,c2,c3,c4,_,_⟩:=VV
 unfold tkA at HV ⊢
 clear hb h1 h6 hk hV
 go_enter Tryz.func99,Tryz.ntmps99
 go_wp2_with (first
  |(go_at_call 92;(with_reducible refine(HV.out _).mono ?_);rintro e w1 ⟨rfl,g1⟩;have G1:=Lh (below_step HB.out g1);clear g1)
  |(go_at_call 91;(with_reducible refine(need_no _).mono ?_);rintro e w2 ⟨rfl,rfl⟩))
 first|exact⟨rfl,G1.out⟩|exact⟨rfl,rfl,G1.out⟩
theorem spanOf_yes (t:Tk3) (w:World) (h1:1≤t.k) (h6:t.k≤6) (hk:t.k=6):Calls Tryz.prog 101 #[tkA t] w fun e w'=>e= .returned (.int .u64 t.n)∧Below w.heap.size w w':=by
 have HV:Hid (∀W,Calls Tryz.prog 92 #[tkA t] W fun e w'=>e= .returned (cmpV t)∧Below W.heap.size W w'):=Lh (fun W=>value_any t W h1 h6)
 have ht:=told_span h1 h6
 rw[if_pos hk,decide_eq_true hk]at ht
 obtain⟨V,hV⟩: ∃V,cmpV t=V:=⟨_,rfl⟩
 rw[hV]at HV ht
 obtain⟨B,W,hB,hW,VV,hb,_⟩:=tok_box w t
 have HB:=Lh hb
 obtain⟨c0,c1,c2,c3,c4,_,_⟩:=VV
 unfold tkA at HV ⊢
 clear hb h1 h6 hk hV
 go_enter Tryz.func101,Tryz.ntmps101
 go_wp2_with (first
  |(go_at_call 92;(with_reducible refine(HV.out _).mono ?_);rintro e w1 ⟨rfl,g1⟩;have G1:=Lh (below_step HB.out g1);clear g1)
  |(go_at_call 91;(with_reducible refine(need_yes _).mono ?_);rintro e w2 ⟨rfl,rfl⟩))
 go_ret
 exact⟨rfl,G1.out⟩
theorem spanOf_no (t:Tk3) (w:World) (h1:1≤t.k) (h6:t.k≤6) (hk:t.k≠6):Calls Tryz.prog 101 #[tkA t] w fun e w'=>e=up 6∧Below w.heap.size w w':=by
 have HV:Hid (∀W,Calls Tryz.prog 92 #[tkA t] W fun e w'=>e= .returned (cmpV t)∧Below W.heap.size W w'):=Lh (fun W=>value_any t W h1 h6)
 have ht:=told_span h1 h6
 rw[if_neg hk,decide_eq_false hk]at ht
 obtain⟨V,hV⟩: ∃V,cmpV t=V:=⟨_,rfl⟩
 rw[hV]at HV ht
 obtain⟨B,W,hB,hW,VV,hb,_⟩:=tok_box w t
 have HB:=Lh hb
 obtain⟨c0,c1,c2,c3,c4,_,_⟩:=VV
 unfold tkA at HV ⊢
 clear hb h1 h6 hk hV
 go_enter Tryz.func101,Tryz.ntmps101
 go_wp2_with (first
  |(go_at_call 92;(with_reducible refine(HV.out _).mono ?_);rintro e w1 ⟨rfl,g1⟩;have G1:=Lh (below_step HB.out g1);clear g1)
  |(go_at_call 91;(with_reducible refine(need_no _).mono ?_);rintro e w2 ⟨rfl,rfl⟩))
 first|exact⟨rfl,G1.out⟩|exact⟨rfl,rfl,G1.out⟩
theorem factorOf_fac (t:Tk3) (w:World) (h1:1≤t.k) (h6:t.k≤6) (hk:t.k=4):Calls Tryz.prog 124 #[tkA t] w fun e w'=>e= .returned (.int .u64 t.n)∧Below w.heap.size w w':=by
 have HV:Hid (∀W,Calls Tryz.prog 92 #[tkA t] W fun e w'=>e= .returned (cmpV t)∧Below W.heap.size W w'):=Lh (fun W=>value_any t W h1 h6)
 have ht:=told_factor h1 h6
 have hu:=told_count h1 h6
 rw[if_pos hk,decide_eq_true hk]at ht
 clear hu
 obtain⟨V,hV⟩: ∃V,cmpV t=V:=⟨_,rfl⟩
 rw[hV]at HV ht
 obtain⟨B,W,hB,hW,VV,hb,_⟩:=tok_box w t
 have HB:=Lh hb
 obtain⟨c0,c1,c2,c3,c4,_,_⟩:=VV
 unfold tkA at HV ⊢
 clear hb h1 h6 hk hV
 go_enter Tryz.func124,Tryz.ntmps124
 go_wp2_with (go_at_call 92;(with_reducible refine(HV.out _).mono ?_);rintro e w1 ⟨rfl,g1⟩;have G1:=Lh (below_step HB.out g1);clear g1)
 go_ret
 exact⟨rfl,G1.out⟩
theorem factorOf_cnt (t:Tk3) (w:World) (h1:1≤t.k) (h6:t.k≤6) (hn:0≤t.n∧t.n≤18446744073709551615) (hk:t.k=3):Calls Tryz.prog 124 #[tkA t] w fun e w'=>e= .returned (.int .u64 (1000*min t.n 1001))∧Below w.heap.size w w':=by
 have HV:Hid (∀W,Calls Tryz.prog 92 #[tkA t] W fun e w'=>e= .returned (cmpV t)∧Below W.heap.size W w'):=Lh (fun W=>value_any t W h1 h6)
 have ht:=told_factor h1 h6
 have hu:=told_count h1 h6
 rw[if_neg (by omega),decide_eq_false (by omega)]at ht
 rw[if_pos hk,decide_eq_true hk]at hu
 obtain⟨V,hV⟩: ∃V,cmpV t=V:=⟨_,rfl⟩
 rw[hV]at HV ht hu
 obtain⟨B,W,hB,hW,VV,hb,_⟩:=tok_box w t
 have HB:=Lh hb
 obtain⟨c0,c1,c2,c3,c4,_,_⟩:=VV
 unfold tkA at HV ⊢
 have HN:=Lh hn
 have hmul:IntKind.u64.wrap (1000*min t.n 1001)=1000*min t.n 1001:=by rw[IntKind.wrap_u64];omega
 clear hn
 clear hb h1 h6 hk hV
 go_enter Tryz.func124,Tryz.ntmps124
 go_wp2_with (go_at_call 92;(with_reducible refine(HV.out _).mono ?_);rintro e w1 ⟨rfl,g1⟩;have G1:=Lh (below_step HB.out g1);clear g1)
 go_ret
 exact⟨rfl,G1.out⟩
theorem factorOf_no (t:Tk3) (w:World) (h1:1≤t.k) (h6:t.k≤6) (hk:t.k≠4∧t.k≠3):Calls Tryz.prog 124 #[tkA t] w fun e w'=>e=up 6∧Below w.heap.size w w':=by
 have HV:Hid (∀W,Calls Tryz.prog 92 #[tkA t] W fun e w'=>e= .returned (cmpV t)∧Below W.heap.size W w'):=Lh (fun W=>value_any t W h1 h6)
 have ht:=told_factor h1 h6
 have hu:=told_count h1 h6
 rw[if_neg hk.1,decide_eq_false hk.1]at ht
 rw[if_neg hk.2,decide_eq_false hk.2]at hu
 obtain⟨V,hV⟩: ∃V,cmpV t=V:=⟨_,rfl⟩
 rw[hV]at HV ht hu
 obtain⟨B,W,hB,hW,VV,hb,_⟩:=tok_box w t
 have HB:=Lh hb
 obtain⟨c0,c1,c2,c3,c4,_,_⟩:=VV
 unfold tkA at HV ⊢
 clear hb h1 h6 hk hV
 go_enter Tryz.func124,Tryz.ntmps124
 go_wp2_with (go_at_call 92;(with_reducible refine(HV.out _).mono ?_);rintro e w1 ⟨rfl,g1⟩;have G1:=Lh (below_step HB.out g1);clear g1)
 first|exact⟨rfl,G1.out⟩|exact⟨rfl,rfl,G1.out⟩
theorem first_one (t:Tk3) (x y:ByteArray) (w:World) (h1:1≤t.k) (h6:t.k≤6) (hk:t.k=1∧t.s=x):Calls Tryz.prog 122 #[tkA t, .string x, .string y] w fun e w'=>e= .returned (.bool true)∧Below w.heap.size w w':=by
 have HV:=Lh (fun W=>nameOf_yes t W h1 h6 hk.1)
 have hx:(t.s.toList==x.toList)=true:=by rw[←beq_toListBytes,ba_beq];exact decide_eq_true hk.2
 obtain⟨B,W,hB,hW,VV,hb,_⟩:=tok_box w t
 have HB:=Lh hb
 obtain⟨c0,c1,c2,c3,c4,_,_⟩:=VV
 unfold tkA at HV ⊢
 clear hb h1 h6 hk
 go_enter Tryz.func122,Tryz.ntmps122
 go_wp2_with (first
  |(go_at_call 60;(with_reducible refine(HV.out _).mono ?_);rintro e w1 ⟨rfl,g1⟩;have G1:=Lh (below_step HB.out g1);clear g1)
  |(go_at_call 91;(with_reducible refine(need_yes _).mono ?_);rintro e w2 ⟨rfl,rfl⟩))
 go_ret
 exact⟨rfl,G1.out⟩
theorem first_other (t:Tk3) (x y:ByteArray) (w:World) (h1:1≤t.k) (h6:t.k≤6) (hk:t.k=1∧t.s≠x∧t.s=y):Calls Tryz.prog 122 #[tkA t, .string x, .string y] w fun e w'=>e= .returned (.bool false)∧Below w.heap.size w w':=by
 have HV:=Lh (fun W=>nameOf_yes t W h1 h6 hk.1)
 have hx:(t.s.toList==x.toList)=false:=by rw[←beq_toListBytes,ba_beq];exact decide_eq_false hk.2.1
 have hy:(t.s.toList==y.toList)=true:=by rw[←beq_toListBytes,ba_beq];exact decide_eq_true hk.2.2
 obtain⟨B,W,hB,hW,VV,hb,_⟩:=tok_box w t
 have HB:=Lh hb
 obtain⟨c0,c1,c2,c3,c4,_,_⟩:=VV
 unfold tkA at HV ⊢
 clear hb h1 h6 hk
 go_enter Tryz.func122,Tryz.ntmps122
 go_wp2_with (first
  |(go_at_call 60;(with_reducible refine(HV.out _).mono ?_);rintro e w1 ⟨rfl,g1⟩;have G1:=Lh (below_step HB.out g1);clear g1)
  |(go_at_call 91;(with_reducible refine(need_yes _).mono ?_);rintro e w2 ⟨rfl,rfl⟩))
 go_ret
 exact⟨rfl,G1.out⟩
theorem first_none (t:Tk3) (x y:ByteArray) (w:World) (h1:1≤t.k) (h6:t.k≤6) (hk:t.k=1∧t.s≠x∧t.s≠y):Calls Tryz.prog 122 #[tkA t, .string x, .string y] w fun e w'=>e=up 6∧Below w.heap.size w w':=by
 have HV:=Lh (fun W=>nameOf_yes t W h1 h6 hk.1)
 have hx:(t.s.toList==x.toList)=false:=by rw[←beq_toListBytes,ba_beq];exact decide_eq_false hk.2.1
 have hy:(t.s.toList==y.toList)=false:=by rw[←beq_toListBytes,ba_beq];exact decide_eq_false hk.2.2
 obtain⟨B,W,hB,hW,VV,hb,_⟩:=tok_box w t
 have HB:=Lh hb
 obtain⟨c0,c1,c2,c3,c4,_,_⟩:=VV
 unfold tkA at HV ⊢
 clear hb h1 h6 hk
 go_enter Tryz.func122,Tryz.ntmps122
 go_wp2_with (first
  |(go_at_call 60;(with_reducible refine(HV.out _).mono ?_);rintro e w1 ⟨rfl,g1⟩;have G1:=Lh (below_step HB.out g1);clear g1)
  |(go_at_call 91;(with_reducible refine(need_no _).mono ?_);rintro e w2 ⟨rfl,rfl⟩))
 first|exact⟨rfl,G1.out⟩|exact⟨rfl,rfl,G1.out⟩
theorem first_no (t:Tk3) (x y:ByteArray) (w:World) (h1:1≤t.k) (h6:t.k≤6) (hk:t.k≠1):Calls Tryz.prog 122 #[tkA t, .string x, .string y] w fun e w'=>e=up 6∧Below w.heap.size w w':=by
 have HV:=Lh (fun W=>nameOf_no t W h1 h6 hk)
 obtain⟨B,W,hB,hW,VV,hb,_⟩:=tok_box w t
 have HB:=Lh hb
 obtain⟨c0,c1,c2,c3,c4,_,_⟩:=VV
 unfold tkA at HV ⊢
 clear hb h1 h6 hk
 go_enter Tryz.func122,Tryz.ntmps122
 go_wp2_with (first
  |(go_at_call 60;(with_reducible refine(HV.out _).mono ?_);rintro e w1 ⟨rfl,g1⟩;have G1:=Lh (below_step HB.out g1);clear g1)
  |(go_at_call 91;(with_reducible refine(need_yes _).mono ?_);rintro e w2 ⟨rfl,rfl⟩))
 first|exact⟨rfl,G1.out⟩|exact⟨rfl,rfl,G1.out⟩
end
end Go.Proofs.YtalcagmhdppdjaaGreatDoor
