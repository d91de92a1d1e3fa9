/-
  ScanGaps: tokens printed one behind the other, with gaps between: plain.
-/
import Derived.Test.YtiapmjkaappcfaaGreatDoorPkShowGoals06
import Derived.Defers
import Derived.Recover
import Derived.RangeFuncNested
import Derived.RangeFuncLeaves
import Derived.RangeFuncBound
import Derived.Shelf.Abstract
import Derived.Shelf.RegionOpen
import Derived.OwnWalkIn
import Derived.TacticsInMore
import Derived.LoopNIn
import Derived.LoopIn
set_option maxRecDepth 100000
set_option maxHeartbeats 8000000
namespace Go.Proofs.YtiapmjkaappcfaaGreatDoor
open Lib renaming hid→Lh
open Or renaming inl→My
open Nat renaming le_refl→Mz,lt_of_lt_of_le→Kx
open List renaming getElem?_eq_getElem→Kh,length_append→Kq,take_succ_cons→Kj,take_zero→Jh,length_cons→Jq,drop_succ_cons→Jj,drop_zero→Jk
open World renaming cell?_of_block→Kk
section
open Go.RowKit
structure Var6 (W:World) (p:Nat) (x0 x1 x2 x3 x4 x5:Value):Prop where
 c0:W.cell? ⟨p,0,none⟩=some x0
 c1:W.cell? ⟨p,1,none⟩=some x1
 c2:W.cell? ⟨p,2,none⟩=some x2
 c3:W.cell? ⟨p,3,none⟩=some x3
 c4:W.cell? ⟨p,4,none⟩=some x4
 c5:W.cell? ⟨p,5,none⟩=some x5
 q: ∀i,W.frozen? ⟨p,i,none⟩=false
 s:p<W.heap.size
theorem Var6.fresh (W:World) (x0 x1 x2 x3 x4 x5:Value) (t:TypeId) (p:Nat) (hp:p=W.heap.size):Var6 (W.alloc (.cells #[x0,x1,x2,x3,x4,x5] t)) p x0 x1 x2 x3 x4 x5:=by
 subst hp
 exact⟨by simp,by simp,by simp,by simp,by simp,by simp,fun i=>by simp[go_sem],by simp⟩
theorem Var6.stay {W W':World} {p:Nat} {x0 x1 x2 x3 x4 x5:Value} (h:Var6 W p x0 x1 x2 x3 x4 x5) (e:W'.heap[p]?=W.heap[p]?) (hs:W.heap.size≤W'.heap.size):Var6 W' p x0 x1 x2 x3 x4 x5:=
 ⟨(Kk e).trans h.c0,(Kk e).trans h.c1,(Kk e).trans h.c2,(Kk e).trans h.c3,(Kk e).trans h.c4,(Kk e).trans h.c5,fun i=>(World.frozen?_of_block e).trans (h.q i),Kx h.s hs⟩
theorem Var6.after {W W':World} {p:Nat} {x0 x1 x2 x3 x4 x5:Value} (h:Var6 W p x0 x1 x2 x3 x4 x5) (hb:Below W.heap.size W W'):Var6 W' p x0 x1 x2 x3 x4 x5:=h.stay (hb.block p h.s) hb.size
def put6 (W:World) (p:Nat) (y0 y1 y2 y3 y4 y5:Value):World:=(((((W.setCell ⟨p,0,none⟩ y0).setCell ⟨p,1,none⟩ y1).setCell ⟨p,2,none⟩ y2).setCell ⟨p,3,none⟩ y3).setCell ⟨p,4,none⟩ y4).setCell ⟨p,5,none⟩ y5
theorem Var6.put {W:World} {p:Nat} {x0 x1 x2 x3 x4 x5:Value} (h:Var6 W p x0 x1 x2 x3 x4 x5) (y0 y1 y2 y3 y4 y5:Value):Var6 (put6 W p y0 y1 y2 y3 y4 y5) p y0 y1 y2 y3 y4 y5:=by
 obtain⟨c0,c1,c2,c3,c4,c5,q,s⟩:=h
 unfold put6
 refine⟨?_,?_,?_,?_,?_,?_,fun i=>?_,?_⟩<;>simp[go_sem, *]
theorem below_put6 {B:Nat} {w W:World} (h:Below B w W) {p:Nat} (hp:B≤p) (y0 y1 y2 y3 y4 y5:Value):Below B w (put6 W p y0 y1 y2 y3 y4 y5):=(((((h.setCell hp _).setCell hp _).setCell hp _).setCell hp _).setCell hp _).setCell hp _
structure IK (B:Nat) (hd:Hd) (t:Tk3) (g:Nat) (v:Value) (ts:List Tk3) (wr:World):Prop where
 tok:Var5 wr g (.int .i64 t.k) (.string t.s) (.int .u64 t.n) (.int .i64 t.a) (.int .i64 t.b)
 res:Var6 wr (B+1) (.string ⟨#[]⟩) (.slice none 0 0) (.bool false) (.slice none 0 0) (.int .i64 0) (.int .i64 0)
 itm:Var6 wr (B+2) (.string hd.name) v (.bool false) (.slice none 0 0) (.int .i64 hd.a) (.int .i64 hd.b)
 row:RowK 89 5 wr (g+1) v (ts.map tkV)
 glo:B+3≤g
end
section
open Go.RowKit
def InK (sz:Nat) (w:World) (v:Value) (vs:List (List Value)):Prop:=
 ∃a cap,v= .slice a vs.length cap∧vs.length≤cap∧∀(i:Nat) (u:List Value),vs[i]?=some u→∃b off,a=some ⟨b,off,none⟩∧b<w.heap.size∧∀(j:Nat) (y:Value),u[j]?=some y→w.cell? ⟨b,off+i*sz+j,none⟩=some y
theorem InK.below {sz:Nat} {w w':World} {v:Value} {vs:List (List Value)} (h:InK sz w v vs) (hb:Below w.heap.size w w'):InK sz w' v vs:=by
 obtain⟨a,cap,e,hc,hi⟩:=h
 refine⟨a,cap,e,hc,fun i u hu=>?_⟩
 obtain⟨b,off,ea,hlt,hy⟩:=hi i u hu
 exact⟨b,off,ea,Kx hlt hb.size,fun j y hj=>(hb.cell (p:=⟨b,off+i*sz+j,none⟩) hlt).trans (hy j y hj)⟩
theorem InK.size {sz:Nat} {w:World} {v:Value} {vs:List (List Value)} (h:InK sz w v vs): ∃a cap,v= .slice a vs.length cap∧vs.length≤cap:=by
 obtain⟨a,cap,e,hc,_⟩:=h
 exact⟨a,cap,e,hc⟩
theorem InK.take {sz:Nat} {w:World} {a:Option Addr} {n cap:Nat} {vs:List (List Value)} (h:InK sz w (.slice a n cap) vs) (i:Nat) (hi:i≤vs.length):InK sz w (.slice a i cap) (vs.take i):=by
 obtain⟨a',cap',e,hc,h2⟩:=h
 injection e with e1 e2 e3
 subst e1 e2 e3
 refine⟨a,cap,by rw[List.length_take,Nat.min_eq_left hi],by rw[List.length_take];omega,fun k u hu=>?_⟩
 by_cases hk:k<i
 ·rw[List.getElem?_take_of_lt hk]at hu
  exact h2 k u hu
 ·rw[List.getElem?_take_eq_none (by omega)]at hu
  cases hu
theorem InK.at {sz:Nat} {w:World} {a:Option Addr} {n cap:Nat} {vs:List (List Value)} (h:InK sz w (.slice a n cap) vs) (i:Nat) (u:List Value) (hu:vs[i]?=some u): ∃b off,a=some ⟨b,off,none⟩∧b<w.heap.size∧∀(j:Nat) (y:Value),u[j]?=some y→w.cell? ⟨b,off+i*sz+j,none⟩=some y:=by
 obtain⟨a',cap',e,hc,h2⟩:=h
 injection e with e1 e2 e3
 subst e1 e2 e3
 exact h2 i u hu
def GolI (w:World) (u:List Value) (g:GlC):Prop:= ∃lv rv,u=golL g lv rv∧InK 2 w lv (g.labels.map labV)∧InK 7 w rv (g.rules.map rulV)
theorem GolI.below {w w':World} {u:List Value} {g:GlC} (h:GolI w u g) (hb:Below w.heap.size w w'):GolI w' u g:=by
 obtain⟨lv,rv,e,h1,h2⟩:=h
 exact⟨lv,rv,e,h1.below hb,h2.below hb⟩
def GolsI (w:World) (v:Value) (gs:List GlC):Prop:= ∃us,InK 8 w v us∧us.length=gs.length∧∀(i:Nat) u g,us[i]?=some u→gs[i]?=some g→GolI w u g
end
section
open Go.RowKit
end
section
open Go.RowKit
structure ItemMade (w:World) (B:Nat) (t0:Tk3) (W0 W1 W2 W3:World):Prop where
 b0:w.heap.size=B
 a0:w.alloc (.cells #[.int .i64 t0.k, .string t0.s, .int .u64 t0.n, .int .i64 t0.a, .int .i64 t0.b] 89)=W0
 a1:W0.alloc (.cells #[.string ⟨#[]⟩, .slice none 0 0, .bool false, .slice none 0 0, .int .i64 0, .int .i64 0] 47)=W1
 a2:W1.alloc (.cells #[.string ⟨#[]⟩, .slice none 0 0, .bool false, .slice none 0 0, .int .i64 0, .int .i64 0] 47)=W2
 s3:((((((W2.setCell ⟨B+2,0,none⟩ (.string t0.s)).setCell ⟨B+2,1,none⟩ (.slice none 0 0)).setCell ⟨B+2,2,none⟩ (.bool false)).setCell ⟨B+2,3,none⟩ (.slice none 0 0)).setCell ⟨B+2,4,none⟩ (.int .i64 t0.a)).setCell ⟨B+2,5,none⟩ (.int .i64 t0.b))=W3
 z0:W0.heap.size=B+1
 z1:W1.heap.size=B+2
 z3:W3.heap.size=B+3
 f1:Var5 W1 B (.int .i64 t0.k) (.string t0.s) (.int .u64 t0.n) (.int .i64 t0.a) (.int .i64 t0.b)
 f2:Var6 W2 (B+2) (.string ⟨#[]⟩) (.slice none 0 0) (.bool false) (.slice none 0 0) (.int .i64 0) (.int .i64 0)
 r3:Var6 W3 (B+1) (.string ⟨#[]⟩) (.slice none 0 0) (.bool false) (.slice none 0 0) (.int .i64 0) (.int .i64 0)
 i3:Var6 W3 (B+2) (.string t0.s) (.slice none 0 0) (.bool false) (.slice none 0 0) (.int .i64 t0.a) (.int .i64 t0.b)
 g3:Below w.heap.size w W3
end
section
open Go.ChangeShapes Go.WideShapes Go.ChangeAt Go.RowKit Go.Joins Go.Deep
section
variable {H:Type} {enc:TypeId×Value→H} {W:World} {base:Nat} {spare:Nat→Bool} {held:Bool}
theorem slice_trod {α:Type} [Inhabited α] {R:α→List Value→Prop} {tS t:TypeId} {sz:Nat} (hS:Tryz.prog.underlying tS=some (.slice t)) (hsz:Tryz.prog.cellsOf t=sz) (h0:0<sz)
  (hEl: ∀(n:Nat) (cs:List Value) (y:DataW H×List MemPlace),cs.length=sz→DataW.trod enc Tryz.prog W base spare held n t cs=some y→∃x,R x cs) {fuel:Nat} {v:Value} {x:DataW H×List MemPlace} (h:DataW.trod enc Tryz.prog W base spare held fuel tS [v]=some x):
  ∃(us:List (List Value)) (l:List α),InK sz W v us∧us.length=l.length∧∀(i:Nat) u x,us[i]?=some u→l[i]?=some x→R x u:=by
 rcases DataW.trod_slice hS h with⟨hcs,_⟩|⟨a,len,cap,elems,rest,n,rfl,hcs,_,_,hl,_,hlen,hel,_⟩
 ·simp only[List.cons.injEq,and_true]at hcs
  subst hcs
  exact⟨[],[],⟨none,0,rfl,Mz _,fun i u hu=>by cases hu⟩,rfl,fun i u x hu=>by cases hu⟩
 ·simp only[List.cons.injEq,and_true]at hcs
  subst hcs
  have hx: ∀i,i<len→∃q:List Value×α,(∀j y,q.1[j]?=some y→W.cell? ((a.add (i*sz)).add j)=some y)∧(∃y,W.cell? (a.add (i*sz))=some y)∧R q.2 q.1:=fun i hi=>by
   have h1:=hel i hi
   rw[Kh (by omega)]at h1
   obtain⟨cs',h1,h2⟩:=Option.bind_eq_some_iff.mp h1
   rw[hsz]at h1
   obtain⟨_,hlen6,hc⟩:=World.cells?_some h1
   obtain⟨z,hz⟩:=hEl n cs' _ hlen6 h2
   refine⟨(cs',z),fun j y hj=>?_,?_,hz⟩
   ·have hj2:j<cs'.length:=(List.getElem?_eq_some_iff.1 hj).1
    rw[hc j (by omega)]
    exact hj
   ·have c0:=hc 0 h0
    rw[add_none5,Kh (by omega)]at c0
    exact⟨_,c0⟩
  obtain⟨q,hq⟩:=choose_lt hx
  have hget: ∀ {β:Type} (f:Nat→β) (i:Nat) (y:β),((List.range len).map f)[i]?=some y→i<len∧y=f i:=fun f i y h=>by
   rw[List.getElem?_map]at h
   by_cases hi:i<len
   ·rw[List.getElem?_range hi]at h
    injection h with h
    exact⟨hi,h.symm⟩
   ·rw[List.getElem?_eq_none (by simp;omega)]at h
    cases h
  refine⟨(List.range len).map fun i=>(q i).1,(List.range len).map fun i=>(q i).2,⟨some a,cap,by simp,by simpa using hl,fun i u hu=>?_⟩,by simp,fun i u x hu hx=>?_⟩
  ·obtain⟨hi,rfl⟩:=hget _ i u hu
   obtain⟨h1,⟨y,hy⟩,_⟩:=hq i hi
   obtain⟨_,⟨y0,hy0⟩,_⟩:=hq 0 (by omega)
   obtain⟨b,off,spot⟩:=a
   have hspot:spot=none:=by simpa [Addr.add] using World.cell?_spot hy0
   subst hspot
   rw[add_plain5]at hy
   refine⟨b,off,rfl,World.block_lt_of_cell? _ _ hy,fun j y hj=>?_⟩
   have:=h1 j y hj
   rw[add_plain5,add_plain5]at this
   exact this
  ·obtain⟨hi,rfl⟩:=hget _ i u hu
   obtain⟨_,rfl⟩:=hget _ i x hx
   exact(hq i hi).2.2
theorem rows_eq {α:Type} {f:α→List Value} : ∀ {us:List (List Value)} {l:List α},us.length=l.length→(∀(i:Nat) u x,us[i]?=some u→l[i]?=some x→u=f x)→us=l.map f
 | [],[],_,_=>rfl
 |u::us,x::l,h,hi=>by
  rw[List.map_cons,hi 0 u x rfl rfl,rows_eq (us:=us) (l:=l) (by simpa using h) (fun i u x hu hx=>hi (i+1) u x (by simpa using hu) (by simpa using hx))]
 | [],_::_,h,_=>by cases h
 |_::_,[],h,_=>by cases h
theorem cells_one_i64:Tryz.prog.cellsOf 2=1:=by kernel_rfl
theorem cells_one_u32:Tryz.prog.cellsOf 50=1:=by kernel_rfl
theorem cells_one_boo:Tryz.prog.cellsOf 4=1:=by kernel_rfl
theorem cells_one_labs:Tryz.prog.cellsOf 51=1:=by kernel_rfl
theorem cells_one_ruls:Tryz.prog.cellsOf 52=1:=by kernel_rfl
theorem cells_label:Tryz.prog.cellsOf 103=2:=by kernel_rfl
theorem cells_rule:Tryz.prog.cellsOf 66=7:=by kernel_rfl
theorem cells_goal:Tryz.prog.cellsOf 54=8:=by kernel_rfl
theorem field_trod {t:TypeId} {fs:Array Field} {fuel:Nat} {cs:List Value} {x:DataW H×List MemPlace} (ht:Tryz.prog.underlying t=some (.struct fs)) (h:DataW.trod enc Tryz.prog W base spare held fuel t cs=some x) (i:Nat) (f:Field) (hi:fs[i]?=some f):
  ∃n y,DataW.trod enc Tryz.prog W base spare held n f.type ((cs.drop f.offset).take (Tryz.prog.cellsOf f.type))=some y:=by
 obtain⟨xs,n,_,_,_,hlen,hf⟩:=DataW.trod_struct ht h
 have h1:=hf i f hi
 have h2:i<fs.size:=(Array.getElem?_eq_some_iff.1 hi).1
 rw[Kh (by omega)]at h1
 exact⟨n,_,h1⟩
theorem int_one {k:IntKind} {t:TypeId} {n:Nat} {v:Value} {y:DataW H×List MemPlace} (ht:Tryz.prog.underlying t=some (.int k)) (h:DataW.trod enc Tryz.prog W base spare held n t [v]=some y): ∃z:Int,v= .int k z∧(Lit.int k z).wf=true:=by
 obtain⟨z,e,_,w⟩:=DataW.trod_int ht h
 simp only[List.cons.injEq,and_true]at e
 exact⟨z,e,w⟩
theorem str_one {n:Nat} {v:Value} {y:DataW H×List MemPlace} (h:DataW.trod enc Tryz.prog W base spare held n 9 [v]=some y): ∃z:ByteArray,v= .string z:=by
 obtain⟨z,e,_,w⟩:=DataW.trod_string Tryz.underlying9 h
 simp only[List.cons.injEq,and_true]at e
 exact⟨z,e⟩
theorem label_trod {n:Nat} {cs:List Value} {y:DataW H×List MemPlace} (hl:cs.length=2) (h:DataW.trod enc Tryz.prog W base spare held n 103 cs=some y): ∃x:ByteArray×ByteArray,cs=labV x:=by
 match cs,hl with
 | [c0,c1],_=>
  obtain⟨_,_,h0⟩:=field_trod Tryz.underlying103 h 0 _ rfl
  obtain⟨_,_,h1⟩:=field_trod Tryz.underlying103 h 1 _ rfl
  simp only[cells_one_str,List.getElem_toArray,List.getElem_cons_zero,List.getElem_cons_succ,Jk,Kj,Jh,Jj]at h0 h1
  obtain⟨s,rfl⟩:=str_one h0
  obtain⟨t,rfl⟩:=str_one h1
  exact⟨(s,t),rfl⟩
theorem rule_trod {n:Nat} {cs:List Value} {y:DataW H×List MemPlace} (hl:cs.length=7) (h:DataW.trod enc Tryz.prog W base spare held n 66 cs=some y): ∃x:RlC,cs=rulV x:=by
 match cs,hl with
 | [c0,c1,c2,c3,c4,c5,c6],_=>
  obtain⟨_,_,h0⟩:=field_trod Tryz.underlying66 h 0 _ rfl
  obtain⟨_,_,h1⟩:=field_trod Tryz.underlying66 h 1 _ rfl
  obtain⟨_,_,h2⟩:=field_trod Tryz.underlying66 h 2 _ rfl
  obtain⟨_,_,h3⟩:=field_trod Tryz.underlying66 h 3 _ rfl
  obtain⟨_,_,h4⟩:=field_trod Tryz.underlying66 h 4 _ rfl
  obtain⟨_,_,h5⟩:=field_trod Tryz.underlying66 h 5 _ rfl
  obtain⟨_,_,h6⟩:=field_trod Tryz.underlying66 h 6 _ rfl
  simp only[cells_one_str,cells_one_boo,cells_one_i64,cells_one_u64,List.getElem_toArray,List.getElem_cons_zero,List.getElem_cons_succ,Jk,Kj,Jh,Jj]at h0 h1 h2 h3 h4 h5 h6
  obtain⟨s,rfl⟩:=str_one h0
  obtain⟨b,hb,_⟩:=DataW.trod_bool Tryz.underlying4 h1
  simp only[List.cons.injEq,and_true]at hb
  subst hb
  obtain⟨z2,rfl,_⟩:=int_one Tryz.underlying2 h2
  obtain⟨z3,rfl,_⟩:=int_one Tryz.underlying2 h3
  obtain⟨z4,rfl,_⟩:=int_one Tryz.underlying64 h4
  obtain⟨z5,rfl,_⟩:=int_one Tryz.underlying2 h5
  obtain⟨z6,rfl,_⟩:=int_one Tryz.underlying2 h6
  exact⟨⟨s,b,z2,z3,z4,z5,z6⟩,rfl⟩
instance:Inhabited RlC:=⟨⟨⟨#[]⟩,false,0,0,0,0,0⟩⟩
instance:Inhabited GlC:=⟨⟨⟨#[]⟩,0,0,0,0,0,[],[]⟩⟩
theorem goal_trod {n:Nat} {cs:List Value} {y:DataW H×List MemPlace} (hl:cs.length=8) (h:DataW.trod enc Tryz.prog W base spare held n 54 cs=some y): ∃x:GlC,GolI W cs x:=by
 match cs,hl with
 | [c0,c1,c2,c3,c4,c5,c6,c7],_=>
  obtain⟨_,_,h0⟩:=field_trod Tryz.underlying54 h 0 _ rfl
  obtain⟨_,_,h1⟩:=field_trod Tryz.underlying54 h 1 _ rfl
  obtain⟨_,_,h2⟩:=field_trod Tryz.underlying54 h 2 _ rfl
  obtain⟨_,_,h3⟩:=field_trod Tryz.underlying54 h 3 _ rfl
  obtain⟨_,_,h4⟩:=field_trod Tryz.underlying54 h 4 _ rfl
  obtain⟨_,_,h5⟩:=field_trod Tryz.underlying54 h 5 _ rfl
  obtain⟨_,_,h6⟩:=field_trod Tryz.underlying54 h 6 _ rfl
  obtain⟨_,_,h7⟩:=field_trod Tryz.underlying54 h 7 _ rfl
  simp only[cells_one_str,cells_one_int,cells_one_i64,cells_one_u32,cells_one_labs,cells_one_ruls,List.getElem_toArray,List.getElem_cons_zero,List.getElem_cons_succ,Jk,Kj,Jh,Jj]at h0 h1 h2 h3 h4 h5 h6 h7
  obtain⟨s,rfl⟩:=str_one h0
  obtain⟨z1,rfl,_⟩:=int_one Tryz.underlying50 h1
  obtain⟨z2,rfl,_⟩:=int_one Tryz.underlying2 h2
  obtain⟨z3,rfl,_⟩:=int_one Tryz.underlying2 h3
  obtain⟨z4,rfl,_⟩:=int_one Tryz.underlying2 h4
  obtain⟨z5,rfl,_⟩:=int_one Tryz.underlying3 h5
  obtain⟨us,l,i1,i2,i3⟩:=slice_trod (R:=fun x cs=>cs=labV x) Tryz.underlying51 cells_label (by decide) (fun n cs y hl h=>label_trod hl h) h6
  obtain⟨us',l',j1,j2,j3⟩:=slice_trod (R:=fun x cs=>cs=rulV x) Tryz.underlying52 cells_rule (by decide) (fun n cs y hl h=>rule_trod hl h) h7
  rw[rows_eq i2 i3]at i1
  rw[rows_eq j2 j3]at j1
  exact⟨⟨s,z1,z2,z3,z4,z5,l,l'⟩,_,_,rfl,i1,j1⟩
end
theorem open_rule {H:Type} {enc:TypeId×Value→H} {W:World} {base:Nat} {held:Bool} {r:Reach} {b0:Nat} {v:Value} {d:DataW H} {p:List MemPlace}
  (hv:Value.okWide Tryz.prog W r b0 66 v) (h:DataW.Trod enc Tryz.prog W base (fun _=>true) held 66 v d p): ∃x:RlC,v= .agg (rulV x).toArray∧True:=by
 obtain⟨cs,rfl,hsz⟩:=okWide_struct Tryz.underlying66 hv
 obtain⟨fuel,hf⟩:=h
 obtain⟨x,hx⟩:=rule_trod (cs:=cs.toList) (by have:=hsz.trans cells_rule;simpa using this) hf
 exact⟨x,by rw[←hx],trivial⟩
theorem open_goal {H:Type} {enc:TypeId×Value→H} {W:World} {base:Nat} {held:Bool} {r:Reach} {b0:Nat} {v:Value} {d:DataW H} {p:List MemPlace}
  (hv:Value.okWide Tryz.prog W r b0 54 v) (h:DataW.Trod enc Tryz.prog W base (fun _=>true) held 54 v d p): ∃x:GlC,(∃u,v= .agg u.toArray∧GolI W u x)∧True:=by
 obtain⟨cs,rfl,hsz⟩:=okWide_struct Tryz.underlying54 hv
 obtain⟨fuel,hf⟩:=h
 obtain⟨x,hx⟩:=goal_trod (cs:=cs.toList) (by have:=hsz.trans cells_goal;simpa using this) hf
 exact⟨x,⟨cs.toList,by simp,hx⟩,trivial⟩
end
section
open Go.RowKit
noncomputable def outF (l:List Int):List (TkV×Nat)×Int×Int×Int:=match tokF l 0 with
 | .error (k,c)=>([],c,(spotAt l k).1,(spotAt l k).2)
 | .ok L=>(L++ [(tk0,l.length)],0,0,0)
def GivesRF (l:List Int) (p:List (TkV×Nat)×Int×Int×Int) (w:World) (e:Ending) (w':World):Prop:=
 ∃v,e= .returned (.tuple #[v, .agg #[.int .i64 p.2.1, .int .i64 p.2.2.1, .int .i64 p.2.2.2]])∧RowK 89 5 w' w.heap.size v (toksV l p.1)∧Below w.heap.size w w'
def exS:ByteArray:=⟨#[49,52,46,52,32,49,104,51,48,109,32,57,57,46,57,37]⟩
end
section
open Go.RowKit
structure Var1 (W:World) (p:Nat) (x:Value):Prop where
 c:W.cell? ⟨p,0,none⟩=some x
 q:W.frozen? ⟨p,0,none⟩=false
 s:p<W.heap.size
structure FaultVar (w:World) (g:Nat) (c x y:Int) (W2 W3:World):Prop where
 g0:w.heap.size=g
 a2:w.alloc (.cells #[.int .i64 0, .int .i64 0, .int .i64 0] 41)=W2
 s3:((W2.setCell ⟨g,0,none⟩ (.int .i64 c)).setCell ⟨g,1,none⟩ (.int .i64 x)).setCell ⟨g,2,none⟩ (.int .i64 y)=W3
 v2:Var3 W2 g (.int .i64 0) (.int .i64 0) (.int .i64 0)
 v3:Var3 W3 g (.int .i64 c) (.int .i64 x) (.int .i64 y)
 bel:Below w.heap.size w W3
structure ParseMade (w:World) (B:Nat) (W0 W1:World):Prop where
 b0:w.heap.size=B
 a0:w.alloc (.cells #[.slice none 0 0] 34)=W0
 a1:W0.alloc (.cells #[.int .i64 0, .int .i64 0, .int .i64 0] 41)=W1
 z0:W0.heap.size=B+1
 z1:W1.heap.size=B+2
 v1:Var1 W1 B (.slice none 0 0)
 v2:Var3 W1 (B+1) (.int .i64 0) (.int .i64 0) (.int .i64 0)
 g1:Below w.heap.size w W1
end
section
def exT:ByteArray:=⟨#[114,117,108,101,32,97,32,112,97,103,101,32,123,32,102,111,114,32,50,109,59,32,125]⟩
def exToks:List (TkV×Nat):= [(⟨1,[114,117,108,101],0⟩,0),(⟨1,[97],0⟩,5),(⟨1,[112,97,103,101],0⟩,7),(⟨7,[],0⟩,12),(⟨1,[102,111,114],0⟩,14),(⟨6,[],120⟩,18),(⟨9,[],0⟩,20),(⟨8,[],0⟩,22)]
end
section
open Go.RowKit
end
section
open Go.RowKit
theorem betw_i64 (n a b:Int) (w:World):Calls Tryz.prog 64 #[.int .i64 n, .int .i64 a, .int .i64 b] w fun e w'=>e= .returned (.bool (decide (a≤n∧n≤b)))∧w'=w:=by
 by_cases h:a≤n
 ·by_cases h2:n≤b
  ·rw[decide_eq_true ⟨h,h2⟩]
   go_enter Tryz.func64,Tryz.ntmps64
   go_wp2
   go_ret
   exact⟨rfl,rfl⟩
  ·rw[decide_eq_false (fun hh=>h2 hh.2)]
   go_enter Tryz.func64,Tryz.ntmps64
   go_wp2
   go_ret
   exact⟨rfl,rfl⟩
 ·rw[decide_eq_false (fun hh=>h hh.1)]
  go_enter Tryz.func64,Tryz.ntmps64
  go_wp2
  go_ret
  exact⟨rfl,rfl⟩
theorem betw_int (n a b:Int) (w:World):Calls Tryz.prog 51 #[.int .i64 n, .int .i64 a, .int .i64 b] w fun e w'=>e= .returned (.bool (decide (a≤n∧n≤b)))∧w'=w:=by
 by_cases h:a≤n
 ·by_cases h2:n≤b
  ·rw[decide_eq_true ⟨h,h2⟩]
   go_enter Tryz.func51,Tryz.ntmps51
   go_wp2
   go_ret
   exact⟨rfl,rfl⟩
  ·rw[decide_eq_false (fun hh=>h2 hh.2)]
   go_enter Tryz.func51,Tryz.ntmps51
   go_wp2
   go_ret
   exact⟨rfl,rfl⟩
 ·rw[decide_eq_false (fun hh=>h hh.1)]
  go_enter Tryz.func51,Tryz.ntmps51
  go_wp2
  go_ret
  exact⟨rfl,rfl⟩
theorem betw_u64 (n a b:Int) (w:World):Calls Tryz.prog 74 #[.int .u64 n, .int .u64 a, .int .u64 b] w fun e w'=>e= .returned (.bool (decide (a≤n∧n≤b)))∧w'=w:=by
 by_cases h:a≤n
 ·by_cases h2:n≤b
  ·rw[decide_eq_true ⟨h,h2⟩]
   go_enter Tryz.func74,Tryz.ntmps74
   go_wp2
   go_ret
   exact⟨rfl,rfl⟩
  ·rw[decide_eq_false (fun hh=>h2 hh.2)]
   go_enter Tryz.func74,Tryz.ntmps74
   go_wp2
   go_ret
   exact⟨rfl,rfl⟩
 ·rw[decide_eq_false (fun hh=>h hh.1)]
  go_enter Tryz.func74,Tryz.ntmps74
  go_wp2
  go_ret
  exact⟨rfl,rfl⟩
theorem betw_u32 (n a b:Int) (w:World):Calls Tryz.prog 63 #[.int .u32 n, .int .u32 a, .int .u32 b] w fun e w'=>e= .returned (.bool (decide (a≤n∧n≤b)))∧w'=w:=by
 by_cases h:a≤n
 ·by_cases h2:n≤b
  ·rw[decide_eq_true ⟨h,h2⟩]
   go_enter Tryz.func63,Tryz.ntmps63
   go_wp2
   go_ret
   exact⟨rfl,rfl⟩
  ·rw[decide_eq_false (fun hh=>h2 hh.2)]
   go_enter Tryz.func63,Tryz.ntmps63
   go_wp2
   go_ret
   exact⟨rfl,rfl⟩
 ·rw[decide_eq_false (fun hh=>h hh.1)]
  go_enter Tryz.func63,Tryz.ntmps63
  go_wp2
  go_ret
  exact⟨rfl,rfl⟩
theorem mult_any (n g:Int) (w:World) (h0:0≤n):Calls Tryz.prog 65 #[.int .i64 n, .int .i64 g] w fun e w'=>e= .returned (.bool (decide (1≤g∧n%g=0)))∧w'=w:=by
 by_cases h:1≤g
 ·have ht:n.tmod g=n%g:=Int.tmod_eq_emod_of_nonneg h0
  have hg0: ¬g=0:=by omega
  have hlo:0≤n%g:=Int.emod_nonneg n hg0
  have hhi:n%g≤n:=by
   have e:=Int.mul_ediv_add_emod n g
   have:=Int.mul_nonneg (show 0≤g by omega) (Int.ediv_nonneg h0 (show 0≤g by omega))
   omega
  obtain⟨r,hr⟩: ∃r,n%g=r:=⟨_,rfl⟩
  rw[hr]at ht hlo hhi ⊢
  by_cases h2:r=0
  ·rw[decide_eq_true ⟨h,h2⟩]
   subst h2
   clear hr
   go_enter Tryz.func65,Tryz.ntmps65
   go_wp2
   go_ret
   exact⟨rfl,rfl⟩
  ·rw[decide_eq_false (fun hh=>h2 hh.2)]
   have hrb:(r==0)=false:=by simp;exact h2
   go_enter Tryz.func65,Tryz.ntmps65
   go_wp2
   go_ret
   exact⟨rfl,rfl⟩
 ·rw[decide_eq_false (fun hh=>h hh.1)]
  go_enter Tryz.func65,Tryz.ntmps65
  go_wp2
  go_ret
  exact⟨rfl,rfl⟩
end
section
open Go.RowKit
def confL (gv:Value) (c:CfC):List Value:= [gv, .int .i64 c.room, .int .i64 c.reserve, .int .i64 c.first, .int .i64 c.cap, .int .i64 c.again]
def ConfI (w:World) (cv:Value) (c:CfC):Prop:= ∃gv,cv= .agg (confL gv c).toArray∧GolsI w gv c.goals
end
section
open Go.RowKit
theorem tk_take {L:List It} {i:Nat} (h:i<L.length):L.take (i+1)=L.take i++ [L.getD i default]:=by
 rw[List.take_add_one,List.getD_eq_getElem?_getD,Kh h];rfl
end
section
def FewW:List It→Prop
 | []=>True
 | .mk _ w _ kids _ _::l=>w.length≤6∧FewW kids∧FewW l
end
section
open Go.RowKit
structure FaultMade (w:World) (g:Nat) (c x y:Int) (W2 W3:World):Prop where
 g0:w.heap.size=g
 a2:w.alloc (.cells #[.int .i64 0, .int .i64 0, .int .i64 0] 41)=W2
 s3:((W2.setCell ⟨g,0,none⟩ (.int .i64 c)).setCell ⟨g,1,none⟩ (.int .i64 x)).setCell ⟨g,2,none⟩ (.int .i64 y)=W3
 v2:Var3 W2 g (.int .i64 0) (.int .i64 0) (.int .i64 0)
 v3:Var3 W3 g (.int .i64 c) (.int .i64 x) (.int .i64 y)
 bel:Below w.heap.size w W3
end
section
open Go.RowKit
theorem quoteU_line (r:Int): ∀z∈quoteU r,z≠10:=fun z hz=>by
 unfold quoteU at hz
 split at hz
 ·simp only[List.mem_cons,List.not_mem_nil,or_false]at hz;omega
 split at hz
 ·simp only[List.mem_cons,List.not_mem_nil,or_false]at hz;omega
 split at hz
 ·simp only[List.mem_cons,List.not_mem_nil,or_false]at hz;omega
 split at hz
 ·simp only[List.mem_cons,List.not_mem_nil,or_false]at hz;omega
 split at hz
 ·simp only[List.mem_append,List.mem_cons,List.not_mem_nil,or_false]at hz
  rcases hz with(hz|hz)|hz
  ·omega
  ·have:=hexL_in _ z hz;omega
  ·omega
 ·have:=List.mem_singleton.mp hz;omega
theorem print_line {k:Int} {s:ByteArray} {n:Nat} (h:RightT k s (n:Int)): ∀z∈runesOf (prT k s n),z≠10:=by
 have asc: ∀zs:List Int,(∀z∈zs,(48≤z∧z≤57)∨unitOf z≠0∨z=46∨z=37)→∀z∈runesOf zs,z≠10:=fun zs hz z hm e=>by
  rw[runes_of_ascii (fun z hm=>(within_ascii (hz z hm)).2)]at hm
  have:=(within_ascii (hz z hm)).1
  rw[e]at this
  revert this;decide
 unfold RightT at h
 rcases h with⟨rfl,h,hz⟩|⟨rfl,h,h2,hz⟩|⟨rfl|rfl,rfl⟩|⟨rfl,rfl,h2⟩|⟨rfl,rfl,h2⟩|⟨rfl|rfl|rfl|rfl,rfl,hz⟩
 ·intro z hm e
  have:=name_within h z hm
  rw[e]at this
  revert this;decide
 ·obtain⟨hok,_⟩:=good_back (nums_byte s) (good_mem h)
  have e:prT 2 s n=quoteL (runesOf (nums s)):=rfl
  rw[e,runes_quoteL hok]
  intro z hm
  rcases List.mem_append.mp hm with hm|hm
  ·rcases List.mem_append.mp hm with hm|hm
   ·have:=List.mem_singleton.mp hm;omega
   ·obtain⟨r,_,hr⟩:=List.mem_flatMap.mp hm
    exact quoteU_line r z hr
  ·have:=List.mem_singleton.mp hm;omega
 ·exact asc _ (fun z hz=>My (dec_byte n z hz))
 ·have e:prT 4 ⟨#[]⟩ n=facP n:=rfl
  rw[e]
  refine asc _ (fun z hz=>?_)
  rw[facP_form]at hz
  have ht:=tailD_bd (r:=n%100) (by omega)
  rcases List.mem_append.mp hz with hz|hz
  ·exact My (dec_byte _ z hz)
  ·rcases List.mem_cons.mp hz with rfl|hz
   ·exact Or.inr (Or.inr (My rfl))
   ·rcases List.mem_append.mp hz with hz|hz
    ·have:=List.mem_singleton.mp hz;exact My (by omega)
    ·exact My (ht.1 z hz)
 ·exact asc _ (pct_letters n)
 ·have e:prT 6 ⟨#[]⟩ n=spn n:=rfl
  obtain⟨_,l,hr⟩:=spn_tells n
  have hl0:=runs_letters _ _ _ hr
  rw[e]
  exact asc _ (fun z hz=>(hl0 z hz).elim My (fun h=>Or.inr (My h)))
 ·intro z hm;have e:prT 0 ⟨#[]⟩ n= []:=rfl
  rw[e,runes_nil]at hm;cases hm
 ·have e:prT 7 ⟨#[]⟩ n= [123]:=rfl
  rw[e,runes_of_ascii (fun z hz=>by have:=List.mem_singleton.mp hz;omega)]
  intro z hm;have:=List.mem_singleton.mp hm;omega
 ·have e:prT 8 ⟨#[]⟩ n= [125]:=rfl
  rw[e,runes_of_ascii (fun z hz=>by have:=List.mem_singleton.mp hz;omega)]
  intro z hm;have:=List.mem_singleton.mp hm;omega
 ·have e:prT 9 ⟨#[]⟩ n= [59]:=rfl
  rw[e,runes_of_ascii (fun z hz=>by have:=List.mem_singleton.mp hz;omega)]
  intro z hm;have:=List.mem_singleton.mp hm;omega
theorem print_byte {k:Int} {s:ByteArray} {n:Nat} (h:RightT k s (n:Int)): ∀z∈prT k s n,0≤z∧z≤255:=by
 have asc: ∀zs:List Int,(∀z∈zs,(48≤z∧z≤57)∨unitOf z≠0∨z=46∨z=37)→∀z∈zs,0≤z∧z≤255:=fun zs hz z hm=>by
  have:=(within_ascii (hz z hm)).2;omega
 unfold RightT at h
 rcases h with⟨rfl,h,hz⟩|⟨rfl,h,h2,hz⟩|⟨rfl|rfl,rfl⟩|⟨rfl,rfl,h2⟩|⟨rfl,rfl,h2⟩|⟨rfl|rfl|rfl|rfl,rfl,hz⟩
 ·exact nums_byte s
 ·obtain⟨hok,_⟩:=good_back (nums_byte s) (good_mem h)
  have e:prT 2 s n=quoteL (runesOf (nums s)):=rfl
  rw[e]
  unfold quoteL quoteB
  intro z hm
  rcases List.mem_append.mp hm with hm|hm
  ·rcases List.mem_append.mp hm with hm|hm
   ·have:=List.mem_singleton.mp hm;omega
   ·obtain⟨r,hr,hz⟩:=List.mem_flatMap.mp hm
    have ho:=hok r hr
    unfold quoteR at hz
    split at hz
    ·simp only[List.mem_cons,List.not_mem_nil,or_false]at hz;omega
    split at hz
    ·simp only[List.mem_cons,List.not_mem_nil,or_false]at hz;omega
    split at hz
    ·simp only[List.mem_cons,List.not_mem_nil,or_false]at hz;omega
    split at hz
    ·simp only[List.mem_cons,List.not_mem_nil,or_false]at hz;omega
    split at hz
    ·simp only[List.mem_append,List.mem_cons,List.not_mem_nil,or_false]at hz
     rcases hz with(hz|hz)|hz
     ·omega
     ·have:=hexL_in _ z hz;omega
     ·omega
    ·exact encL_byte ho.1 ho.2.1 z hz
  ·have:=List.mem_singleton.mp hm;omega
 ·exact asc _ (fun z hz=>My (dec_byte n z hz))
 ·have e:prT 4 ⟨#[]⟩ n=facP n:=rfl
  rw[e]
  refine asc _ (fun z hz=>?_)
  rw[facP_form]at hz
  have ht:=tailD_bd (r:=n%100) (by omega)
  rcases List.mem_append.mp hz with hz|hz
  ·exact My (dec_byte _ z hz)
  ·rcases List.mem_cons.mp hz with rfl|hz
   ·exact Or.inr (Or.inr (My rfl))
   ·rcases List.mem_append.mp hz with hz|hz
    ·have:=List.mem_singleton.mp hz;exact My (by omega)
    ·exact My (ht.1 z hz)
 ·exact asc _ (pct_letters n)
 ·have e:prT 6 ⟨#[]⟩ n=spn n:=rfl
  obtain⟨_,l,hr⟩:=spn_tells n
  have hl0:=runs_letters _ _ _ hr
  rw[e]
  exact asc _ (fun z hz=>(hl0 z hz).elim My (fun h=>Or.inr (My h)))
 ·intro z hm;cases hm
 ·intro z hm;have:=List.mem_singleton.mp hm;omega
 ·intro z hm;have:=List.mem_singleton.mp hm;omega
 ·intro z hm;have:=List.mem_singleton.mp hm;omega
theorem sp_len {us:List Int} : ∀n:Nat,W128 n→(sp us n).length≤40*us.length:=by
 induction us with
 |nil=>intro n _;exact Mz _
 |cons c r ih=>
  intro n hn
  unfold sp
  have h1:=ih (n%unitOf c) (by unfold W128 at*;have:=Nat.mod_le n (unitOf c);omega)
  have h2:(dec (n/unitOf c)).length≤39:=dec_len (by unfold W128 at*;have:=Nat.div_le_self n (unitOf c);omega)
  split
  ·simp only[Kq,Jq,List.length_nil]at*;omega
  ·have h3:=ih n hn
   simp only[Jq]at*;omega
theorem print_short {k:Int} {s:ByteArray} {n:Nat} (h:RightT k s (n:Int)) (hn:n≤18446744073709551615) (hs:s.size≤2000):(prT k s n).length≤2000:=by
 have hd: ∀m:Nat,m≤18446744073709551615→(dec m).length≤39:=fun m hm=>dec_len (by unfold W128;omega)
 unfold RightT at h
 rcases h with⟨rfl,h,hz⟩|⟨rfl,h,h2,hz⟩|⟨rfl|rfl,rfl⟩|⟨rfl,rfl,h2⟩|⟨rfl,rfl,h2⟩|⟨rfl|rfl|rfl|rfl,rfl,hz⟩
 ·have e:prT 1 s n=nums s:=rfl
  rw[e,nums_length];exact hs
 ·have e:prT 2 s n=quoteL (runesOf (nums s)):=rfl
  obtain⟨hok,_⟩:=good_back (nums_byte s) (good_mem h)
  have key: ∀l:List Int,(∀r∈l,RuneOk r)→(quoteB l).length≤9*l.length:=by
   intro l
   induction l with
   |nil=>intro _;exact Mz _
   |cons r l ih=>
    intro hl
    have h1:=quoteR_len (hl r (List.mem_cons_self ..)).2.1
    have h2:=ih (fun x hx=>hl x (List.mem_cons_of_mem _ hx))
    have e:quoteB (r::l)=quoteR r++quoteB l:=by simp[quoteB]
    rw[e,Kq,Jq];omega
  have:=key _ hok
  rw[e]
  unfold quoteL
  simp only[Kq,Jq,List.length_nil];omega
 ·have e:prT 3 ⟨#[]⟩ n=dec n:=rfl
  have:=hd n hn
  rw[e];omega
 ·have e:prT 4 ⟨#[]⟩ n=facP n:=rfl
  have h1:=hd (n/1000) (by omega)
  have h2:=(tailD_bd (r:=n%100) (by omega)).2
  rw[e,facP_form]
  simp only[Kq,Jq,List.length_nil];omega
 ·have e:prT 5 ⟨#[]⟩ n=pct n:=rfl
  have h1:=hd (n/10000) (by omega)
  have h3:=fr_len 4 (n%10000)
  rw[e]
  unfold pct tailOf
  split<;>simp only[Kq,Jq,List.length_nil]<;>omega
 ·have e:prT 6 ⟨#[]⟩ n=spn n:=rfl
  rw[e]
  unfold spn
  split
  ·decide
  ·have:=sp_len (us:=units) n (by unfold W128;omega)
   have e2:units.length=5:=rfl
   omega
 ·have e:prT 0 ⟨#[]⟩ n= []:=rfl
  rw[e];exact Nat.zero_le _
 ·have e:prT 7 ⟨#[]⟩ n= [123]:=rfl
  rw[e];decide
 ·have e:prT 8 ⟨#[]⟩ n= [125]:=rfl
  rw[e];decide
 ·have e:prT 9 ⟨#[]⟩ n= [59]:=rfl
  rw[e];decide
end
section
open Go.RowKit
theorem GivesQ.is {A:Prop} {f:FuncId} {args:Array Value} {w:World} {q:Bool} (hq:q=true↔A) (h:Calls Tryz.prog f args w (GivesQ A w)):Calls Tryz.prog f args w fun e w'=>e= .returned (.bool q)∧Below w.heap.size w w':=by
 refine h.mono ?_
 rintro e w' ⟨q',rfl,h',g⟩
 obtain rfl:q'=q:=by cases q<;>cases q'<;>simp_all
 exact⟨rfl,g⟩
theorem ch {q:Bool} {X:Prop} (h:X):q=false∨(q=true∧X):=by
 cases q
 ·exact My rfl
 ·exact Or.inr ⟨rfl,h⟩
theorem eqb (q:Bool):q=false∨q=true:=by cases q<;>simp
theorem shq_of (A:Prop): ∃q:Bool,q=true↔A:=by
 by_cases h:A
 ·exact⟨true,fun _=>h,fun _=>rfl⟩
 ·exact⟨false,fun e=>Bool.noConfusion e,fun e=>(h e).elim⟩
theorem wlab_any (l:ByteArray×ByteArray) (w:World) (env:Env w) (hm:l.1.size≤4294967296) (hm2:l.2.size≤4294967296):Calls Tryz.prog 67 #[.agg (labV l).toArray] w (GivesQ (LabOk l) w):=by
 obtain⟨s,t⟩:=l
 simp only at hm hm2
 obtain⟨g,W1,hg,hW1,V1,b1,z1⟩:=boxL w [.string s, .string t] 103
 obtain⟨q0,h0⟩:=shq_of (NameL (runesOf (nums s)))
 obtain⟨q1,h1⟩:=shq_of (GoodL (runesOf (nums t)))
 obtain⟨m,hmm⟩: ∃m,(runesOf (nums t)).length=m:=⟨_,rfl⟩
 have HQ:Hid ((q0&&(q1&&decide ((m:Int)≤120)))=true↔LabOk (s,t)):=Lh (by
  rw[Bool.and_eq_true,Bool.and_eq_true,decide_eq_true_eq,h0,h1,←hmm]
  exact and_congr_right fun _=>and_congr_right fun _=>by simp only;omega)
 have HN:=Lh (GivesQ.is h0 (tname_any s W1 (env.step b1) hm))
 have HG:=Lh (fun W (b:Below W1.heap.size W1 W)=>GivesQ.is h1 (tgood_any t W (env.step (below_step b1 b)) hm2))
 have HC:=Lh (fun W (b:Below W1.heap.size W1 W)=>by have:=tcount_any t W (env.step (below_step b1 b)) hm2;rw[hmm]at this;exact this)
 have HB:=Lh b1
 have HV:=Lh V1
 have c0:=V1.c 0 rfl
 clear env hm hm2 b1 z1 h0 h1 V1 hmm
 show Calls Tryz.prog 67 #[.agg #[.string s, .string t]] w _
 rcases ch (q:=q0) (eqb q1)with rfl|⟨rfl,rfl|rfl⟩
 all_goals
  go_enter Tryz.func67,Tryz.ntmps67
  go_wp2_with (first
   |(go_at_call 62;(with_reducible refine(HN.out).mono ?_);rintro e W2 ⟨rfl,h⟩;have DD:=Lh h;have c1:=(HV.out.after h).c 1 rfl;clear h)
   |(go_at_call 117;(with_reducible refine(HG.out _ DD.out).mono ?_);rintro e W3 ⟨rfl,h⟩;have DE:=Lh (below_step DD.out h);have c2:=(HV.out.after DE.out).c 1 rfl;clear h)
   |(go_at_call 118;(with_reducible refine(HC.out _ DE.out).mono ?_);rintro e W4 ⟨rfl,h⟩;have DF:=Lh (below_step DE.out h);clear h))
  go_ret
  exact⟨_,rfl,by simpa using HQ.out,below_step HB.out (by first|exact DF.out|exact DE.out|exact DD.out)⟩
end
section
open Go.RowKit Go.Shelf
def flatL:Nat→List It→List (Nat×It)
 |_,[]=> []
 |d, .mk n w k kids a b::l=>(d, .mk n w k kids a b)::(flatL (d+1) kids++flatL d l)
theorem flatL_len: ∀(L:List It) (d:Nat),(flatL d L).length=cntL L
 | [],d=>by simp[flatL,cntL]
 | .mk n w k kids a b::l,d=>by
  rw[flatL,cntL,Jq,Kq,flatL_len kids,flatL_len l];omega
theorem flatL_app (d:Nat): ∀(l m:List It),flatL d (l++m)=flatL d l++flatL d m
 | [],m=>by simp[flatL]
 | .mk n w k kids a b::l,m=>by
  rw[List.cons_append,flatL,flatL,flatL_app d l m];simp
theorem flatL_one (d:Nat) (x:It):flatL d [x]=(d,x)::flatL (d+1) x.kids:=by
 obtain⟨n,w,k,kids,a,b⟩:=x
 simp[flatL,It.kids]
theorem cntK_take (L:List It): ∀i,i≤L.length→cntK L i=cntL (L.take i)
 |0,_=>by simp[cntK,cntL]
 |i+1,h=>by
  have e: ∀x:It,cntL [x]=1+cntL x.kids:=fun x=>by obtain⟨n,w,k,kids,a,b⟩:=x;simp[cntL,It.kids]
  rw[cntK,cntK_take L i (by omega),tk_take (by omega),cntL_app,e];omega
theorem take_split {L:List It} {i:Nat} (hi:i<L.length):L=L.take i++([L.getD i default]++L.drop (i+1)):=by
 rw[←List.append_assoc,←tk_take hi,List.take_append_drop]
theorem flatL_at {L:List It} {i d:Nat} (hi:i<L.length):(flatL d L)[cntK L i]?=some (d,L.getD i default):=by
 have e:=congrArg (flatL d) (take_split hi)
 rw[flatL_app,flatL_app,flatL_one]at e
 rw[e,cntK_take L i (by omega),←flatL_len (L.take i) d,List.getElem?_append_right (Mz _),Nat.sub_self];rfl
theorem flatL_kid {L:List It} {i d:Nat} (hi:i<L.length) (j:Nat) (hj:j<cntL (L.getD i default).kids):(flatL d L)[cntK L i+1+j]?=(flatL (d+1) (L.getD i default).kids)[j]?:=by
 have e:=congrArg (flatL d) (take_split hi)
 rw[flatL_app,flatL_app,flatL_one]at e
 rw[e,cntK_take L i (by omega),←flatL_len (L.take i) d,List.getElem?_append_right (by omega)]
 have h1:(flatL d (L.take i)).length+1+j-(flatL d (L.take i)).length=j+1:=by omega
 rw[h1,List.cons_append,List.getElem?_cons_succ,List.getElem?_append_left (by rw[flatL_len];exact hj)]
theorem depK_at {L:List It} {i:Nat} (hi:i<L.length):1+depL (L.getD i default).kids≤depL L:=by
 have:=depK_mono L (i:=i+1) (j:=L.length) hi
 rw[depK_all,depK]at this
 omega
structure Keeps (B:Nat) (V V':World):Prop where
 size:V.heap.size≤V'.heap.size
 same: ∀i o,B≤i→V.heap[i]?=some o→(∀c fz,o≠ .cells c 5 fz)→V'.heap[i]?=some o
theorem Keeps.refl (B:Nat) (V:World):Keeps B V V:=⟨Mz _,fun _ _ _ h _=>h⟩
theorem Keeps.trans {B:Nat} {a b c:World} (h:Keeps B a b) (g:Keeps B b c):Keeps B a c:=⟨Nat.le_trans h.size g.size,fun i o h1 h2 h3=>g.same i o h1 (h.same i o h1 h2 h3) h3⟩
theorem Keeps.of {B:Nat} {V V':World} (h:Below V.heap.size V V'):Keeps B V V':=⟨h.size,fun i _ _ hi _=>(h.block i (Array.getElem?_eq_some_iff.1 hi).1).trans hi⟩
theorem Keeps.at {B:Nat} {V V':World} (hs:V.heap.size≤V'.heap.size) (h: ∀i,B≤i→i<V.heap.size→V'.heap[i]?=V.heap[i]?):Keeps B V V':=⟨hs,fun i _ h1 h2 _=>(h i h1 (Array.getElem?_eq_some_iff.1 h2).1).trans h2⟩
theorem Keeps.cell {B:Nat} {V V':World} (h:Keeps B V V') {q:Nat} (hq:B≤q) (ht: ∃c t fz,V.heap[q]?=some (.cells c t fz)∧t≠5):V'.heap[q]?=V.heap[q]?:=by
 obtain⟨c,t,fz,h1,h2⟩:=ht
 rw[h1]
 exact h.same q _ hq h1 (fun c' fz' e=>h2 (by cases e;rfl))
theorem put6_obj {W:World} {p:Nat} {c:Array Value} {t:TypeId} {fz:Nat×Nat} (h:W.heap[p]?=some (.cells c t fz)) (y0 y1 y2 y3 y4 y5:Value): ∃c',(put6 W p y0 y1 y2 y3 y4 y5).heap[p]?=some (.cells c' t fz):=by
 unfold put6
 simp[World.setCell,Array.getElem?_modify,h]
structure Fl where
 d:Nat
 x:It
 wv:Value
 kv:Value
def Fl.item (p:Fl):Value:= .agg #[.string p.x.name,p.wv, .bool p.x.block,p.kv, .int .i64 p.x.a, .int .i64 p.x.b]
def Fl.enc (p:Fl):Array Value:= #[.int .i64 (p.d:Int),p.item]
structure FlAt (w:World) (S:Nat→Prop) (F:List (Nat×It)) (k:Nat) (p:Fl):Prop where
 here:F[k]?=some (p.d,p.x)
 ws:WordsIs w S p.wv p.x.words
 ks: ∃D,ItemsIs D w S p.kv p.x.kids
def RangesT (F:Fence) (n:Nat) (P:Program) (gf:Nat) (lb:Array Value) (G:Nat→Fl→Prop) (m:Nat) (Kc:World→Prop):Prop:=
 ∀(l:Nat) (J:Nat→World→Prop) (Jx:World→Prop) (W:World),(∀k V,J k V→Kc V)→(∀k V V',J k V→Below V.heap.size V V'→J k V')→
  (∀k p V n',J k V→k<m→G k p→YieldAt F n' P l p.enc V fun e V'=>(e= .returned (.bool true)∧J (k+1) V'∧Keeps W.heap.size V V')∨(e= .returned (.bool false)∧Jx V'))→J 0 W→
  CallsIn F n P gf (#[.func (.yield l) #[] #[]]++lb) W fun e V'=>(∃v,e= .returned v)∧(J m V'∨Jx V')
def roundEndT (B:Nat) (I Ix:World→Prop) (V:World):Exit→Act→World→Prop
 | .normal,_,V'=>I V'∧V'.heap[B]?=V.heap[B]?∧V'.heap[B+1]?=V.heap[B+1]?∧Keeps (B+2) V V'
 | .ret,_,V'=>Ix V'∧V'.heap[B]?=V.heap[B]?∧V'.heap[B+1]?=V.heap[B+1]?
 |_,_,_=>False
theorem wide_depth (k:Nat):Fence.wide.depth.isSome=true→1≤k:=fun h=>by have e:Fence.wide.depth.isSome=false:=rfl;rw[e]at h;cases h
theorem anyDepth_room {F:Fence} (hd:F.depth=none) (k:Nat):F.room k:=fun d h=>by rw[hd]at h;cases h
theorem keeps_putObj (V:World) (l B:Nat) (o:Obj) (h:l<B):Keeps B V (V.putObj l o):=Keeps.at (by rw[World.putObj_size];exact Mz _) (fun i hi _=>World.putObj_heap_other (by omega))
theorem wp_rangeT {P:Program} {n:Nat} {g:Operand} {ps:Array Tmp} {assign body:Code} {Q:Exit→Act→World→Prop} {a:Act} {w:World}
  (h1:1≤n) {gf:Nat} {lb:Array Value} (hg:a.eval g= .func (.func gf) #[] lb) (eg: ∀args w,(callFunc gf args).run P w= .ok (.enter gf args) w)
  (hps:ps.size=2) {G:Nat→Fl→Prop} {m:Nat} {Kc:World→Prop} (hit:RangesT Fence.wide (n-1) P gf lb G m Kc)
  (I:Nat→World→Prop) (Ix:World→Prop) (hIK: ∀k V,I k V→Kc V) (hIB: ∀k V V',I k V→Below V.heap.size V V'→I k V')
  (hI: ∀k V (o x:Loop),V.heap[w.heap.size+1]?=some (.loop x)→I k V→I k (V.putObj (w.heap.size+1) (.loop o))) (hIx: ∀V (o x:Loop),V.heap[w.heap.size+1]?=some (.loop x)→Ix V→Ix (V.putObj (w.heap.size+1) (.loop o))) (h0: ∀o1 o2,I 0 ((w.alloc o1).alloc o2)) (a1:Fl→Nat→Act) (AP:Fl→Nat→World→Prop) (hAP: ∀p q V o,AP p q V→AP p q (V.putObj (w.heap.size+1) o))
  (hassign: ∀k p V (K:Act→World→Prop),G k p→w.heap.size+2≤V.heap.size→(∀q V',Below V.heap.size V V'→AP p q V'→K (a1 p q) V')→assign.wpIn (Fence.wide.inRound (w.heap.size+1)) (n-1-1) P (Exit.then K (fun _ _ _=>False)) { tmps:=(ps.zip p.enc).foldl (fun t (p,v)=>t.setIfInBounds p v) a.tmps,defers:= [] } V)
  (hbody: ∀k p q V,I k V→k<m→G k p→AP p q V→w.heap.size+2≤V.heap.size→(∃x,V.heap[w.heap.size]?=some (.deferred x))→(∃x,V.heap[w.heap.size+1]?=some (.loop x))→body.wpIn (Fence.wide.inRound (w.heap.size+1)) (n-1-1) P (roundEndT w.heap.size (I (k+1)) Ix V) (a1 p q) V)
  (hdone: ∀V,I m V→V.heap[w.heap.size]?=some (.deferred (some []))→Q .normal { a with defers:= { target:= .collected w.heap.size,args:= #[] } ::a.defers } V)
  (hstop: ∀V,Ix V→V.heap[w.heap.size]?=some (.deferred (some []))→Code.ret.wpIn Fence.wide n P Q { a with defers:= { target:= .collected w.heap.size,args:= #[] } ::a.defers } V):
  (Code.rangeFunc g ps assign body).wpIn Fence.wide n P Q a w:=by
 refine wpIn_rangeFunc ?_
 intro fn hfn
 have hro:Fence.wide.round=none:=rfl
 rw[hro]
 obtain⟨rec,hrec⟩: ∃rec:LoopState→Option Code→Loop,rec=fun st pe=> { state:=st,pending:=pe,fn,tmps:=a.tmps,params:=ps,assign,body,defers:=w.heap.size } :=⟨_,rfl⟩
 obtain⟨W1,hW1⟩: ∃W1,(w.alloc (.deferred (some []))).alloc (.loop (rec .ready none))=W1:=⟨_,rfl⟩
 have hL1:W1.heap[w.heap.size+1]?=some (.loop (rec .ready none)):=by
  rw[←hW1];have:=World.alloc_heap_new (w.alloc (.deferred (some []))) (.loop (rec .ready none));rwa [World.size_alloc]at this
 have hK1:W1.heap[w.heap.size]?=some (.deferred (some [])):=by
  rw[←hW1];exact(Below.heap_alloc _ _ _ (by simp)).trans (World.alloc_heap_new w _)
 have hs1:W1.heap.size=w.heap.size+2:=by rw[←hW1];simp
 have hI1:I 0 W1:=by rw[←hW1];exact h0 _ _
 refine⟨w.heap.size+1,[{ target:= .collected w.heap.size,args:= #[] }],W1, { target:= .fn (.func gf) lb,args:= #[.func (.yield (w.heap.size+1)) #[] #[]] },W1,gf,
  #[.func (.yield (w.heap.size+1)) #[] #[]]++lb,W1,?_,?_,?_,?_,fun _=>h1,?_⟩
 ·rw[←hW1,hrec];exact run_enterLoop_outer _ _ _ _ _
 ·simp only[resolve,hg]
  simp[go_sem]
 ·intro f' _;trivial
 ·simp[invoke,go_sem,eg]
 ·refine(hit (w.heap.size+1)
   (fun k W=>I k W∧W.heap[w.heap.size+1]?=some (.loop (rec .ready none))∧W.heap[w.heap.size]?=some (.deferred (some [])))
   (fun W=>Ix W∧W.heap[w.heap.size+1]?=some (.loop (rec .done (some .ret)))∧W.heap[w.heap.size]?=some (.deferred (some [])))
   W1 (fun k V h=>hIK k V h.1) ?_ ?_ ⟨hI1,hL1,hK1⟩).mono ?_
  ·rintro k V V' ⟨hi,hl,hk⟩ hb
   exact⟨hIB k V V' hi hb,(hb.block _ (Array.getElem?_eq_some_iff.1 hl).1).trans hl,(hb.block _ (Array.getElem?_eq_some_iff.1 hk).1).trans hk⟩
  ·rintro k p W n' ⟨hi,hl,hk⟩ hlt hG
   have hsz:w.heap.size+1<W.heap.size:=(Array.getElem?_eq_some_iff.1 hl).1
   have hy:=run_yield (P:=P) (args:=p.enc) hl (by rw[hrec];exact hps.symm)
   rw[hrec]at hy
   refine⟨fn,_,assign,body,hy,?_⟩
   have hmain:RoundIn Fence.wide (n-1-1) P (w.heap.size+1) fn ((ps.zip p.enc).foldl (fun t (p,v)=>t.setIfInBounds p v) a.tmps) assign body W (fun e V'=>(e= .returned (.bool true)∧(I (k+1) V'∧V'.heap[w.heap.size+1]?=some (.loop (rec .ready none))∧V'.heap[w.heap.size]?=some (.deferred (some [])))∧Keeps W1.heap.size W V')∨(e= .returned (.bool false)∧Ix V'∧V'.heap[w.heap.size+1]?=some (.loop (rec .done (some .ret)))∧V'.heap[w.heap.size]?=some (.deferred (some [])))):=by
    refine roundIn_of_wpIn hfn (hassign k p W _ hG (by omega) ?_)
    clear hy
    intro q W0 hb0 hap
    have hiW:=hIB k W W0 hi hb0
    have hlW:=(hb0.block _ hsz).trans hl
    have hkW:=(hb0.block _ (by omega)).trans hk
    have hszW:w.heap.size+1<W0.heap.size:=Kx hsz hb0.size
    have hkeep0:Keeps W1.heap.size W W0:=Keeps.of hb0
    clear hi hl hk
    refine⟨_,run_beginRound hlW (by rw[hrec]),?_⟩
    have hl2:(W0.putObj (w.heap.size+1) (.loop { rec .ready none with state:= .busy })).heap[w.heap.size+1]?=some (.loop { rec .ready none with state:= .busy }):=World.putObj_heap_same hszW
    have hk2:(W0.putObj (w.heap.size+1) (.loop { rec .ready none with state:= .busy })).heap[w.heap.size]?=some (.deferred (some [])):=(World.putObj_heap_other (by omega)).trans hkW
    refine wpIn_mono (hbody k p q _ (hI k W0 _ _ hlW hiW) hlt hG (hAP p q W0 _ hap) (by rw[World.putObj_size];omega) ⟨_,hk2⟩ ⟨_,hl2⟩) ?_
    have fin: ∀(jump:Option Code) (W3:World),W3.heap[w.heap.size]?=(W0.putObj (w.heap.size+1) (.loop { rec .ready none with state:= .busy })).heap[w.heap.size]?→W3.heap[w.heap.size+1]?=(W0.putObj (w.heap.size+1) (.loop { rec .ready none with state:= .busy })).heap[w.heap.size+1]?→
      (Instr.endRound (w.heap.size+1) jump).run P W3= .ok (.bool jump.isNone) (W3.putObj (w.heap.size+1) (.loop (rec (if jump.isNone then .ready else .done) jump)))∧
      (W3.putObj (w.heap.size+1) (.loop (rec (if jump.isNone then .ready else .done) jump))).heap[w.heap.size+1]?=some (.loop (rec (if jump.isNone then .ready else .done) jump))∧
      (W3.putObj (w.heap.size+1) (.loop (rec (if jump.isNone then .ready else .done) jump))).heap[w.heap.size]?=some (.deferred (some [])):=fun jump W3 h5 h6=>by
     have hl3:=h6.trans hl2
     have:=run_endRound (P:=P) jump hl3
     rw[hrec]at this ⊢
     exact⟨this,World.putObj_heap_same (Array.getElem?_eq_some_iff.1 hl3).1,(World.putObj_heap_other (by omega)).trans (h5.trans hk2)⟩
    rintro e a3 W3 hp
    cases e with
    |normal=>
     obtain⟨hi3,h5,h6,h7⟩:=hp
     obtain⟨hr,hl4,hk4⟩:=fin none W3 h5 h6
     exact⟨_,_,hr, .inl ⟨rfl,⟨hI _ _ _ _ (h6.trans hl2) hi3,hl4,hk4⟩,by
      rw[hs1]
      exact(((by rw[←hs1];exact hkeep0:Keeps (w.heap.size+2) W W0).trans (keeps_putObj W0 _ _ _ (by omega))).trans h7).trans (keeps_putObj W3 _ _ _ (by omega))⟩⟩
    |ret=>
     obtain⟨hi3,h5,h6⟩:=hp
     obtain⟨hr,hl4,hk4⟩:=fin (some .ret) W3 h5 h6
     exact⟨_,_,hr, .inr ⟨rfl,hIx _ _ _ (h6.trans hl2) hi3,hl4,hk4⟩⟩
    |exit id=>exact hp.elim
    |goto t=>exact hp.elim
    |panic ch=>exact hp.elim
    |outgrown=>exact hp.elim
   exact⟨hmain.1,fun c cs _=>hmain.2 c cs (anyDepth_room rfl _)⟩
  ·rintro e W2 ⟨⟨v,rfl⟩,(⟨hi,hl,hk⟩|⟨hi,hl,hk⟩)⟩
   ·exact⟨none,_,by have:=run_endLoop (P:=P) hl (by rw[hrec];simp);rw[hrec]at this;exact this,hdone _ (hI _ _ _ _ hl hi) ((World.putObj_heap_other (by omega)).trans hk)⟩
   ·exact⟨some .ret,_,by have:=run_endLoop (P:=P) hl (by rw[hrec];simp);rw[hrec]at this;exact this,hstop _ (hIx _ _ _ hl hi) ((World.putObj_heap_other (by omega)).trans hk)⟩
section
attribute [local go_sem] Oper.semAt_some
theorem lwalk_any (l B m:Nat) (w:World) (S:Nat→Prop) (F:List (Nat×It)) (J:Nat→World→Prop) (Jx:World→Prop) (hS: ∀b,S b→b<w.heap.size) (hJK: ∀k V,J k V→Below w.heap.size w V) (hJB: ∀k V V',J k V→Below V.heap.size V V'→J k V')
  (hY: ∀k p V n',J k V→k<m→FlAt w S F k p→YieldAt Fence.wide n' Tryz.prog l p.enc V fun e V'=>(e= .returned (.bool true)∧J (k+1) V'∧Keeps B V V')∨(e= .returned (.bool false)∧Jx V')):
  ∀(D:Nat) (v:Value) (L:List It) (d k0 n:Nat) (W:World),ItemsIs D w S v L→(∀j,j<cntL L→F[k0+j]?=(flatL d L)[j]?)→k0+cntL L≤m→m≤1000000000→d+depL L≤1000000→B≤W.heap.size→J k0 W→
   CallsIn Fence.wide n Tryz.prog 123 #[v, .int .i64 (d:Int), .func (.yield l) #[] #[]] W fun e V'=>(e= .returned (.bool true)∧J (k0+cntL L) V'∧Keeps B W V')∨(e= .returned (.bool false)∧Jx V'):=by
 intro D
 induction D with
 |zero=>
  intro v L d k0 n W h _ _ _ _ _ hJ
  obtain⟨rfl,a,cap,rfl⟩:=h
  have hz:k0+cntL []=k0:=by simp[cntL]
  have HZ:=Lh hz
  clear hY hJB hJK
  refine callsIn_of_wp Tryz.func123 rfl trivial ?_ rfl
  simp only[Tryz.ntmps123,List.size_toArray,Jq,List.length_nil,Nat.reduceAdd,Nat.reduceSub,Array.replicate_succ,Array.replicate_zero,List.push_toArray,List.append_toArray,List.nil_append,List.cons_append]
  gi_wp2
  gi_loopw [11] (fun i wr=>i= .int .i64 0∧wr=W) (fun _ _=>0)
  case atStart=>exact⟨rfl,rfl⟩
  case round=>
   obtain⟨rfl,rfl⟩:=hrel
   gi_wp2
   go_ret
   exact .inl ⟨rfl,by rw[HZ.out];exact hJ,Keeps.refl _ _⟩
 |succ D ih=>
  intro v L d k0 n W h hF hkm hm hd hBW hJ
  obtain⟨a,cap,rfl⟩:=h.size
  have HH:=Lh h
  have HIH:=Lh ih
  have HF:=Lh hF
  have HY:=Lh hY
  have HJB:=Lh hJB
  have HJK:=Lh hJK
  have HS:=Lh hS
  obtain⟨len,hlen⟩: ∃n,L.length=n:=⟨_,rfl⟩
  have HN:=Lh hlen
  have HKM:=Lh hkm
  have hll:len≤1000000000:=by have:=len_cnt L;omega
  rw[hlen]
  clear h ih hF hY hJB hJK hS hlen hkm
  refine callsIn_of_wp Tryz.func123 rfl trivial ?_ rfl
  simp only[Tryz.ntmps123,List.size_toArray,Jq,List.length_nil,Nat.reduceAdd,Nat.reduceSub,Array.replicate_succ,Array.replicate_zero,List.push_toArray,List.append_toArray,List.nil_append,List.cons_append]
  gi_wp2
  gi_loopw [11] (fun v11 wr=> ∃i:Nat,i≤len∧v11= .int .i64 (i:Int)∧J (k0+cntK L i) wr∧Keeps B W wr) (fun v11 _=>len-(intOf v11).toNat)
  case atStart=>exact⟨0,Nat.zero_le _,rfl,hJ,Keeps.refl _ _⟩
  case round=>
   obtain⟨i,hi,rfl,hJr,hKr⟩:=hrel
   by_cases hin:i<len
   ·obtain⟨d1,hd1,b1,o1,wv,kv,rfl,s1,e0,e1,e2,e3,e4,e5,hw,hk⟩:=HH.out.at i (by rw[HN.out];exact hin)
    obtain rfl:D=d1:=by omega
    have hbel:=HJK.out _ _ hJr
    have hlt:=HS.out b1 s1
    have f0:=(hbel.cell (p:=⟨b1,o1+i*6,none⟩) hlt).trans e0
    have f1:=(hbel.cell (p:=⟨b1,o1+i*6+1,none⟩) hlt).trans e1
    have f2:=(hbel.cell (p:=⟨b1,o1+i*6+2,none⟩) hlt).trans e2
    have f3:=(hbel.cell (p:=⟨b1,o1+i*6+3,none⟩) hlt).trans e3
    have f4:=(hbel.cell (p:=⟨b1,o1+i*6+4,none⟩) hlt).trans e4
    have f5:=(hbel.cell (p:=⟨b1,o1+i*6+5,none⟩) hlt).trans e5
    have hck:=cntK_mono L (i:=i+1) (j:=len) (by omega)
    rw[←HN.out,cntK_all,cntK]at hck
    have hkm:=HKM.out
    have hdk:=depK_at (L:=L) (i:=i) (by rw[HN.out];exact hin)
    have hFx:=(HF.out (cntK L i) (by omega)).trans (flatL_at (by rw[HN.out];exact hin))
    have hFk: ∀j,j<cntL (L.getD i default).kids→F[k0+cntK L i+1+j]?=(flatL (d+1) (L.getD i default).kids)[j]?:=fun j hj=>by
     have h1:=HF.out (cntK L i+1+j) (by omega)
     rw[flatL_kid (by rw[HN.out];exact hin) j hj]at h1
     rw[←h1]
     congr 1
     omega
    have HNX:Hid (k0+cntK L (i+1)=k0+cntK L i+1+cntL (L.getD i default).kids):=Lh (by rw[cntK];omega)
    have hkk:k0+cntK L i+1+cntL (L.getD i default).kids≤m:=by omega
    have hdd:d+1+depL (L.getD i default).kids≤1000000:=by omega
    obtain⟨c,hc⟩: ∃c,k0+cntK L i=c:=⟨_,rfl⟩
    rw[hc]at hJr hFx hFk HNX hkk
    have hfl:FlAt w S F c ⟨d,L.getD i default,wv,kv⟩:=⟨hFx,hw,D,hk⟩
    obtain⟨⟨nm,wd,bk,kd,pa,pb⟩,hp⟩: ∃p,L.getD i default=p:=⟨_,rfl⟩
    rw[hp]at f0 f2 f4 f5 hfl hk hFk HNX hkk hdd
    simp only[It.name,It.block,It.a,It.b,It.kids]at f0 f2 f4 f5 hk hFk HNX hkk hdd
    have hdw0:IntKind.i64.wrap ((d:Int)+1)=((d+1:Nat):Int):=by rw[IntKind.wrap_i64];omega
    obtain⟨d',hd'⟩: ∃x,d+1=x:=⟨_,rfl⟩
    rw[hd']at hFk hdd hdw0
    have hdw:=hdw0
    clear hdw0 hd'
    have hiw:IntKind.i64.wrap ((i:Int)+1)=((i+1:Nat):Int):=by rw[IntKind.wrap_i64];omega
    have HK:=Lh hk
    have HFK:=Lh hFk
    have HKK:=Lh hkk
    have HDD:=Lh hdd
    have HKR:=Lh hKr
    have HBW:=Lh hBW
    have hwo:wv.oneCell'=true:=hw.one
    have hko:kv.oneCell'=true:=hk.one
    obtain⟨wa,wl,wc,rfl⟩: ∃a b c,wv= .slice a b c:=by obtain⟨a,c,h⟩:=hw.size;exact⟨_,_,_,h⟩
    obtain⟨ka,kl,kc,rfl⟩: ∃a b c,kv= .slice a b c:=by obtain⟨a,c,h⟩:=hk.size;exact⟨_,_,_,h⟩
    obtain⟨W0,hW0⟩: ∃W0,wr.alloc (.cells #[.string ⟨#[]⟩, .slice none 0 0, .bool false, .slice none 0 0, .int .i64 0, .int .i64 0] 47)=W0:=⟨_,rfl⟩
    obtain⟨q,hq⟩: ∃q,wr.heap.size=q:=⟨_,rfl⟩
    have V0:Var6 W0 q (.string ⟨#[]⟩) (.slice none 0 0) (.bool false) (.slice none 0 0) (.int .i64 0) (.int .i64 0):=by rw[←hW0];exact Var6.fresh _ _ _ _ _ _ _ _ _ hq.symm
    have g0:Below wr.heap.size wr W0:=by rw[←hW0];exact(Below.refl _ _).alloc (Mz _) _
    obtain⟨W1,hW1⟩: ∃W1,put6 W0 q (.string nm) (.slice wa wl wc) (.bool bk) (.slice ka kl kc) (.int .i64 pa) (.int .i64 pb)=W1:=⟨_,rfl⟩
    have V1:Var6 W1 q (.string nm) (.slice wa wl wc) (.bool bk) (.slice ka kl kc) (.int .i64 pa) (.int .i64 pb):=by rw[←hW1];exact V0.put _ _ _ _ _ _
    have g1:Below wr.heap.size wr W1:=by rw[←hW1];exact below_put6 g0 (by omega) _ _ _ _ _ _
    have HOB:Hid (∃c t fz,W1.heap[q]?=some (.cells c t fz)∧t≠5):=by
     obtain⟨c',hc'⟩:=put6_obj (W:=W0) (p:=q) (by rw[←hW0,←hq];exact World.alloc_heap_new wr _) (.string nm) (.slice wa wl wc) (.bool bk) (.slice ka kl kc) (.int .i64 pa) (.int .i64 pb)
     rw[hW1]at hc'
     exact⟨c',_,_,hc',by decide⟩
    have HV1:=Lh V1
    have HG1:=Lh g1
    have hJ1:=HJB.out _ _ _ hJr g1
    have hBq:B≤q:=by have:=hKr.size;omega
    have hy1:=HY.out c _ W1 (n-1) hJ1 (by omega) hfl
    obtain⟨fn,tmps,assign,body,hy,hR⟩:=hy1
    have HR:=Lh (hR.mono (R':=fun e V'=>(e= .returned (.bool true)∧J (c+1) V'∧Keeps B W1 V'∧V'.cell? ⟨q,3,none⟩=some (.slice ka kl kc))∨(e= .returned (.bool false)∧Jx V')) (fun e V' h=>h.imp (fun⟨h1,h2,h3⟩=>⟨h1,h2,h3,(Kk (a:=⟨q,3,none⟩) (h3.cell hBq HOB.out)).trans HV1.out.c3⟩) id))
    obtain⟨x0,x1,x2,x3,x4,x5,xq,xs⟩:=V1
    obtain⟨y0,y1,y2,y3,y4,y5,yq,ys⟩:=V0
    have z0:=yq 0
    have z1:=yq 1
    have z2:=yq 2
    have z3:=yq 3
    have z4:=yq 4
    have z5:=yq 5
    simp only[Fl.enc,Fl.item,It.name,It.block,It.a,It.b]at hy
    unfold put6 at hW1
    clear hc hp e0 e1 e2 e3 e4 e5 hw hk hFk hkk hdd hck hkm hdk hFx hfl hbel hlt s1 hJr hKr hR hJ1 g0 g1 hd1 yq ys xq xs hJ
    gi_wp2_with (first
     |(refine⟨wide_depth _,?_⟩;refine HR.out.mono ?_;rintro e w2 (⟨rfl,hj2,hk2,hc2⟩|⟨rfl,hx2⟩))
     |(refine⟨trivial,wide_depth _,?_⟩;gi_at_call 123;refine(HIH.out _ kd d' (c+1) (n-1) w2 HK.out HFK.out HKK.out hm HDD.out (by have:=hk2.size;have:=HV1.out.s;have:=HBW.out;omega) hj2).mono ?_;rintro e w3 (⟨rfl,hj3,hk3⟩|⟨rfl,hx3⟩)))
    ·go_roundw
     case rel=>exact⟨i+1,by omega,by go_num,by rw[HNX.out];exact hj3,((HKR.out.trans (Keeps.of HG1.out)).trans hk2).trans hk3⟩
     case measure=>simp[intOf];omega
    ·gi_wp2
     go_ret
     exact .inr ⟨rfl,hx3⟩
    ·refine⟨trivial,?_⟩
     gi_wp2
     go_ret
     exact .inr ⟨rfl,hx2⟩
   ·have en:len=i:=by omega
    subst en
    have HZ:Hid (k0+cntK L len=k0+cntL L):=Lh (by rw[←HN.out,cntK_all])
    have HJR:=Lh hJr
    clear hJr
    gi_wp2
    go_ret
    exact .inl ⟨rfl,by rw[←HZ.out];exact HJR.out,hKr⟩
end
end
section
open Go.RowKit Go.Shelf
theorem litems_same (a:Option Addr) (l c:Nat) (w:World):Calls Tryz.prog 75 #[.slice a l c] w fun e w'=>e= .returned (.func (.func 122) #[] #[.pointer (some ⟨w.heap.size,0,none⟩)])∧w'=w.alloc (.cells #[.slice a l c] 34):=by
 go_enter Tryz.func75,Tryz.ntmps75
 go_wp2
 go_ret
 exact⟨rfl,rfl⟩
section
attribute [local go_sem] Oper.semAt_some
theorem litems_range (w:World) (S:Nat→Prop) (D:Nat) (v:Value) (L:List It) (B1 n:Nat) (h:ItemsIs D w S v L) (hS: ∀b,S b→b<w.heap.size) (hm:cntL L≤1000000000) (hd:depL L≤900000):
  RangesT Fence.wide n Tryz.prog 122 #[.pointer (some ⟨B1,0,none⟩)] (FlAt w S (flatL 1 L)) (cntL L) (fun V=>Below w.heap.size w V∧V.cell? ⟨B1,0,none⟩=some v):=by
 intro l J Jx W hK hJB hY h0
 have hc:=(hK 0 W h0).2
 have HW:=Lh (lwalk_any l W.heap.size (cntL L) w S (flatL 1 L) J Jx hS (fun k V h=>(hK k V h).1) hJB hY D v L 1 0 (n-1) W h (fun j _=>by rw[Nat.zero_add]) (by omega) hm (by omega) (Mz _) h0)
 obtain⟨a,cap,rfl⟩:=h.size
 clear hY hJB hK h hS h0
 refine callsIn_of_wp Tryz.func122 rfl trivial ?_ rfl
 simp only[Tryz.ntmps122,List.size_toArray,Jq,List.length_nil,Nat.reduceAdd,Nat.reduceSub,Array.replicate_succ,Array.replicate_zero,List.push_toArray,List.append_toArray,List.nil_append,List.cons_append]
 gi_wp2_with (refine⟨trivial,wide_depth _,?_⟩;gi_at_call 123;refine HW.out.mono ?_;rintro e w1 (⟨rfl,hJ1,_⟩|⟨rfl,hx⟩))
 ·go_end0
  exact⟨⟨_,rfl⟩, .inl (by rw[Nat.zero_add]at hJ1;exact hJ1)⟩
 ·go_end0
  exact⟨⟨_,rfl⟩, .inr hx⟩
structure CtI (w0:World) (q:Nat) (x:Int) (v:Value) (V:World):Prop where
 bel:Below w0.heap.size w0 V
 val:V.cell? ⟨q,0,none⟩=some (.int .i64 x)
 fz:V.frozen? ⟨q,0,none⟩=false
 box:V.cell? ⟨q+1,0,none⟩=some v
theorem below_putObj {B:Nat} {w V:World} (h:Below B w V) {l:Nat} (hl:B≤l) (o:Obj):Below B w (V.putObj l o):=
 ⟨h.os,h.tape,h.output,by rw[World.putObj_size];exact h.size,fun k hk=>(World.putObj_heap_other (by omega)).trans (h.block k hk)⟩
def dmaxF (F:List (Nat×It)) (k:Nat):Nat:=((F.take k).map (·.1)).foldl max 0
end
end
section
open Go.RowKit
def gapL (k:Nat):List Int:=if k=1 then [9,32]else if k=2 then [10,10]else if k=3 then [32,35,32,34,32,123,32,255,10]else if k=4 then [35,10]else [32]
def gapU (k:Nat):List Int:=if k=1 then [9,32]else if k=2 then [10,10]else if k=3 then [32,35,32,34,32,123,32,-1,10]else if k=4 then [35,10]else [32]
structure Itm where
 g:Nat
 k:Int
 s:ByteArray
 n:Nat
structure Itm.Ok (x:Itm):Prop where
 right:RightT x.k x.s (x.n:Int)
 n9:x.n≤18446744073709551615
 k0:x.k≠0
def Itm.tok (x:Itm):TkV:=⟨x.k.toNat,txT x.k x.s,x.n⟩
def Itm.let (x:Itm):List Int:=gapL x.g++prT x.k x.s x.n
def Itm.run (x:Itm):List Int:=gapU x.g++runesOf (prT x.k x.s x.n)
def gkB (zs:List Int) (j:Nat):Int:=if 0<zs.length then zs.getD (j%zs.length) 0 else 0
def itmOf (Q:List TokQ) (zs:List Int) (j:Nat):Itm:=⟨(gkB zs j).toNat%5,(Q.getD j {}).k,(Q.getD j {}).s,(Q.getD j {}).n.toNat⟩
def itms (Q:List TokQ) (zs:List Int) (i:Nat):List Itm:=(List.range i).map (itmOf Q zs)
def srcB (Q:List TokQ) (zs:List Int) (i:Nat):List Int:=(itms Q zs i).flatMap Itm.let
end
end Go.Proofs.YtiapmjkaappcfaaGreatDoor
