/-
  Package tree's item, walked.
-/
import Derived.Test.YtalcagmhdppdjaaGreatDoorPkCompileTurns10
set_option maxRecDepth 100000
set_option maxHeartbeats 16000000
namespace Go.Proofs.YtalcagmhdppdjaaGreatDoor
open Lib renaming hid→Lh
open Go.RowKit.Below renaming refl→Mj
open Or renaming inl→My
open Nat renaming le_refl→Mz,lt_of_lt_of_le→Kx,le_trans→Kz
open List renaming length_append→Kq,length_map→Ky,length_cons→Jq
open World renaming cell?_of_block→Kk
section
open Go.RowKit
def GivesL (d:Nat) (w:World) (rb:Nat) (T:List Tk3) (n:Nat) (e:Ending) (w':World):Prop:=
 OnlyO rb (fun i=>i=rb) w w'∧((∃c a b,LBad d T n c a b∧e=flies c a b)∨
  ∃L v T' n',e= .returned v∧LDone d T n L T' n'∧ItemsIs (6-d) w' (fun b=>w.heap.size≤b∧b<w'.heap.size) v L∧RdM w' rb T' n'∧n≤n'∧n'≤300∧(2≤d→TEnd T')∧T'.length≤T.length)
def ListOK (d:Nat):Prop:= ∀(w:World) (rb:Nat) (T:List Tk3) (n:Nat),RdM w rb T n→TEnd T→n≤300→Calls Tryz.prog 29 #[.pointer (some ⟨rb,0,none⟩), .int .i64 (d:Int)] w (GivesL d w rb T n)
def GivesI (d:Nat) (w:World) (rb:Nat) (hd:Hd) (T:List Tk3) (n:Nat) (e:Ending) (w':World):Prop:=
 OnlyO rb (fun i=>i=rb) w w'∧((∃c a b,IBad d hd T n c a b∧e=flies c a b)∨
  ∃x wv kv T' n',e= .returned (.agg #[.string x.name,wv, .bool x.block,kv, .int .i64 x.a, .int .i64 x.b])∧IRun d hd T n x T' n'∧WordsIs w' (fun b=>w.heap.size≤b∧b<w'.heap.size) wv x.words∧ItemsIs (5-d) w' (fun b=>w.heap.size≤b∧b<w'.heap.size) kv x.kids∧RdM w' rb T' n'∧n≤n'∧n'≤300∧TEnd T'∧T'.length≤T.length)
def ItemOK (d:Nat):Prop:= ∀(w:World) (rb:Nat) (t:Tk3) (T:List Tk3) (n:Nat),RdM w rb T n→TEnd T→n≤300→Calls Tryz.prog 47 #[.pointer (some ⟨rb,0,none⟩),tkA t, .int .i64 (d:Int)] w (GivesI d w rb { name:=t.s,a:=t.a,b:=t.b } T n)
theorem OnlyO.trans2 {rb:Nat} {O:Foot} {w w3 w4:World} {K:Foot} (h:OnlyO rb O w w3) (g:OnlyO w.heap.size K w3 w4) (hr:rb<w.heap.size):OnlyO rb O w w4:=
 h.past g.bel (Nat.le_of_lt hr)
structure TokVar (w:World) (g:Nat) (t:Tk3) (W5 W6:World):Prop where
 g0:w.heap.size=g
 a5:w.alloc (.cells #[.int .i64 0, .string ⟨#[]⟩, .int .u64 0, .int .i64 0, .int .i64 0] 78)=W5
 s6:(((((W5.setCell ⟨g,0,none⟩ (.int .i64 t.k)).setCell ⟨g,1,none⟩ (.string t.s)).setCell ⟨g,2,none⟩ (.int .u64 t.n)).setCell ⟨g,3,none⟩ (.int .i64 t.a)).setCell ⟨g,4,none⟩ (.int .i64 t.b))=W6
 f5:Var5 W5 g (.int .i64 0) (.string ⟨#[]⟩) (.int .u64 0) (.int .i64 0) (.int .i64 0)
 f6:Var5 W6 g (.int .i64 t.k) (.string t.s) (.int .u64 t.n) (.int .i64 t.a) (.int .i64 t.b)
 b6:Below w.heap.size w W6
 z6:W6.heap.size=g+1
theorem tok_var (w:World) (t:Tk3): ∃g W5 W6,TokVar w g t W5 W6:=by
 obtain⟨g,hg⟩: ∃g,w.heap.size=g:=⟨_,rfl⟩
 obtain⟨W5,hW5⟩: ∃W,w.alloc (.cells #[.int .i64 0, .string ⟨#[]⟩, .int .u64 0, .int .i64 0, .int .i64 0] 78)=W:=⟨_,rfl⟩
 have h5:Below w.heap.size w W5:=by rw[←hW5];exact(Mj _ _).alloc (Mz _) _
 have F5:Var5 W5 g (.int .i64 0) (.string ⟨#[]⟩) (.int .u64 0) (.int .i64 0) (.int .i64 0):=by rw[←hW5];exact Var5.fresh _ _ _ _ _ _ _ _ hg.symm
 exact⟨g,W5,_,hg,hW5,rfl,F5,F5.put _ _ _ _ _,below_put5 h5 (by omega) _ _ _ _ _,by
  have:=put5_size W5 g (.int .i64 t.k) (.string t.s) (.int .u64 t.n) (.int .i64 t.a) (.int .i64 t.b)
  have e:W5.heap.size=g+1:=by rw[←hW5];simp[hg]
  rw[←e];exact this⟩
structure LK (d:Nat) (B:Nat) (t:Tk3) (tb:Nat) (v:Value) (ps:List ItV) (wr:World):Prop where
 tok:Var5 wr tb (.int .i64 t.k) (.string t.s) (.int .u64 t.n) (.int .i64 t.a) (.int .i64 t.b)
 tlo:B≤tb
 lst: ∃S:Nat→Prop,(∀b,S b→B≤b∧b<wr.heap.size∧b≠tb)∧ListIs (5-d) wr S B v ps
 nv:v.ownBlock≠some tb
theorem LK.only {d B:Nat} {t:Tk3} {tb rb:Nat} {v:Value} {ps:List ItV} {wr w':World} (h:LK d B t tb v ps wr) (ho:OnlyO rb (fun i=>i=rb) wr w') (hr:rb<B):LK d B t tb v ps w':=by
 obtain⟨S,hS,hl⟩:=h.lst
 have hlt:=h.tlo
 refine⟨h.tok.stay (ho.keep tb h.tok.s (fun e=>by omega)) ho.size,h.tlo,⟨S,fun b hb=>?_,?_⟩,h.nv⟩
 ·have:=hS b hb
  exact⟨this.1,Kx this.2.1 ho.size,this.2.2⟩
 ·refine hl.keep (fun _ h=>h) (fun b hb=>ho.keep b (hS b hb).2.1 (fun e=>?_)) (fun b hb=>ho.keep b (hl.row.lt hb).2 (fun e=>?_)) hl.out
  ·have:=(hS b hb).1;omega
  ·have:=(hl.row.lt hb).1;omega
theorem LK.first {d rb g:Nat} {t:Tk3} {w w1 W5 W6:World} (h:TokVar w1 g t W5 W6) (ho:OnlyO rb (fun i=>i=rb) w w1):LK d w.heap.size t g (.slice none 0 0) [] W6:=
 ⟨h.f6,by have:=h.g0;have:=ho.size;omega,⟨fun _=>False,fun b hb=>hb.elim,ListIs.nil _ _ _ _⟩,fun e=>by cases e⟩
def lenR (w:World) (rb:Nat):Nat:=match w.cell? ⟨rb,0,none⟩with
 |some (.slice _ n _)=>n
 |_=>0
theorem RdM.len {w:World} {rb n:Nat} {T:List Tk3} (h:RdM w rb T n):lenR w rb=T.length:=by
 obtain⟨v,h1,h2⟩:=h
 obtain⟨a,cap,rfl⟩:=h2.size
 unfold lenR
 rw[h1.c0]
theorem item_cells {w:World} {p:ItV} : ∀j,j<6→(w.alloc (.cells #[.string p.x.name,p.wv, .bool p.x.block,p.kv, .int .i64 p.x.a, .int .i64 p.x.b] 47)).cell? ⟨w.heap.size,j,none⟩=some (p.cells.getD j undef):=fun j hj=>by
 have:j=0∨j=1∨j=2∨j=3∨j=4∨j=5:=by omega
 rcases this with rfl|rfl|rfl|rfl|rfl|rfl<;>simp[ItV.cells]
theorem LK.push {d B lo:Nat} {t:Tk3} {tb:Nat} {v v':Value} {ps:List ItV} {p:ItV} {w2 w3 w4:World} (h:LK d B t tb v ps w2) (h3:Below w2.heap.size w2 w3) (hlo:B≤lo) (hlt:tb<lo) (hvo: ∀b,v.ownBlock=some b→b<lo)
  (hw:WordsIs w2 (fun b=>lo≤b∧b<w2.heap.size) p.wv p.x.words) (hk:ItemsIs (5-d) w2 (fun b=>lo≤b∧b<w2.heap.size) p.kv p.x.kids)
  (hr:RowK 47 6 w4 B v' (ps.map ItV.cells++ [p.cells])) (ho:OnlyO B (fun i=>some i=v.ownBlock) w3 w4) (hv:v'.ownBlock=v.ownBlock∨v'.ownBlock=some w3.heap.size):LK d B t tb v' (ps++ [p]) w4:=by
 obtain⟨S,hS,hl⟩:=h.lst
 have hs3:=h3.size
 have hs4:=ho.size
 have kept: ∀b,b<w2.heap.size→v.ownBlock≠some b→w4.heap[b]?=w2.heap[b]?:=fun b hb hne=>(ho.keep b (by omega) (fun e=>hne e.symm)).trans (h3.block b hb)
 have hne2: ∀b,lo≤b→v.ownBlock≠some b:=fun b hb e=>by have:=hvo b e;omega
 refine⟨h.tok.stay (kept tb h.tok.s h.nv) (by omega),h.tlo,⟨fun b=>S b∨(lo≤b∧b<w2.heap.size),fun b hb=>?_,?_⟩,?_⟩
 ·rcases hb with hb|hb
  ·have:=hS b hb
   exact⟨this.1,by omega,this.2.2⟩
  ·exact⟨by omega,by omega,by omega⟩
 ·refine hl.push (S':=fun b=>S b∨(lo≤b∧b<w2.heap.size)) hr (fun b hb=>My hb) (fun b hb=>kept b (hS b hb).2.1 (fun e=>hl.out b e hb)) (hw.keep (fun b hb=>Or.inr hb) (fun b hb=>kept b hb.2 (hne2 b hb.1))) (ItemsIs.keep hk (fun b hb=>Or.inr hb) (fun b hb=>kept b hb.2 (hne2 b hb.1))) (fun b hb=>?_)
  rcases hv with hv|hv
  ·rintro(hx|hx)
   ·exact hl.out b (hv▸hb) hx
   ·exact hne2 b hx.1 (hv▸hb)
  ·rw[hv]at hb
   injection hb with hb
   subst hb
   rintro(hx|hx)
   ·have:=(hS _ hx).2.1;omega
   ·omega
 ·rcases hv with hv|hv
  ·rw[hv];exact h.nv
  ·rw[hv]
   intro e
   injection e with e
   have:=h.tok.s
   omega
theorem LK.next {d B:Nat} {t t':Tk3} {tb g:Nat} {v:Value} {ps:List ItV} {wr w':World} (h:LK d B t tb v ps wr) (hg:wr.heap.size≤g) (hk: ∀i,B≤i→i<wr.heap.size→w'.heap[i]?=wr.heap[i]?) (hs:wr.heap.size≤w'.heap.size) (hB:B≤wr.heap.size) (hv:Var5 w' g (.int .i64 t'.k) (.string t'.s) (.int .u64 t'.n) (.int .i64 t'.a) (.int .i64 t'.b)):LK d B t' g v ps w':=by
 obtain⟨S,hS,hl⟩:=h.lst
 refine⟨hv,by omega,⟨S,fun b hb=>?_,?_⟩,fun e=>?_⟩
 ·have:=hS b hb
  exact⟨this.1,by omega,by omega⟩
 ·exact hl.keep (fun _ h=>h) (fun b hb=>hk b (hS b hb).1 (hS b hb).2.1) (fun b hb=>hk b (hl.row.lt hb).1 (hl.row.lt hb).2) hl.out
 ·have:=(hl.row.lt e).2;omega
theorem LK.items {d B:Nat} {t:Tk3} {tb:Nat} {v:Value} {ps:List ItV} {wr:World} (h:LK d B t tb v ps wr) (hd:d≤5):ItemsIs (6-d) wr (fun b=>B≤b∧b<wr.heap.size) v (ps.map ItV.x):=by
 obtain⟨S,hS,hl⟩:=h.lst
 have e:6-d=5-d+1:=by omega
 rw[e]
 exact hl.items (fun b hb=>⟨(hS b hb).1,(hS b hb).2.1⟩) (fun b hb=>hl.row.lt hb)
theorem LK.blk {d B:Nat} {t:Tk3} {tb:Nat} {v:Value} {ps:List ItV} {wr:World} (h:LK d B t tb v ps wr): ∀b,v.ownBlock=some b→b<wr.heap.size:=fun b hb=>by
 obtain⟨S,_,hl⟩:=h.lst
 exact(hl.row.lt hb).2
theorem LK.row {d B:Nat} {t:Tk3} {tb:Nat} {v:Value} {ps:List ItV} {wr:World} (h:LK d B t tb v ps wr):RowK 47 6 wr B v (ps.map ItV.cells):=by
 obtain⟨S,_,hl⟩:=h.lst
 exact hl.row
end
section
open Go.RowKit
structure Var6 (W:World) (p:Nat) (x0 x1 x2 x3 x4 x5:Value):Prop where
 c0:W.cell? ⟨p,0,none⟩=some x0
 c1:W.cell? ⟨p,1,none⟩=some x1
 c2:W.cell? ⟨p,2,none⟩=some x2
 c3:W.cell? ⟨p,3,none⟩=some x3
 c4:W.cell? ⟨p,4,none⟩=some x4
 c5:W.cell? ⟨p,5,none⟩=some x5
 q: ∀i,W.frozen? ⟨p,i,none⟩=false
 s:p<W.heap.size
theorem Var6.fresh (W:World) (x0 x1 x2 x3 x4 x5:Value) (t:TypeId) (p:Nat) (hp:p=W.heap.size):Var6 (W.alloc (.cells #[x0,x1,x2,x3,x4,x5] t)) p x0 x1 x2 x3 x4 x5:=by
 subst hp
 exact⟨by simp,by simp,by simp,by simp,by simp,by simp,fun i=>by simp[go_sem],by simp⟩
theorem Var6.stay {W W':World} {p:Nat} {x0 x1 x2 x3 x4 x5:Value} (h:Var6 W p x0 x1 x2 x3 x4 x5) (e:W'.heap[p]?=W.heap[p]?) (hs:W.heap.size≤W'.heap.size):Var6 W' p x0 x1 x2 x3 x4 x5:=
 ⟨(Kk e).trans h.c0,(Kk e).trans h.c1,(Kk e).trans h.c2,(Kk e).trans h.c3,(Kk e).trans h.c4,(Kk e).trans h.c5,fun i=>(World.frozen?_of_block e).trans (h.q i),Kx h.s hs⟩
theorem Var6.after {W W':World} {p:Nat} {x0 x1 x2 x3 x4 x5:Value} (h:Var6 W p x0 x1 x2 x3 x4 x5) (hb:Below W.heap.size W W'):Var6 W' p x0 x1 x2 x3 x4 x5:=h.stay (hb.block p h.s) hb.size
def put6 (W:World) (p:Nat) (y0 y1 y2 y3 y4 y5:Value):World:=(((((W.setCell ⟨p,0,none⟩ y0).setCell ⟨p,1,none⟩ y1).setCell ⟨p,2,none⟩ y2).setCell ⟨p,3,none⟩ y3).setCell ⟨p,4,none⟩ y4).setCell ⟨p,5,none⟩ y5
theorem Var6.put {W:World} {p:Nat} {x0 x1 x2 x3 x4 x5:Value} (h:Var6 W p x0 x1 x2 x3 x4 x5) (y0 y1 y2 y3 y4 y5:Value):Var6 (put6 W p y0 y1 y2 y3 y4 y5) p y0 y1 y2 y3 y4 y5:=by
 obtain⟨c0,c1,c2,c3,c4,c5,q,s⟩:=h
 unfold put6
 refine⟨?_,?_,?_,?_,?_,?_,fun i=>?_,?_⟩<;>simp[go_sem, *]
theorem Var6.set1 {W:World} {p:Nat} {x0 x1 x2 x3 x4 x5:Value} (h:Var6 W p x0 x1 x2 x3 x4 x5) (y:Value):Var6 (W.setCell ⟨p,1,none⟩ y) p x0 y x2 x3 x4 x5:=by
 obtain⟨c0,c1,c2,c3,c4,c5,q,s⟩:=h
 refine⟨?_,?_,?_,?_,?_,?_,fun i=>?_,?_⟩<;>simp[go_sem, *]
theorem Var6.set2 {W:World} {p:Nat} {x0 x1 x2 x3 x4 x5:Value} (h:Var6 W p x0 x1 x2 x3 x4 x5) (y:Value):Var6 (W.setCell ⟨p,2,none⟩ y) p x0 x1 y x3 x4 x5:=by
 obtain⟨c0,c1,c2,c3,c4,c5,q,s⟩:=h
 refine⟨?_,?_,?_,?_,?_,?_,fun i=>?_,?_⟩<;>simp[go_sem, *]
theorem Var6.set3 {W:World} {p:Nat} {x0 x1 x2 x3 x4 x5:Value} (h:Var6 W p x0 x1 x2 x3 x4 x5) (y:Value):Var6 (W.setCell ⟨p,3,none⟩ y) p x0 x1 x2 y x4 x5:=by
 obtain⟨c0,c1,c2,c3,c4,c5,q,s⟩:=h
 refine⟨?_,?_,?_,?_,?_,?_,fun i=>?_,?_⟩<;>simp[go_sem, *]
theorem put6_size (W:World) (p:Nat) (y0 y1 y2 y3 y4 y5:Value):(put6 W p y0 y1 y2 y3 y4 y5).heap.size=W.heap.size:=by
 unfold put6
 simp
theorem put6_else (W:World) (p:Nat) (y0 y1 y2 y3 y4 y5:Value) (j:Nat) (h:j≠p):(put6 W p y0 y1 y2 y3 y4 y5).heap[j]?=W.heap[j]?:=by
 unfold put6
 rw[sset_else _ _ _ _ _ h,sset_else _ _ _ _ _ h,sset_else _ _ _ _ _ h,sset_else _ _ _ _ _ h,sset_else _ _ _ _ _ h,sset_else _ _ _ _ _ h]
theorem below_put6 {B:Nat} {w W:World} (h:Below B w W) {p:Nat} (hp:B≤p) (y0 y1 y2 y3 y4 y5:Value):Below B w (put6 W p y0 y1 y2 y3 y4 y5):=(((((h.setCell hp _).setCell hp _).setCell hp _).setCell hp _).setCell hp _).setCell hp _
theorem load_item {W:World} {g:Nat} {x0 x1 x2 x3 x4 x5:Value} (h:Var6 W g x0 x1 x2 x3 x4 x5):(loadVar 47 ⟨g,0,none⟩).run Tryz.prog W= .ok (.agg #[x0,x1,x2,x3,x4,x5]) W:=by
 obtain⟨c0,c1,c2,c3,c4,c5,_,_⟩:=h
 go_simp
theorem item_results {W:World} {g:Nat} {x0 x1 x2 x3 x4 x5:Value} {tmps:Array Value} (h:Var6 W g x0 x1 x2 x3 x4 x5) (h2:tmps.getD 6 undef= .pointer (some ⟨g,0,none⟩)):(results Tryz.f47 tmps).run Tryz.prog W= .ok (.agg #[x0,x1,x2,x3,x4,x5]) W:=by
 have e:(asAddr (Value.pointer (some ⟨g,0,none⟩))).run Tryz.prog W= .ok ⟨g,0,none⟩ W:=rfl
 have hr:Tryz.f47.results= #[.cell 6 47]:=rfl
 have q2:tmps[6]?.getD undef= .pointer (some ⟨g,0,none⟩):=by simpa using h2
 simp only[results,hr]
 simp[Sem.run_bind,Result.andThen,q2,e,load_item h]
structure IK (B:Nat) (hd:Hd) (t:Tk3) (g:Nat) (v:Value) (ts:List Tk3) (wr:World):Prop where
 tok:Var5 wr g (.int .i64 t.k) (.string t.s) (.int .u64 t.n) (.int .i64 t.a) (.int .i64 t.b)
 res:Var6 wr (B+1) (.string ⟨#[]⟩) (.slice none 0 0) (.bool false) (.slice none 0 0) (.int .i64 0) (.int .i64 0)
 itm:Var6 wr (B+2) (.string hd.name) v (.bool false) (.slice none 0 0) (.int .i64 hd.a) (.int .i64 hd.b)
 row:RowK 78 5 wr (g+1) v (ts.map tkV)
 glo:B+3≤g
theorem IK.only {B rb g:Nat} {hd:Hd} {t:Tk3} {v:Value} {ts:List Tk3} {wr w':World} (h:IK B hd t g v ts wr) (ho:OnlyO rb (fun i=>i=rb) wr w') (hr:rb<B):IK B hd t g v ts w':=by
 have hg:=h.glo
 exact⟨h.tok.stay (ho.keep g h.tok.s (fun e=>by omega)) ho.size,h.res.stay (ho.keep (B+1) h.res.s (fun e=>by omega)) ho.size,h.itm.stay (ho.keep (B+2) h.itm.s (fun e=>by omega)) ho.size,h.row.kept (fun b hb=>ho.keep b (h.row.lt hb).2 (fun e=>by have:=(h.row.lt hb).1;omega)),hg⟩
theorem IK.after {B g:Nat} {hd:Hd} {t:Tk3} {v:Value} {ts:List Tk3} {wr w':World} (h:IK B hd t g v ts wr) (hb:Below wr.heap.size wr w'):IK B hd t g v ts w':=
 ⟨h.tok.after hb,h.res.after hb,h.itm.after hb,h.row.below hb,h.glo⟩
theorem IK.word {B g:Nat} {hd:Hd} {t:Tk3} {v v':Value} {ts:List Tk3} {w2 w3:World} (h:IK B hd t g v ts w2) (hr:RowK 78 5 w3 (g+1) v' (ts.map tkV++ [tkV t])) (ho:OnlyO (g+1) (fun i=>some i=v.ownBlock) w2 w3):IK B hd t g v' (ts++ [t]) (w3.setCell ⟨B+2,1,none⟩ v'):=by
 have hg:=h.glo
 have kept: ∀i,i≤g→i<w2.heap.size→w3.heap[i]?=w2.heap[i]?:=fun i hi hs=>ho.bel.block i (by omega)
 have hs:=ho.size
 refine⟨(h.tok.stay (kept g (Mz _) h.tok.s) hs).stay (sset_else _ _ _ _ _ (by omega)) (by simp),(h.res.stay (kept _ (by omega) h.res.s) hs).stay (sset_else _ _ _ _ _ (by omega)) (by simp),(h.itm.stay (kept _ (by omega) h.itm.s) hs).set1 v',?_,hg⟩
 rw[List.map_append]
 exact hr.kept (fun b hb=>sset_else _ _ _ _ _ (by have:=(hr.lt hb).1;omega))
theorem IK.next {B g:Nat} {hd:Hd} {t t':Tk3} {v:Value} {ts:List Tk3} {wr:World} (h:IK B hd t g v ts wr):IK B hd t' g v ts (put5 wr g (.int .i64 t'.k) (.string t'.s) (.int .u64 t'.n) (.int .i64 t'.a) (.int .i64 t'.b)):=by
 have hg:=h.glo
 have hs:=Nat.le_of_eq (put5_size wr g (.int .i64 t'.k) (.string t'.s) (.int .u64 t'.n) (.int .i64 t'.a) (.int .i64 t'.b)).symm
 exact⟨h.tok.put _ _ _ _ _,h.res.stay (put5_else _ _ _ _ _ _ _ _ (by omega)) hs,h.itm.stay (put5_else _ _ _ _ _ _ _ _ (by omega)) hs,h.row.kept (fun b hb=>put5_else _ _ _ _ _ _ _ _ (by have:=(h.row.lt hb).1;omega)),hg⟩
theorem IK.words {B g:Nat} {hd:Hd} {t:Tk3} {v:Value} {ts:List Tk3} {wr F:World} (h:IK B hd t g v ts wr) (hk: ∀i,g+1≤i→i<wr.heap.size→F.heap[i]?=wr.heap[i]?) (hs:wr.heap.size≤F.heap.size):WordsIs F (fun b=>B≤b∧b<F.heap.size) v ts:=by
 have hg:=h.glo
 refine RowK.words (h.row.kept fun b hb=>hk b (h.row.lt hb).1 (h.row.lt hb).2) (fun b hb=>?_)
 have:=h.row.lt hb
 exact⟨by omega,by omega⟩
theorem OnlyO.put6 {base:Nat} {O:Foot} {w W:World} {p:Nat} (h:OnlyO base O w W) (hp:w.heap.size≤p) (hB:base≤w.heap.size) (y0 y1 y2 y3 y4 y5:Value):OnlyO base O w (Go.Proofs.YtalcagmhdppdjaaGreatDoor.put6 W p y0 y1 y2 y3 y4 y5):=h.past (below_put6 (Mj _ _) hp _ _ _ _ _ _) hB
end
section
open Go.RowKit
end
section
open Go.RowKit
end
section

end
section
noncomputable def treT (s:ByteArray):Except (Int×Int×Int) (List It):=treF (runesOf (nums s))
end
section
open Go.RowKit
theorem list_step (d:Nat) (hd1:1≤d) (hd5:d≤5) (hI:d≤4→ItemOK d):ListOK d:=by
 intro w rb T0 n0 hrd hT hn
 obtain⟨t,T,rfl,hend⟩:=hT.split
 obtain⟨K,hK⟩: ∃K,endK d=K:=⟨_,rfl⟩
 have HLT:=Lh hrd.lt
 have HN:=Lh (next_any w rb n0 t T hrd)
 unfold tkA at HN
 have hkd:(((d:Int)==1)=true∧K=0)∨(((d:Int)==1)=false∧K=8):=by
  rw[←hK];unfold endK
  by_cases e:d=1
  ·exact My ⟨by simp;omega,if_pos e⟩
  ·exact Or.inr ⟨by simp;omega,if_neg e⟩
 have HE:=Lh hend
 have HI:=Lh hI
 have HD1:=Lh hd1
 have HD5:=Lh hd5
 have HN3:=Lh hn
 have HKD:=Lh hK
 clear hrd hT hn hend hI hd1 hd5 hK
 rcases hkd with⟨hb1,rfl⟩|⟨hb1,rfl⟩
 ·go_enter Tryz.func29,Tryz.ntmps29
  go_wp2_with (go_at_call 45;(with_reducible refine(HN.out).mono ?_);rintro e w1 ⟨rfl,hr1,ho1⟩;obtain⟨g,W5,W6,tv⟩:=tok_var w1 t;have h0:=tv.g0;have ha:=tv.a5;have hs:=tv.s6;have x0:=tv.f5.c0;have z0:=tv.f5.q 0;have x1:=tv.f5.c1;have z1:=tv.f5.q 1;have x2:=tv.f5.c2;have z2:=tv.f5.q 2;have x3:=tv.f5.c3;have z3:=tv.f5.q 3;have x4:=tv.f5.c4;have z4:=tv.f5.q 4;have HTV:=Lh tv;have HR1:=Lh hr1;have HO1:=Lh ho1;clear tv hr1 ho1)
  have HST:=Lh (LK.first (d:=d) HTV.out HO1.out)
  have HO6:=Lh (HO1.out.past (HTV.out.b6.mono HO1.out.size) (Nat.le_of_lt HLT.out))
  have HR6:=Lh (HR1.out.after HTV.out.b6)
  clear x0 z0 x1 z1 x2 z2 x3 z3 x4 z4 h0 ha hs
  go_loopw [6,7] (fun v6 v7 wr=> ∃(t':Tk3) (T':List Tk3) (n' tb:Nat) (ps:List ItV),v7= .pointer (some ⟨tb,0,none⟩)∧LK d w.heap.size t' tb v6 ps wr∧RdM wr rb T' n'∧OnlyO rb (fun i=>i=rb) w wr∧Hid (LRun d (t::T) n0 (ps.map ItV.x) (t'::T') n')∧n0≤n'∧n'≤300∧ps.length≤n'∧T'.length≤T.length∧(t'.k=0∧T'= []∨t'.k≠0∧TEnd T')) (fun _ _ wr=>lenR wr rb)
  case atStart=>exact⟨t,T,n0,g,[],rfl,HST.out,HR6.out,HO6.out,Lh (LRun.start _ _ _),Mz _,HN3.out,Nat.zero_le _,Mz _,HE.out⟩
  case round=>
   rename_i wr
   obtain⟨t',T',n',tb,ps,rfl,hk,hr,ho,HRUN,hn1,hn3,hpl,hTl,hend⟩:=hrel
   have HK:=Lh hk
   have HR:=Lh hr
   have HO:=Lh ho
   have HEND:=Lh hend
   have HPL:=Lh hpl
   have HTL:=Lh hTl
   have HN1:=Lh hn1
   have HN4:=Lh hn3
   have c0:=hk.tok.c0;have c1:=hk.tok.c1;have c2:=hk.tok.c2;have c3:=hk.tok.c3;have c4:=hk.tok.c4
   clear hk hr ho hend hpl hTl hn1 hn3
   by_cases he:t'.k=0
   ·have heb:(t'.k !=0)=false:=by simpa using he
    have HDONE:=Lh (HRUN.out.done (he.trans HKD.out.symm))
    have HTE:Hid (2≤d→TEnd T'):=Lh (fun h2=>by have:=HKD.out;unfold endK at this;rw[if_neg (by omega)]at this;omega)
    clear he
    go_wp2
    go_ret
    exact⟨HO.out,Or.inr ⟨_,_,T',n',rfl,HDONE.out,HK.out.items HD5.out,HR.out,HN1.out,HN4.out,HTE.out,Kz HTL.out (Nat.le_succ _)⟩⟩
   ·have heb:(t'.k !=0)=true:=by simpa using he
    have HNE:Hid (t'.k≠endK d):=Lh (by rw[HKD.out];exact he)
    clear he
    by_cases h1:t'.k=1
    ·by_cases hd4:d≤4
     ·by_cases hn3:n'<300
      ·have HBG:=Lh (begin_fine d t' wr rb n' T' HR.out h1 hd4 hn3)
       have HTE:Hid (TEnd T'):=Lh (by rcases HEND.out with⟨e,_⟩|⟨_,e⟩;omega;exact e)
       have HIT:=Lh (HI.out hd4)
       have HBAD:=Lh (fun c a b=>LRun.bad (c:=c) (a:=a) (b:=b) HRUN.out h1 hd4 hn3)
       have HMORE:=Lh (fun n2 T2 x=>LRun.more (n':=n2) (T':=T2) (x:=x) HRUN.out h1 hd4 hn3)
       have HN5:=Lh (show n'+1≤300 from hn3)
       unfold ItemOK at HIT
       unfold tkA at HBG HIT
       clear h1 hn3 hd4
       go_wp2_with (first
        |(go_at_call 46;(with_reducible refine(HBG.out).mono ?_);rintro e w1' ⟨rfl,hr1,ho1⟩;have HR2:=Lh hr1;have HO2:=Lh (HO.out.step ho1);have HK2:=Lh (HK.out.only ho1 HLT.out);have d0:=HK2.out.tok.c0;have d1:=HK2.out.tok.c1;have d2:=HK2.out.tok.c2;have d3:=HK2.out.tok.c3;have d4:=HK2.out.tok.c4;clear hr1 ho1)
        |(go_at_call 47;(with_reducible refine(HIT.out w1' rb t' T' (n'+1) HR2.out HTE.out HN5.out).mono ?_)))
       intro e w2 hi
       obtain⟨ho2,hi⟩:=hi
       rcases hi with⟨c,a,b,hbad,rfl⟩|⟨x,wv,kv,T2,n2,rfl,hrun2,hw2,hk2,hr2,hn2,hn23,hte2,htl2⟩
       ·unfold flies
        go_wp2
        exact⟨rfl,HO2.out.step ho2,My ⟨c,a,b,HBAD.out c a b hbad,rfl⟩⟩
       ·obtain⟨t3,T3,rfl,hend3⟩:=hte2.split
        have HRN:=Lh (HMORE.out n2 (t3::T3) x hrun2)
        have HO3:=Lh (HO2.out.step ho2)
        have HK3:=Lh (HK2.out.only ho2 HLT.out)
        have HW2:=Lh hw2
        have HKK2:=Lh hk2
        have HR3:=Lh hr2
        have HLO:=Lh (show w.heap.size≤w1'.heap.size from HO2.out.size)
        have HTLO:=Lh (show tb<w1'.heap.size from HK2.out.tok.s)
        have HVLO:=Lh HK2.out.blk
        have HEND3:=Lh hend3
        have HN23:=Lh (And.intro hn2 hn23)
        have HTL3:=Lh htl2
        obtain⟨p,hp⟩: ∃p:ItV,p=⟨x,wv,kv⟩:=⟨_,rfl⟩
        obtain⟨gg,hgg⟩: ∃gg,w2.heap.size=gg:=⟨_,rfl⟩
        obtain⟨W3,hW3⟩: ∃W,w2.alloc (.cells #[.string x.name,wv, .bool x.block,kv, .int .i64 x.a, .int .i64 x.b] 47)=W:=⟨_,rfl⟩
        have CA:Hid (∀j,j<6→W3.cell? ⟨gg,j,none⟩=some (p.cells.getD j undef)):=Lh (by rw[←hW3,←hgg,hp];exact item_cells (p:=⟨x,wv,kv⟩))
        have h3:Below w2.heap.size w2 W3:=by rw[←hW3];exact(Mj _ _).alloc (Mz _) _
        have H3:=Lh h3
        have HROW:=Lh (HK3.out.row.below h3)
        have HPO:Hid (∀u∈p.cells,u.oneCell'=true):=Lh (by rw[hp];exact itv_one hw2.one hk2.one)
        have HL6:Hid ((ps.map ItV.cells).length≤1000000):=Lh (by rw[Ky];have:=HPL.out;have:=HN4.out;omega)
        have HSZ:Hid (w.heap.size≤W3.heap.size):=Lh (by have:=h3.size;have:=HLO.out;have:=ho2.size;omega)
        have HPX:=Lh hp
        clear hp hw2 hk2 hr2 hn2 hn23 htl2 hend3 hte2 h3 ho2 hrun2 d0 d1 d2 d3 d4 c0 c1 c2 c3 c4
        go_wp2_with (at_builtin;(refine wp_rowK (T:=34) (t:=47) (sz:=6) rfl _ _ rfl Tryz.underlying34 info_item rfl (by decide) (by decide) w.heap.size _ _ rfl HROW.out gg p.cells rfl rfl CA.out HPO.out HL6.out HSZ.out ?_))
        intro v' w4 hr4 ho4 hob
        have HK4:Hid (LK d w.heap.size t' tb v' (ps++ [p]) w4):=Lh (LK.push HK3.out H3.out HLO.out HTLO.out HVLO.out (by rw[HPX.out];exact HW2.out) (by rw[HPX.out];exact HKK2.out) hr4 ho4 hob)
        have HO4:=Lh ((HO3.out.past (H3.out.mono (by have:=HO3.out.size;omega)) (Nat.le_of_lt HLT.out)).trans2 ho4 HLT.out)
        have HR4:=Lh ((HR3.out.after H3.out).keep (fun i hi=>ho4.bel.block i (Nat.lt_of_le_of_lt hi HLT.out)) ho4.size)
        have d0:=HK4.out.tok.c0;have d1:=HK4.out.tok.c1;have d2:=HK4.out.tok.c2;have d3:=HK4.out.tok.c3;have d4:=HK4.out.tok.c4
        obtain⟨g,W5,W6,tv⟩:=tok_var w4 t'
        have h0:=tv.g0;have ha:=tv.a5;have hs:=tv.s6;have x0:=tv.f5.c0;have z0:=tv.f5.q 0;have x1:=tv.f5.c1;have z1:=tv.f5.q 1;have x2:=tv.f5.c2;have z2:=tv.f5.q 2;have x3:=tv.f5.c3;have z3:=tv.f5.q 3;have x4:=tv.f5.c4;have z4:=tv.f5.q 4
        have HTV:=Lh tv
        have HN6:=Lh (next_any W6 rb n2 t3 T3 (HR4.out.after tv.b6))
        unfold tkA at HN6
        clear tv hr4 ho4 hob hW3
        go_wp2_with (go_at_call 45;(with_reducible refine(HN6.out).mono ?_);rintro e w7 ⟨rfl,hr7,ho7⟩;have v7:=HTV.out.f6.stay (ho7.keep g HTV.out.f6.s (fun e=>by have:=HLT.out;have:=HTV.out.g0;have:=HO4.out.size;omega)) ho7.size;have y0:=v7.c0;have yz0:=v7.q 0;have y1:=v7.c1;have yz1:=v7.q 1;have y2:=v7.c2;have yz2:=v7.q 2;have y3:=v7.c3;have yz3:=v7.q 3;have y4:=v7.c4;have yz4:=v7.q 4;have HV7:=Lh v7;have HR7:=Lh hr7;have HO7:=Lh ho7;clear v7 hr7 ho7)
        have HSB:Hid (w.heap.size≤w4.heap.size):=Lh HO4.out.size
        have HBP:Hid (Below g w7 (put5 w7 g (.int .i64 t3.k) (.string t3.s) (.int .u64 t3.n) (.int .i64 t3.a) (.int .i64 t3.b))):=Lh (below_put5 (Mj _ _) (Mz _) _ _ _ _ _)
        have HLKN:Hid (LK d w.heap.size t3 g v' (ps++ [p]) (put5 w7 g (.int .i64 t3.k) (.string t3.s) (.int .u64 t3.n) (.int .i64 t3.a) (.int .i64 t3.b))):=Lh (HK4.out.next (Nat.le_of_eq HTV.out.g0) (fun i h1 h2=>((HBP.out.block i (by rw[←HTV.out.g0];exact h2)).trans (HO7.out.keep i (Kx h2 HTV.out.b6.size) (fun e=>by have:=HLT.out;omega))).trans (HTV.out.b6.block i h2)) (Kz HTV.out.b6.size (Kz HO7.out.size HBP.out.size)) HSB.out (HV7.out.put _ _ _ _ _))
        have HRN2:Hid (RdM (put5 w7 g (.int .i64 t3.k) (.string t3.s) (.int .u64 t3.n) (.int .i64 t3.a) (.int .i64 t3.b)) rb T3 n2):=Lh (HR7.out.keep (fun i hi=>HBP.out.block i (by have:=HTV.out.g0;have:=HSB.out;have:=HLT.out;omega)) HBP.out.size)
        have HON:Hid (OnlyO rb (fun i=>i=rb) w (put5 w7 g (.int .i64 t3.k) (.string t3.s) (.int .u64 t3.n) (.int .i64 t3.a) (.int .i64 t3.b))):=Lh (((HO4.out.past (HTV.out.b6.mono HSB.out) (Nat.le_of_lt HLT.out)).step HO7.out).past (HBP.out.mono (by have:=HTV.out.g0;have:=HSB.out;omega)) (Nat.le_of_lt HLT.out))
        have HRUN2:Hid (LRun d (t::T) n0 ((ps++ [p]).map ItV.x) (t3::T3) n2):=Lh (by have e:(ps++ [p]).map ItV.x=ps.map ItV.x++ [x]:=(by rw[List.map_append,HPX.out];rfl);rw[e];exact HRN.out)
        have HNU:Hid (n0≤n2∧n2≤300∧(ps++ [p]).length≤n2∧T3.length<T'.length∧T3.length≤T.length):=Lh (by
         have q1:=HN23.out.1;have q2:=HN23.out.2;have q3:=HN1.out;have q4:=HPL.out;have q5:=HTL3.out;have q6:=HTL.out
         rw[Jq]at q5
         refine⟨by omega,q2,by rw[Kq,List.length_singleton];omega,by omega,by omega⟩)
        have HLEN:=Lh (And.intro HR.out.len HRN2.out.len)
        go_roundw
        case rel=>exact⟨t3,T3,n2,g,ps++ [p],rfl,HLKN.out,HRN2.out,HON.out,HRUN2,HNU.out.1,HNU.out.2.1,HNU.out.2.2.1,HNU.out.2.2.2.2,HEND3.out⟩
        case measure=>exact(by have h1:=HLEN.out;have h2:=HNU.out.2.2.2.1;rw[←h1.1,←h1.2]at h2;exact h2)
      ·obtain rfl:n'=300:=by have:=HN4.out;omega
       have HBG:=Lh (begin_long d t' wr rb T' HR.out h1 hd4)
       have HBAD:=Lh (HRUN.out.long h1 hd4 (Mz _))
       unfold tkA flies at HBG
       clear h1 hn3 hd4
       go_wp2_with (go_at_call 46;(with_reducible refine(HBG.out).mono ?_);rintro e w1' ⟨rfl,ho1⟩;have HO2:=Lh (HO.out.past (ho1.mono HO.out.size) (Nat.le_of_lt HLT.out));clear ho1)
       exact⟨rfl,HO2.out,My ⟨_,_,_,HBAD.out,rfl⟩⟩
     ·have HBG:=Lh (begin_deep d t' wr rb h1 (by omega))
      have HBAD:=Lh (HRUN.out.deep h1 (by omega))
      unfold tkA flies at HBG
      clear h1 hd4
      go_wp2_with (go_at_call 46;(with_reducible refine(HBG.out).mono ?_);rintro e w1' ⟨rfl,ho1⟩;have HO2:=Lh (HO.out.past (ho1.mono HO.out.size) (Nat.le_of_lt HLT.out));clear ho1)
      exact⟨rfl,HO2.out,My ⟨_,_,_,HBAD.out,rfl⟩⟩
    ·have HBG:=Lh (begin_form d t' wr rb h1)
     have HBAD:=Lh (HRUN.out.form HNE.out h1)
     unfold tkA flies at HBG
     clear h1
     go_wp2_with (go_at_call 46;(with_reducible refine(HBG.out).mono ?_);rintro e w1' ⟨rfl,ho1⟩;have HO2:=Lh (HO.out.past (ho1.mono HO.out.size) (Nat.le_of_lt HLT.out));clear ho1)
     exact⟨rfl,HO2.out,My ⟨_,_,_,HBAD.out,rfl⟩⟩
 ·go_enter Tryz.func29,Tryz.ntmps29
  go_wp2_with (go_at_call 45;(with_reducible refine(HN.out).mono ?_);rintro e w1 ⟨rfl,hr1,ho1⟩;obtain⟨g,W5,W6,tv⟩:=tok_var w1 t;have h0:=tv.g0;have ha:=tv.a5;have hs:=tv.s6;have x0:=tv.f5.c0;have z0:=tv.f5.q 0;have x1:=tv.f5.c1;have z1:=tv.f5.q 1;have x2:=tv.f5.c2;have z2:=tv.f5.q 2;have x3:=tv.f5.c3;have z3:=tv.f5.q 3;have x4:=tv.f5.c4;have z4:=tv.f5.q 4;have HTV:=Lh tv;have HR1:=Lh hr1;have HO1:=Lh ho1;clear tv hr1 ho1)
  have HST:=Lh (LK.first (d:=d) HTV.out HO1.out)
  have HO6:=Lh (HO1.out.past (HTV.out.b6.mono HO1.out.size) (Nat.le_of_lt HLT.out))
  have HR6:=Lh (HR1.out.after HTV.out.b6)
  clear x0 z0 x1 z1 x2 z2 x3 z3 x4 z4 h0 ha hs
  go_loopw [6,7] (fun v6 v7 wr=> ∃(t':Tk3) (T':List Tk3) (n' tb:Nat) (ps:List ItV),v7= .pointer (some ⟨tb,0,none⟩)∧LK d w.heap.size t' tb v6 ps wr∧RdM wr rb T' n'∧OnlyO rb (fun i=>i=rb) w wr∧Hid (LRun d (t::T) n0 (ps.map ItV.x) (t'::T') n')∧n0≤n'∧n'≤300∧ps.length≤n'∧T'.length≤T.length∧(t'.k=0∧T'= []∨t'.k≠0∧TEnd T')) (fun _ _ wr=>lenR wr rb)
  case atStart=>exact⟨t,T,n0,g,[],rfl,HST.out,HR6.out,HO6.out,Lh (LRun.start _ _ _),Mz _,HN3.out,Nat.zero_le _,Mz _,HE.out⟩
  case round=>
   rename_i wr
   obtain⟨t',T',n',tb,ps,rfl,hk,hr,ho,HRUN,hn1,hn3,hpl,hTl,hend⟩:=hrel
   have HK:=Lh hk
   have HR:=Lh hr
   have HO:=Lh ho
   have HEND:=Lh hend
   have HPL:=Lh hpl
   have HTL:=Lh hTl
   have HN1:=Lh hn1
   have HN4:=Lh hn3
   have c0:=hk.tok.c0;have c1:=hk.tok.c1;have c2:=hk.tok.c2;have c3:=hk.tok.c3;have c4:=hk.tok.c4
   clear hk hr ho hend hpl hTl hn1 hn3
   by_cases he:t'.k=8
   ·have heb:(t'.k !=8)=false:=by simpa using he
    have HDONE:=Lh (HRUN.out.done (he.trans HKD.out.symm))
    have HTE:Hid (2≤d→TEnd T'):=Lh (fun h2=>by rcases HEND.out with⟨e,_⟩|⟨_,e⟩;omega;exact e)
    clear he
    go_wp2
    go_ret
    exact⟨HO.out,Or.inr ⟨_,_,T',n',rfl,HDONE.out,HK.out.items HD5.out,HR.out,HN1.out,HN4.out,HTE.out,Kz HTL.out (Nat.le_succ _)⟩⟩
   ·have heb:(t'.k !=8)=true:=by simpa using he
    have HNE:Hid (t'.k≠endK d):=Lh (by rw[HKD.out];exact he)
    clear he
    by_cases h1:t'.k=1
    ·by_cases hd4:d≤4
     ·by_cases hn3:n'<300
      ·have HBG:=Lh (begin_fine d t' wr rb n' T' HR.out h1 hd4 hn3)
       have HTE:Hid (TEnd T'):=Lh (by rcases HEND.out with⟨e,_⟩|⟨_,e⟩;omega;exact e)
       have HIT:=Lh (HI.out hd4)
       have HBAD:=Lh (fun c a b=>LRun.bad (c:=c) (a:=a) (b:=b) HRUN.out h1 hd4 hn3)
       have HMORE:=Lh (fun n2 T2 x=>LRun.more (n':=n2) (T':=T2) (x:=x) HRUN.out h1 hd4 hn3)
       have HN5:=Lh (show n'+1≤300 from hn3)
       unfold ItemOK at HIT
       unfold tkA at HBG HIT
       clear h1 hn3 hd4
       go_wp2_with (first
        |(go_at_call 46;(with_reducible refine(HBG.out).mono ?_);rintro e w1' ⟨rfl,hr1,ho1⟩;have HR2:=Lh hr1;have HO2:=Lh (HO.out.step ho1);have HK2:=Lh (HK.out.only ho1 HLT.out);have d0:=HK2.out.tok.c0;have d1:=HK2.out.tok.c1;have d2:=HK2.out.tok.c2;have d3:=HK2.out.tok.c3;have d4:=HK2.out.tok.c4;clear hr1 ho1)
        |(go_at_call 47;(with_reducible refine(HIT.out w1' rb t' T' (n'+1) HR2.out HTE.out HN5.out).mono ?_)))
       intro e w2 hi
       obtain⟨ho2,hi⟩:=hi
       rcases hi with⟨c,a,b,hbad,rfl⟩|⟨x,wv,kv,T2,n2,rfl,hrun2,hw2,hk2,hr2,hn2,hn23,hte2,htl2⟩
       ·unfold flies
        go_wp2
        exact⟨rfl,HO2.out.step ho2,My ⟨c,a,b,HBAD.out c a b hbad,rfl⟩⟩
       ·obtain⟨t3,T3,rfl,hend3⟩:=hte2.split
        have HRN:=Lh (HMORE.out n2 (t3::T3) x hrun2)
        have HO3:=Lh (HO2.out.step ho2)
        have HK3:=Lh (HK2.out.only ho2 HLT.out)
        have HW2:=Lh hw2
        have HKK2:=Lh hk2
        have HR3:=Lh hr2
        have HLO:=Lh (show w.heap.size≤w1'.heap.size from HO2.out.size)
        have HTLO:=Lh (show tb<w1'.heap.size from HK2.out.tok.s)
        have HVLO:=Lh HK2.out.blk
        have HEND3:=Lh hend3
        have HN23:=Lh (And.intro hn2 hn23)
        have HTL3:=Lh htl2
        obtain⟨p,hp⟩: ∃p:ItV,p=⟨x,wv,kv⟩:=⟨_,rfl⟩
        obtain⟨gg,hgg⟩: ∃gg,w2.heap.size=gg:=⟨_,rfl⟩
        obtain⟨W3,hW3⟩: ∃W,w2.alloc (.cells #[.string x.name,wv, .bool x.block,kv, .int .i64 x.a, .int .i64 x.b] 47)=W:=⟨_,rfl⟩
        have CA:Hid (∀j,j<6→W3.cell? ⟨gg,j,none⟩=some (p.cells.getD j undef)):=Lh (by rw[←hW3,←hgg,hp];exact item_cells (p:=⟨x,wv,kv⟩))
        have h3:Below w2.heap.size w2 W3:=by rw[←hW3];exact(Mj _ _).alloc (Mz _) _
        have H3:=Lh h3
        have HROW:=Lh (HK3.out.row.below h3)
        have HPO:Hid (∀u∈p.cells,u.oneCell'=true):=Lh (by rw[hp];exact itv_one hw2.one hk2.one)
        have HL6:Hid ((ps.map ItV.cells).length≤1000000):=Lh (by rw[Ky];have:=HPL.out;have:=HN4.out;omega)
        have HSZ:Hid (w.heap.size≤W3.heap.size):=Lh (by have:=h3.size;have:=HLO.out;have:=ho2.size;omega)
        have HPX:=Lh hp
        clear hp hw2 hk2 hr2 hn2 hn23 htl2 hend3 hte2 h3 ho2 hrun2 d0 d1 d2 d3 d4 c0 c1 c2 c3 c4
        go_wp2_with (at_builtin;(refine wp_rowK (T:=34) (t:=47) (sz:=6) rfl _ _ rfl Tryz.underlying34 info_item rfl (by decide) (by decide) w.heap.size _ _ rfl HROW.out gg p.cells rfl rfl CA.out HPO.out HL6.out HSZ.out ?_))
        intro v' w4 hr4 ho4 hob
        have HK4:Hid (LK d w.heap.size t' tb v' (ps++ [p]) w4):=Lh (LK.push HK3.out H3.out HLO.out HTLO.out HVLO.out (by rw[HPX.out];exact HW2.out) (by rw[HPX.out];exact HKK2.out) hr4 ho4 hob)
        have HO4:=Lh ((HO3.out.past (H3.out.mono (by have:=HO3.out.size;omega)) (Nat.le_of_lt HLT.out)).trans2 ho4 HLT.out)
        have HR4:=Lh ((HR3.out.after H3.out).keep (fun i hi=>ho4.bel.block i (Nat.lt_of_le_of_lt hi HLT.out)) ho4.size)
        have d0:=HK4.out.tok.c0;have d1:=HK4.out.tok.c1;have d2:=HK4.out.tok.c2;have d3:=HK4.out.tok.c3;have d4:=HK4.out.tok.c4
        obtain⟨g,W5,W6,tv⟩:=tok_var w4 t'
        have h0:=tv.g0;have ha:=tv.a5;have hs:=tv.s6;have x0:=tv.f5.c0;have z0:=tv.f5.q 0;have x1:=tv.f5.c1;have z1:=tv.f5.q 1;have x2:=tv.f5.c2;have z2:=tv.f5.q 2;have x3:=tv.f5.c3;have z3:=tv.f5.q 3;have x4:=tv.f5.c4;have z4:=tv.f5.q 4
        have HTV:=Lh tv
        have HN6:=Lh (next_any W6 rb n2 t3 T3 (HR4.out.after tv.b6))
        unfold tkA at HN6
        clear tv hr4 ho4 hob hW3
        go_wp2_with (go_at_call 45;(with_reducible refine(HN6.out).mono ?_);rintro e w7 ⟨rfl,hr7,ho7⟩;have v7:=HTV.out.f6.stay (ho7.keep g HTV.out.f6.s (fun e=>by have:=HLT.out;have:=HTV.out.g0;have:=HO4.out.size;omega)) ho7.size;have y0:=v7.c0;have yz0:=v7.q 0;have y1:=v7.c1;have yz1:=v7.q 1;have y2:=v7.c2;have yz2:=v7.q 2;have y3:=v7.c3;have yz3:=v7.q 3;have y4:=v7.c4;have yz4:=v7.q 4;have HV7:=Lh v7;have HR7:=Lh hr7;have HO7:=Lh ho7;clear v7 hr7 ho7)
        have HSB:Hid (w.heap.size≤w4.heap.size):=Lh HO4.out.size
        have HBP:Hid (Below g w7 (put5 w7 g (.int .i64 t3.k) (.string t3.s) (.int .u64 t3.n) (.int .i64 t3.a) (.int .i64 t3.b))):=Lh (below_put5 (Mj _ _) (Mz _) _ _ _ _ _)
        have HLKN:Hid (LK d w.heap.size t3 g v' (ps++ [p]) (put5 w7 g (.int .i64 t3.k) (.string t3.s) (.int .u64 t3.n) (.int .i64 t3.a) (.int .i64 t3.b))):=Lh (HK4.out.next (Nat.le_of_eq HTV.out.g0) (fun i h1 h2=>((HBP.out.block i (by rw[←HTV.out.g0];exact h2)).trans (HO7.out.keep i (Kx h2 HTV.out.b6.size) (fun e=>by have:=HLT.out;omega))).trans (HTV.out.b6.block i h2)) (Kz HTV.out.b6.size (Kz HO7.out.size HBP.out.size)) HSB.out (HV7.out.put _ _ _ _ _))
        have HRN2:Hid (RdM (put5 w7 g (.int .i64 t3.k) (.string t3.s) (.int .u64 t3.n) (.int .i64 t3.a) (.int .i64 t3.b)) rb T3 n2):=Lh (HR7.out.keep (fun i hi=>HBP.out.block i (by have:=HTV.out.g0;have:=HSB.out;have:=HLT.out;omega)) HBP.out.size)
        have HON:Hid (OnlyO rb (fun i=>i=rb) w (put5 w7 g (.int .i64 t3.k) (.string t3.s) (.int .u64 t3.n) (.int .i64 t3.a) (.int .i64 t3.b))):=Lh (((HO4.out.past (HTV.out.b6.mono HSB.out) (Nat.le_of_lt HLT.out)).step HO7.out).past (HBP.out.mono (by have:=HTV.out.g0;have:=HSB.out;omega)) (Nat.le_of_lt HLT.out))
        have HRUN2:Hid (LRun d (t::T) n0 ((ps++ [p]).map ItV.x) (t3::T3) n2):=Lh (by have e:(ps++ [p]).map ItV.x=ps.map ItV.x++ [x]:=(by rw[List.map_append,HPX.out];rfl);rw[e];exact HRN.out)
        have HNU:Hid (n0≤n2∧n2≤300∧(ps++ [p]).length≤n2∧T3.length<T'.length∧T3.length≤T.length):=Lh (by
         have q1:=HN23.out.1;have q2:=HN23.out.2;have q3:=HN1.out;have q4:=HPL.out;have q5:=HTL3.out;have q6:=HTL.out
         rw[Jq]at q5
         refine⟨by omega,q2,by rw[Kq,List.length_singleton];omega,by omega,by omega⟩)
        have HLEN:=Lh (And.intro HR.out.len HRN2.out.len)
        go_roundw
        case rel=>exact⟨t3,T3,n2,g,ps++ [p],rfl,HLKN.out,HRN2.out,HON.out,HRUN2,HNU.out.1,HNU.out.2.1,HNU.out.2.2.1,HNU.out.2.2.2.2,HEND3.out⟩
        case measure=>exact(by have h1:=HLEN.out;have h2:=HNU.out.2.2.2.1;rw[←h1.1,←h1.2]at h2;exact h2)
      ·obtain rfl:n'=300:=by have:=HN4.out;omega
       have HBG:=Lh (begin_long d t' wr rb T' HR.out h1 hd4)
       have HBAD:=Lh (HRUN.out.long h1 hd4 (Mz _))
       unfold tkA flies at HBG
       clear h1 hn3 hd4
       go_wp2_with (go_at_call 46;(with_reducible refine(HBG.out).mono ?_);rintro e w1' ⟨rfl,ho1⟩;have HO2:=Lh (HO.out.past (ho1.mono HO.out.size) (Nat.le_of_lt HLT.out));clear ho1)
       exact⟨rfl,HO2.out,My ⟨_,_,_,HBAD.out,rfl⟩⟩
     ·have HBG:=Lh (begin_deep d t' wr rb h1 (by omega))
      have HBAD:=Lh (HRUN.out.deep h1 (by omega))
      unfold tkA flies at HBG
      clear h1 hd4
      go_wp2_with (go_at_call 46;(with_reducible refine(HBG.out).mono ?_);rintro e w1' ⟨rfl,ho1⟩;have HO2:=Lh (HO.out.past (ho1.mono HO.out.size) (Nat.le_of_lt HLT.out));clear ho1)
      exact⟨rfl,HO2.out,My ⟨_,_,_,HBAD.out,rfl⟩⟩
    ·have HBG:=Lh (begin_form d t' wr rb h1)
     have HBAD:=Lh (HRUN.out.form HNE.out h1)
     unfold tkA flies at HBG
     clear h1
     go_wp2_with (go_at_call 46;(with_reducible refine(HBG.out).mono ?_);rintro e w1' ⟨rfl,ho1⟩;have HO2:=Lh (HO.out.past (ho1.mono HO.out.size) (Nat.le_of_lt HLT.out));clear ho1)
     exact⟨rfl,HO2.out,My ⟨_,_,_,HBAD.out,rfl⟩⟩
end
section
open Go.RowKit
structure ItemMade (w:World) (B:Nat) (t0:Tk3) (W0 W1 W2 W3:World):Prop where
 b0:w.heap.size=B
 a0:w.alloc (.cells #[.int .i64 t0.k, .string t0.s, .int .u64 t0.n, .int .i64 t0.a, .int .i64 t0.b] 78)=W0
 a1:W0.alloc (.cells #[.string ⟨#[]⟩, .slice none 0 0, .bool false, .slice none 0 0, .int .i64 0, .int .i64 0] 47)=W1
 a2:W1.alloc (.cells #[.string ⟨#[]⟩, .slice none 0 0, .bool false, .slice none 0 0, .int .i64 0, .int .i64 0] 47)=W2
 s3:((((((W2.setCell ⟨B+2,0,none⟩ (.string t0.s)).setCell ⟨B+2,1,none⟩ (.slice none 0 0)).setCell ⟨B+2,2,none⟩ (.bool false)).setCell ⟨B+2,3,none⟩ (.slice none 0 0)).setCell ⟨B+2,4,none⟩ (.int .i64 t0.a)).setCell ⟨B+2,5,none⟩ (.int .i64 t0.b))=W3
 z0:W0.heap.size=B+1
 z1:W1.heap.size=B+2
 z3:W3.heap.size=B+3
 f1:Var5 W1 B (.int .i64 t0.k) (.string t0.s) (.int .u64 t0.n) (.int .i64 t0.a) (.int .i64 t0.b)
 f2:Var6 W2 (B+2) (.string ⟨#[]⟩) (.slice none 0 0) (.bool false) (.slice none 0 0) (.int .i64 0) (.int .i64 0)
 r3:Var6 W3 (B+1) (.string ⟨#[]⟩) (.slice none 0 0) (.bool false) (.slice none 0 0) (.int .i64 0) (.int .i64 0)
 i3:Var6 W3 (B+2) (.string t0.s) (.slice none 0 0) (.bool false) (.slice none 0 0) (.int .i64 t0.a) (.int .i64 t0.b)
 g3:Below w.heap.size w W3
theorem item_made (w:World) (t0:Tk3): ∃B W0 W1 W2 W3,ItemMade w B t0 W0 W1 W2 W3:=by
 obtain⟨B,hB⟩: ∃B,w.heap.size=B:=⟨_,rfl⟩
 obtain⟨W0,hW0⟩: ∃W,w.alloc (.cells #[.int .i64 t0.k, .string t0.s, .int .u64 t0.n, .int .i64 t0.a, .int .i64 t0.b] 78)=W:=⟨_,rfl⟩
 have V0:Var5 W0 B (.int .i64 t0.k) (.string t0.s) (.int .u64 t0.n) (.int .i64 t0.a) (.int .i64 t0.b):=by rw[←hW0];exact Var5.fresh _ _ _ _ _ _ _ _ hB.symm
 have g0:Below B w W0:=by rw[←hW0,←hB];exact(Mj _ _).alloc (Mz _) _
 have hs0:W0.heap.size=B+1:=by rw[←hW0];simp[hB]
 obtain⟨W1,hW1⟩: ∃W,W0.alloc (.cells #[.string ⟨#[]⟩, .slice none 0 0, .bool false, .slice none 0 0, .int .i64 0, .int .i64 0] 47)=W:=⟨_,rfl⟩
 have b1:Below W0.heap.size W0 W1:=by rw[←hW1];exact(Mj _ _).alloc (Mz _) _
 have V1:Var6 W1 (B+1) (.string ⟨#[]⟩) (.slice none 0 0) (.bool false) (.slice none 0 0) (.int .i64 0) (.int .i64 0):=by rw[←hW1];exact Var6.fresh _ _ _ _ _ _ _ _ _ hs0.symm
 have hs1:W1.heap.size=B+2:=by rw[←hW1];simp[hs0]
 obtain⟨W2,hW2⟩: ∃W,W1.alloc (.cells #[.string ⟨#[]⟩, .slice none 0 0, .bool false, .slice none 0 0, .int .i64 0, .int .i64 0] 47)=W:=⟨_,rfl⟩
 have b2:Below W1.heap.size W1 W2:=by rw[←hW2];exact(Mj _ _).alloc (Mz _) _
 have V2:Var6 W2 (B+2) (.string ⟨#[]⟩) (.slice none 0 0) (.bool false) (.slice none 0 0) (.int .i64 0) (.int .i64 0):=by rw[←hW2];exact Var6.fresh _ _ _ _ _ _ _ _ _ hs1.symm
 have hs2:W2.heap.size=B+3:=by rw[←hW2];simp[hs1]
 refine⟨B,W0,W1,W2,_,hB,hW0,hW1,hW2,rfl,hs0,hs1,?_,V0.after b1,V2,?_,V2.put _ _ _ _ _ _,?_⟩
 ·rw[←hs2];exact put6_size W2 (B+2) _ _ _ _ _ _
 ·exact(V1.after b2).stay (put6_else W2 (B+2) _ _ _ _ _ _ _ (by omega)) (Nat.le_of_eq (put6_size W2 (B+2) _ _ _ _ _ _).symm)
 ·rw[hB]
  exact below_put6 ((g0.trans (b1.mono (by omega))).trans (b2.mono (by omega))) (by omega) _ _ _ _ _ _
theorem item_step (d:Nat) (hd1:1≤d) (hd4:d≤4) (hL:ListOK (d+1)):ItemOK d:=by
 intro w rb t0 T0 n hrd hT hn
 obtain⟨t,T,rfl,hend⟩:=hT.split
 obtain⟨B,W0,W1,W2,W3,im⟩:=item_made w t0
 have HLT:Hid (rb<B):=Lh (im.b0▸hrd.lt)
 have HN:=Lh (next_any W3 rb n t T (hrd.after im.g3))
 have HO3:Hid (OnlyO rb (fun i=>i=rb) w W3):=Lh (OnlyO.of im.g3 (Nat.le_of_lt hrd.lt))
 have HE:=Lh hend
 have HL:=Lh hL
 have HD1:=Lh hd1
 have HD4:=Lh hd4
 have HN3:=Lh hn
 have HIM:=Lh im
 have hb0:=im.b0;have ha0:=im.a0;have ha1:=im.a1;have ha2:=im.a2;have hs3:=im.s3;have hz0:=im.z0;have hz1:=im.z1
 have p1:=im.f1.c1;have p3:=im.f1.c3;have p4:=im.f1.c4
 have y0:=im.f2.c0;have yq0:=im.f2.q 0;have y1:=im.f2.c1;have yq1:=im.f2.q 1;have y2:=im.f2.c2;have yq2:=im.f2.q 2;have y3:=im.f2.c3;have yq3:=im.f2.q 3;have y4:=im.f2.c4;have yq4:=im.f2.q 4;have y5:=im.f2.c5;have yq5:=im.f2.q 5
 unfold tkA at HN ⊢
 clear im hrd hT hend hL hd1 hd4 hn
 go_enter Tryz.func47,Tryz.ntmps47
 go_wp2_with (go_at_call 45;(with_reducible refine(HN.out).mono ?_);rintro e w4 ⟨rfl,hr4,ho4⟩;obtain⟨g,W5,W6,tv⟩:=tok_var w4 t;have h0:=tv.g0;have ha:=tv.a5;have hs:=tv.s6;have x0:=tv.f5.c0;have z0:=tv.f5.q 0;have x1:=tv.f5.c1;have z1:=tv.f5.q 1;have x2:=tv.f5.c2;have z2:=tv.f5.q 2;have x3:=tv.f5.c3;have z3:=tv.f5.q 3;have x4:=tv.f5.c4;have z4:=tv.f5.q 4;have HTV:=Lh tv;have HR4:=Lh hr4;have HO4:=Lh ho4;clear tv hr4 ho4)
 have HGB:Hid (B+3≤g):=Lh (by have:=HO4.out.size;have:=HTV.out.g0;have:=HIM.out.z3;omega)
 have HST:Hid (IK B { name:=t0.s,a:=t0.a,b:=t0.b } t g (.slice none 0 0) [] W6):=Lh (by
  have hlt:=HLT.out
  have b6:=HTV.out.b6
  exact⟨HTV.out.f6,(HIM.out.r3.stay (HO4.out.keep (B+1) HIM.out.r3.s (fun e=>by omega)) HO4.out.size).after b6,(HIM.out.i3.stay (HO4.out.keep (B+2) HIM.out.i3.s (fun e=>by omega)) HO4.out.size).after b6,RowK.nil _ _ _ _,HGB.out⟩)
 have HO6:Hid (OnlyO rb (fun i=>i=rb) w W6):=Lh ((HO3.out.step HO4.out).past (HTV.out.b6.mono (by have:=HO3.out.size;have:=HO4.out.size;omega)) (by have:=HLT.out;have:=HIM.out.b0;omega))
 have HR6:=Lh (HR4.out.after HTV.out.b6)
 have HWB:Hid (w.heap.size=B):=Lh hb0
 clear x0 z0 x1 z1 x2 z2 x3 z3 x4 z4 h0 ha hs ha0 ha1 ha2 hs3 hz0 hz1 p1 p3 p4 y0 yq0 y1 yq1 y2 yq2 y3 yq3 y4 yq4 y5 yq5 hb0
 go_loopw [17] (fun _ wr=> ∃(t':Tk3) (T':List Tk3) (v:Value) (ts:List Tk3),IK B { name:=t0.s,a:=t0.a,b:=t0.b } t' g v ts wr∧RdM wr rb T' n∧OnlyO rb (fun i=>i=rb) w wr∧Hid (IPart d { name:=t0.s,a:=t0.a,b:=t0.b } (t::T) { name:=t0.s,words:=ts,a:=t0.a,b:=t0.b } (t'::T'))∧ts.length≤6∧T'.length≤T.length∧(t'.k=0∧T'= []∨t'.k≠0∧TEnd T')) (fun _ wr=>lenR wr rb)
 case atStart=>exact⟨t,T, .slice none 0 0,[],HST.out,HR6.out,HO6.out,Lh (IPart.start _ _ _),Nat.zero_le _,Mz _,HE.out⟩
 case round=>
  rename_i wr
  obtain⟨t',T',v,ts,hk,hr,ho,HRUN,hts,hTl,hend⟩:=hrel
  have HK:=Lh hk
  have HR:=Lh hr
  have HO:=Lh ho
  have HEND:=Lh hend
  have HTL:=Lh hTl
  have HTS:=Lh hts
  have c0:=hk.tok.c0;have c1:=hk.tok.c1;have c2:=hk.tok.c2;have c3:=hk.tok.c3;have c4:=hk.tok.c4
  have HBW:Hid (w.heap.size≤wr.heap.size):=Lh ho.size
  have HRW:Hid (rb<w.heap.size):=Lh (by have:=HLT.out;have:=HWB.out;omega)
  clear hk hr ho hend hTl hts
  by_cases hw:1≤t'.k∧t'.k≤6
  ·have HWD:=Lh (word_yes t' wr hw.1 hw.2)
   unfold tkA at HWD
   have HTE:Hid (TEnd T'):=Lh (by rcases HEND.out with⟨e,_⟩|⟨_,e⟩;omega;exact e)
   obtain⟨t3,T3,hT3,hend3⟩:=HTE.out.split
   subst hT3
   have HEND3:=Lh hend3
   by_cases hl:ts.length=6
   ·have hlb:((ts.length:Int)==6)=true:=by simp;omega
    obtain⟨av,cv,hv⟩:=HK.out.row.size
    have HBAD:=Lh (HRUN.out.long (n:=n) hw.1 hw.2 (by show 6≤ts.length;omega))
    have HF:=Lh (fun W=>fail_any 9 t' W)
    unfold tkA flies at HF
    rw[Ky]at hv
    subst hv
    clear hw hl hend3
    go_wp2_with (first
     |(go_at_call 80;(with_reducible refine(HWD.out).mono ?_);rintro e w1 ⟨rfl,g1⟩;have HK1:=Lh (HK.out.after g1);have HO1:=Lh (HO.out.past (g1.mono HBW.out) (Nat.le_of_lt HRW.out));have d0:=HK1.out.tok.c0;have d1:=HK1.out.tok.c1;have d2:=HK1.out.tok.c2;have d3:=HK1.out.tok.c3;have d4:=HK1.out.tok.c4;have e1:=HK1.out.itm.c1;clear g1)
     |(go_at_call 79;(with_reducible refine(HF.out _).mono ?_);rintro e w2 ⟨rfl,g2⟩;have HO2:=Lh (HO1.out.past (g2.mono HO1.out.size) (Nat.le_of_lt HRW.out));clear g2))
    exact⟨rfl,HO2.out,My ⟨_,_,_,HBAD.out,rfl⟩⟩
   ·have hlb:((ts.length:Int)==6)=false:=by simp;omega
    obtain⟨av,cv,hv⟩:=HK.out.row.size
    have HWORD:=Lh (HRUN.out.word hw.1 hw.2 (by show ts.length<6;have:=HTS.out;omega))
    have HTS2:Hid (ts.length<6):=Lh (by have:=HTS.out;omega)
    rw[Ky]at hv
    subst hv
    clear hw hl hend3
    go_wp2_with (first
     |(go_at_call 80;(with_reducible refine(HWD.out).mono ?_);rintro e w1 ⟨rfl,g1⟩;have HK1:=Lh (HK.out.after g1);have HO1:=Lh (HO.out.past (g1.mono HBW.out) (Nat.le_of_lt HRW.out));have HR1:=Lh (HR.out.after g1);have d0:=HK1.out.tok.c0;have d1:=HK1.out.tok.c1;have d2:=HK1.out.tok.c2;have d3:=HK1.out.tok.c3;have d4:=HK1.out.tok.c4;have e1:=HK1.out.itm.c1;obtain⟨gg,W2,hgg,hW2,u2,b2,zz2⟩:=tok_box w1 t';have HK2:=Lh (HK1.out.after b2);have CA:Hid (∀j,j<5→W2.cell? ⟨gg,j,none⟩=some ((tkV t').getD j undef)):=Lh (tok_cells u2.c0 u2.c1 u2.c2 u2.c3 u2.c4);have HB2:=Lh b2;have HL6:Hid ((ts.map tkV).length≤1000000):=Lh (by rw[Ky];have:=HTS2.out;omega);have HSZ:Hid (g+1≤W2.heap.size):=Lh HK2.out.tok.s;have HRG:Hid (rb<g):=Lh (by have:=HLT.out;have:=HGB.out;omega);clear g1 u2 b2 zz2)
     |(at_builtin;(refine wp_rowK (T:=45) (t:=78) (sz:=5) rfl _ _ rfl Tryz.underlying45 info_tok rfl (by decide) (by decide) (g+1) _ _ rfl HK2.out.row gg (tkV t') rfl rfl CA.out (tkV_one _) HL6.out HSZ.out ?_)))
    intro v' w3 hr3 ho3 hob
    obtain⟨a3,c3',hv3⟩:=hr3.size
    obtain⟨m,hm⟩: ∃m,(ts.map tkV++ [tkV t']).length=m:=⟨_,rfl⟩
    rw[hm]at hv3
    subst hv3
    clear hm
    have HK3:=Lh (HK2.out.word hr3 ho3)
    have HITM3:Hid (Var6 w3 (B+2) _ _ _ _ _ _):=Lh (HK2.out.itm.stay (ho3.bel.block (B+2) (by have:=HGB.out;omega)) ho3.size)
    have i1:=HITM3.out.c1
    have iq:=HITM3.out.q 1
    have HO3':Hid (OnlyO rb (fun i=>i=rb) w w3):=Lh ((HO1.out.past (HB2.out.mono HO1.out.size) (Nat.le_of_lt HRW.out)).past (ho3.bel.mono (by have:=HGB.out;have:=HWB.out;omega)) (Nat.le_of_lt HRW.out))
    have HO4':=Lh (HO3'.out.past ((Mj w.heap.size w3).setCell (p:=⟨B+2,1,none⟩) (by show w.heap.size≤B+2;have:=HWB.out;omega) (.slice a3 m c3')) (Nat.le_of_lt HRW.out))
    have HR3:Hid (RdM (w3.setCell ⟨B+2,1,none⟩ (.slice a3 m c3')) rb (t3::T3) n):=Lh (((HR1.out.after HB2.out).keep (fun i hi=>ho3.bel.block i (by have:=HRG.out;omega)) ho3.size).keep (fun i hi=>sset_else _ _ _ _ _ (by have:=HLT.out;omega)) (by simp))
    have HN6:=Lh (next_any _ rb n t3 T3 HR3.out)
    unfold tkA at HN6
    clear hr3 ho3 hob hW2 hgg
    go_wp2_with (go_at_call 45;(with_reducible refine(HN6.out).mono ?_);rintro e w7 ⟨rfl,hr7,ho7⟩;have HK7:=Lh (HK3.out.only ho7 HLT.out);have HR7:=Lh hr7;have HO7:=Lh (HO4'.out.step ho7);have k0:=HK7.out.tok.c0;have kq0:=HK7.out.tok.q 0;have k1:=HK7.out.tok.c1;have kq1:=HK7.out.tok.q 1;have k2:=HK7.out.tok.c2;have kq2:=HK7.out.tok.q 2;have k3:=HK7.out.tok.c3;have kq3:=HK7.out.tok.q 3;have k4:=HK7.out.tok.c4;have kq4:=HK7.out.tok.q 4;clear hr7 ho7)
    have HKN:Hid (IK B { name:=t0.s,a:=t0.a,b:=t0.b } t3 g _ (ts++ [t']) (put5 w7 g (.int .i64 t3.k) (.string t3.s) (.int .u64 t3.n) (.int .i64 t3.a) (.int .i64 t3.b))):=Lh (HK7.out.next (t':=t3))
    have HBP:Hid (Below g w7 (put5 w7 g (.int .i64 t3.k) (.string t3.s) (.int .u64 t3.n) (.int .i64 t3.a) (.int .i64 t3.b))):=Lh (below_put5 (Mj _ _) (Mz _) _ _ _ _ _)
    have HRN2:Hid (RdM (put5 w7 g (.int .i64 t3.k) (.string t3.s) (.int .u64 t3.n) (.int .i64 t3.a) (.int .i64 t3.b)) rb T3 n):=Lh (HR7.out.keep (fun i hi=>HBP.out.block i (by have:=HRG.out;omega)) HBP.out.size)
    have HON:Hid (OnlyO rb (fun i=>i=rb) w (put5 w7 g (.int .i64 t3.k) (.string t3.s) (.int .u64 t3.n) (.int .i64 t3.a) (.int .i64 t3.b))):=Lh (HO7.out.past (HBP.out.mono (by have:=HGB.out;have:=HWB.out;omega)) (Nat.le_of_lt HRW.out))
    have HNU:Hid ((ts++ [t']).length≤6∧T3.length<(t3::T3).length∧T3.length≤T.length):=Lh (by
     have q5:=HTL.out;have q6:=HTS2.out
     rw[Jq]at q5
     exact⟨by rw[Kq,List.length_singleton];omega,by simp,by omega⟩)
    have HLEN:=Lh (And.intro HR.out.len HRN2.out.len)
    go_roundw
    case rel=>exact⟨t3,T3,_,ts++ [t'],HKN.out,HRN2.out,HON.out,Lh HWORD.out,HNU.out.1,HNU.out.2.2,HEND3.out⟩
    case measure=>exact(by have h1:=HLEN.out;have h2:=HNU.out.2.1;rw[←h1.1,←h1.2]at h2;exact h2)
  ·have HWD:=Lh (word_no t' wr (by omega))
   unfold tkA at HWD
   have HNW:Hid (t'.k<1∨6<t'.k):=Lh (by omega)
   clear hw
   by_cases h9:t'.k=9
   ·have h9b:(t'.k==9)=true:=by simpa using h9
    have HSTOP:=Lh (HRUN.out.stop (n:=n) h9)
    have HTE:Hid (TEnd T'):=Lh (by rcases HEND.out with⟨e,_⟩|⟨_,e⟩;omega;exact e)
    obtain⟨av,cv,hv⟩:=HK.out.row.size
    rw[Ky]at hv
    subst hv
    clear h9
    go_wp2_with (go_at_call 80;(with_reducible refine(HWD.out).mono ?_);rintro e w1 ⟨rfl,g1⟩;have HK1:=Lh (HK.out.after g1);have HO1:=Lh (HO.out.past (g1.mono HBW.out) (Nat.le_of_lt HRW.out));have HR1:=Lh (HR.out.after g1);have d0:=HK1.out.tok.c0;have d1:=HK1.out.tok.c1;have d2:=HK1.out.tok.c2;have d3:=HK1.out.tok.c3;have d4:=HK1.out.tok.c4;have i0:=HK1.out.itm.c0;have i1:=HK1.out.itm.c1;have i2:=HK1.out.itm.c2;have i3:=HK1.out.itm.c3;have i4:=HK1.out.itm.c4;have i5:=HK1.out.itm.c5;have r0:=HK1.out.res.c0;have rq0:=HK1.out.res.q 0;have r1:=HK1.out.res.c1;have rq1:=HK1.out.res.q 1;have r2:=HK1.out.res.c2;have rq2:=HK1.out.res.q 2;have r3:=HK1.out.res.c3;have rq3:=HK1.out.res.q 3;have r4:=HK1.out.res.c4;have rq4:=HK1.out.res.q 4;have r5:=HK1.out.res.c5;have rq5:=HK1.out.res.q 5;clear g1)
    refine bodyPost_ret (item_results (HK1.out.res.put (.string t0.s) (.slice av ts.length cv) (.bool false) (.slice none 0 0) (.int .i64 t0.a) (.int .i64 t0.b)) rfl) rfl ?_
    refine⟨HO1.out.put6 (by have:=HWB.out;omega) (Nat.le_of_lt HRW.out) _ _ _ _ _ _,Or.inr ⟨({ name:=t0.s,words:=ts,a:=t0.a,b:=t0.b } :Hd).it false [], .slice av ts.length cv, .slice none 0 0,T',n,rfl,HSTOP.out,?_,ItemsIs.none' _ _ _ _ _,?_,Mz _,HN3.out,HTE.out,Kz HTL.out (Nat.le_succ _)⟩⟩
    ·have:=HK1.out.words (F:=put6 w1 (B+1) (.string t0.s) (.slice av ts.length cv) (.bool false) (.slice none 0 0) (.int .i64 t0.a) (.int .i64 t0.b)) (fun i hi _=>put6_else _ _ _ _ _ _ _ _ _ (by have:=HGB.out;omega)) (Nat.le_of_eq (put6_size _ _ _ _ _ _ _ _).symm)
     rw[HWB.out]
     exact this
    ·exact HR1.out.keep (fun i hi=>put6_else _ _ _ _ _ _ _ _ _ (by have:=HLT.out;omega)) (Nat.le_of_eq (put6_size _ _ _ _ _ _ _ _).symm)
   ·have h9b:(t'.k==9)=false:=by simpa using h9
    by_cases h7:t'.k=7
    ·have h7b:(t'.k==7)=true:=by simpa using h7
     have HTE:Hid (TEnd T'):=Lh (by rcases HEND.out with⟨e,_⟩|⟨_,e⟩;omega;exact e)
     have HBLK:=Lh (fun n2 T2 L=>HRUN.out.block (n:=n) (n':=n2) (T':=T2) (L:=L) h7)
     have HBAD:=Lh (fun c a b=>HRUN.out.bad (n:=n) (c:=c) (a:=a) (b:=b) h7)
     obtain⟨D,hD⟩: ∃D,d+1=D:=⟨_,rfl⟩
     have hLx:=HL.out
     rw[hD]at hLx HBLK HBAD
     have HLX:=Lh hLx
     unfold ListOK at HLX
     have hi1:IntKind.i64.wrap ((d:Int)+1)=(D:Int):=by rw[IntKind.wrap_i64];have:=HD4.out;omega
     have HDD:=Lh hD
     obtain⟨av,cv,hv⟩:=HK.out.row.size
     rw[Ky]at hv
     subst hv
     clear h7 h9 hLx hD
     go_wp2_with (first
      |(go_at_call 80;(with_reducible refine(HWD.out).mono ?_);rintro e w1 ⟨rfl,g1⟩;have HK1:=Lh (HK.out.after g1);have HO1:=Lh (HO.out.past (g1.mono HBW.out) (Nat.le_of_lt HRW.out));have HR1:=Lh (HR.out.after g1);have d0:=HK1.out.tok.c0;have d1:=HK1.out.tok.c1;have d2:=HK1.out.tok.c2;have d3:=HK1.out.tok.c3;have d4:=HK1.out.tok.c4;have i2:=HK1.out.itm.c2;have iq2:=HK1.out.itm.q 2;obtain⟨W2,hW2⟩: ∃W,w1.setCell ⟨B+2,2,none⟩ (.bool true)=W:=⟨_,rfl⟩;have HSET:Hid (w1.setCell ⟨B+2,2,none⟩ (.bool true)=W2):=Lh hW2;have HR2:Hid (RdM W2 rb T' n):=Lh (by rw[←HSET.out];exact HR1.out.keep (fun i hi=>sset_else _ _ _ _ _ (by have:=HLT.out;omega)) (by simp));clear g1)
      |(go_at_call 29;(with_reducible refine(HLX.out W2 rb T' n HR2.out HTE.out HN3.out).mono ?_)))
     intro e w2 hi
     obtain⟨ho2,hi⟩:=hi
     have HO2:Hid (OnlyO rb (fun i=>i=rb) w W2):=Lh (by rw[←HSET.out];exact HO1.out.past ((Mj w.heap.size w1).setCell (p:=⟨B+2,2,none⟩) (by show w.heap.size≤B+2;have:=HWB.out;omega) (.bool true)) (Nat.le_of_lt HRW.out))
     rcases hi with⟨c,a,b,hbad,rfl⟩|⟨L,v2,T2,n2,rfl,hdone,hit,hr2,hn2,hn23,hte2,htl2⟩
     ·unfold flies
      go_wp2
      exact⟨rfl,HO2.out.step ho2,My ⟨c,a,b,HBAD.out c a b hbad,rfl⟩⟩
     ·obtain⟨ak,ck,hv2⟩:=hit.size
      subst hv2
      have HIT:=Lh hit
      have HO3:=Lh (HO2.out.step ho2)
      have HZ2:Hid (B+3≤W2.heap.size):=Lh (by have:=HK1.out.itm.s;rw[←HSET.out];simp;omega)
      have HI2:Hid (Var6 w2 (B+2) (.string t0.s) (.slice av ts.length cv) (.bool true) (.slice none 0 0) (.int .i64 t0.a) (.int .i64 t0.b)):=Lh ((by rw[←HSET.out];exact HK1.out.itm.set2 _:Var6 W2 (B+2) (.string t0.s) (.slice av ts.length cv) (.bool true) (.slice none 0 0) (.int .i64 t0.a) (.int .i64 t0.b)).stay (ho2.keep (B+2) (by have:=HZ2.out;omega) (fun e=>by have:=HLT.out;omega)) ho2.size)
      have HS2:Hid (Var6 w2 (B+1) (.string ⟨#[]⟩) (.slice none 0 0) (.bool false) (.slice none 0 0) (.int .i64 0) (.int .i64 0)):=Lh ((by rw[←HSET.out];exact HK1.out.res.stay (sset_else _ _ _ _ _ (by omega)) (by simp):Var6 W2 (B+1) (.string ⟨#[]⟩) (.slice none 0 0) (.bool false) (.slice none 0 0) (.int .i64 0) (.int .i64 0)).stay (ho2.keep (B+1) (by have:=HZ2.out;omega) (fun e=>by have:=HLT.out;omega)) ho2.size)
      obtain⟨W3x,hW3⟩: ∃W,w2.setCell ⟨B+2,3,none⟩ (.slice ak L.length ck)=W:=⟨_,rfl⟩
      have HI3:Hid (Var6 W3x (B+2) (.string t0.s) (.slice av ts.length cv) (.bool true) (.slice ak L.length ck) (.int .i64 t0.a) (.int .i64 t0.b)):=Lh (by rw[←hW3];exact HI2.out.set3 _)
      have HS3:Hid (Var6 W3x (B+1) (.string ⟨#[]⟩) (.slice none 0 0) (.bool false) (.slice none 0 0) (.int .i64 0) (.int .i64 0)):=Lh (by rw[←hW3];exact HS2.out.stay (sset_else _ _ _ _ _ (by omega)) (by simp))
      have HSET3:Hid (w2.setCell ⟨B+2,3,none⟩ (.slice ak L.length ck)=W3x):=Lh hW3
      have HO3x:Hid (OnlyO rb (fun i=>i=rb) w W3x):=Lh (by rw[←hW3];exact HO3.out.past ((Mj w.heap.size w2).setCell (p:=⟨B+2,3,none⟩) (by show w.heap.size≤B+2;have:=HWB.out;omega) (.slice ak L.length ck)) (Nat.le_of_lt HRW.out))
      have HRUN2:=Lh (HBLK.out n2 T2 L hdone)
      have HR3:=Lh hr2
      have HNN:=Lh (And.intro hn2 hn23)
      have HTE2:Hid (TEnd T2):=Lh (hte2 (by have:=HDD.out;have:=HD1.out;omega))
      have HTL2:=Lh htl2
      have HO2':=Lh ho2
      have i3:=HI2.out.c3;have iq3:=HI2.out.q 3
      have j0:=HI3.out.c0;have j1:=HI3.out.c1;have j2:=HI3.out.c2;have j3:=HI3.out.c3;have j4:=HI3.out.c4;have j5:=HI3.out.c5
      have r0:=HS3.out.c0;have rq0:=HS3.out.q 0;have r1:=HS3.out.c1;have rq1:=HS3.out.q 1;have r2:=HS3.out.c2;have rq2:=HS3.out.q 2;have r3:=HS3.out.c3;have rq3:=HS3.out.q 3;have r4:=HS3.out.c4;have rq4:=HS3.out.q 4;have r5:=HS3.out.c5;have rq5:=HS3.out.q 5
      clear hit ho2 hdone hr2 hn2 hn23 hte2 htl2 i2 iq2 hW2
      go_wp2
      refine bodyPost_ret (item_results (HS3.out.put (.string t0.s) (.slice av ts.length cv) (.bool true) (.slice ak L.length ck) (.int .i64 t0.a) (.int .i64 t0.b)) rfl) rfl ?_
      have hkeep: ∀i,B+3≤i→i<w2.heap.size→(put6 W3x (B+1) (.string t0.s) (.slice av ts.length cv) (.bool true) (.slice ak L.length ck) (.int .i64 t0.a) (.int .i64 t0.b)).heap[i]?=w2.heap[i]?:=fun i hi _=>(put6_else _ _ _ _ _ _ _ _ _ (by omega)).trans (by rw[←HSET3.out];exact sset_else _ _ _ _ _ (by omega))
      have hsz:(put6 W3x (B+1) (.string t0.s) (.slice av ts.length cv) (.bool true) (.slice ak L.length ck) (.int .i64 t0.a) (.int .i64 t0.b)).heap.size=w2.heap.size:=by rw[put6_size,←HSET3.out];simp
      refine⟨HO3x.out.put6 (by have:=HWB.out;omega) (Nat.le_of_lt HRW.out) _ _ _ _ _ _,Or.inr ⟨({ name:=t0.s,words:=ts,a:=t0.a,b:=t0.b } :Hd).it true L, .slice av ts.length cv, .slice ak L.length ck,T2,n2,rfl,HRUN2.out,?_,?_,?_,HNN.out.1,HNN.out.2,HTE2.out,?_⟩⟩
      ·have h1:w1.heap.size≤W2.heap.size:=by rw[←HSET.out];simp
       have:=HK1.out.words (F:=put6 W3x (B+1) (.string t0.s) (.slice av ts.length cv) (.bool true) (.slice ak L.length ck) (.int .i64 t0.a) (.int .i64 t0.b)) (fun i hi hlt=>(hkeep i (by have:=HGB.out;omega) (Kx hlt (Kz h1 HO2'.out.size))).trans ((HO2'.out.keep i (Kx hlt h1) (fun e=>by have:=HLT.out;have:=HGB.out;omega)).trans (by rw[←HSET.out];exact sset_else _ _ _ _ _ (by have:=HGB.out;omega)))) (by rw[hsz];exact Kz h1 HO2'.out.size)
       rw[HWB.out]
       exact this
      ·have e5:6-D=5-d:=by have:=HDD.out;omega
       have:=HIT.out
       rw[e5]at this
       refine ItemsIs.keep this (fun b hb=>⟨?_,?_⟩) (fun b hb=>hkeep b (by have:=HZ2.out;omega) hb.2)
       ·have:=HZ2.out;have:=HWB.out;omega
       ·show b<(put6 W3x (B+1) (.string t0.s) (.slice av ts.length cv) (.bool true) (.slice ak L.length ck) (.int .i64 t0.a) (.int .i64 t0.b)).heap.size
        rw[hsz];exact hb.2
      ·exact HR3.out.keep (fun i hi=>(put6_else _ _ _ _ _ _ _ _ _ (by have:=HLT.out;omega)).trans (by rw[←HSET3.out];exact sset_else _ _ _ _ _ (by have:=HLT.out;omega))) (Nat.le_of_eq hsz.symm)
      ·have:=HTL2.out;have:=HTL.out
       simp only[Jq];omega
    ·have h7b:(t'.k==7)=false:=by simpa using h7
     have HBAD:=Lh (HRUN.out.form (n:=n) HNW.out h9 h7)
     have HF:=Lh (fun W=>fail_any 6 t' W)
     unfold tkA flies at HF
     clear h9 h7
     go_wp2_with (first
      |(go_at_call 80;(with_reducible refine(HWD.out).mono ?_);rintro e w1 ⟨rfl,g1⟩;have HK1:=Lh (HK.out.after g1);have HO1:=Lh (HO.out.past (g1.mono HBW.out) (Nat.le_of_lt HRW.out));have d0:=HK1.out.tok.c0;have d1:=HK1.out.tok.c1;have d2:=HK1.out.tok.c2;have d3:=HK1.out.tok.c3;have d4:=HK1.out.tok.c4;have e1:=HK1.out.itm.c1;clear g1)
      |(go_at_call 79;(with_reducible refine(HF.out _).mono ?_);rintro e w2 ⟨rfl,g2⟩;have HO2:=Lh (HO1.out.past (g2.mono HO1.out.size) (Nat.le_of_lt HRW.out));clear g2))
     exact⟨rfl,HO2.out,My ⟨_,_,_,HBAD.out,rfl⟩⟩
end
end Go.Proofs.YtalcagmhdppdjaaGreatDoor
