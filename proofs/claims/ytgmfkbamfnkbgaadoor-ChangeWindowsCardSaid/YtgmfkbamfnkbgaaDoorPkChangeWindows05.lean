/-
  Package change: the first of a list of goals: walked.
-/
import Derived.Test.YtgmfkbamfnkbgaaDoorPkChangeWindows03
import Derived.Sort.OwnSortedInts
set_option maxRecDepth 100000
set_option maxHeartbeats 8000000
namespace Go.Proofs.YtgmfkbamfnkbgaaDoor
open Lib renaming hid→Lh
open Nat renaming zero_add→Ly,le_refl→Mz
open Go.RowKit.Below renaming refl→Mj
open List renaming getElem?_eq_getElem→Kh,take_succ_cons→Kj,length_map→Ky,take_zero→Jh,drop_succ_cons→Jj,drop_zero→Jk
section
open Go.ChangeShapes Go.WideShapes Go.ChangeAt Go.RowKit Go.Joins Go.Deep
section
variable {H:Type} {enc:TypeId×Value→H} {W:World} {base:Nat} {spare:Nat→Bool} {held:Bool}
theorem slice_trod {α:Type} [Inhabited α] {R:α→List Value→Prop} {tS t:TypeId} {sz:Nat} (hS:Tryd.prog.underlying tS=some (.slice t)) (hsz:Tryd.prog.cellsOf t=sz) (h0:0<sz)
  (hEl: ∀(n:Nat) (cs:List Value) (y:DataW H×List MemPlace),cs.length=sz→DataW.trod enc Tryd.prog W base spare held n t cs=some y→∃x,R x cs) {fuel:Nat} {v:Value} {x:DataW H×List MemPlace} (h:DataW.trod enc Tryd.prog W base spare held fuel tS [v]=some x):
  ∃(us:List (List Value)) (l:List α),InK sz W v us∧us.length=l.length∧∀(i:Nat) u x,us[i]?=some u→l[i]?=some x→R x u:=by
 rcases DataW.trod_slice hS h with⟨hcs,_⟩|⟨a,len,cap,elems,rest,n,rfl,hcs,_,_,hl,_,hlen,hel,_⟩
 ·simp only[List.cons.injEq,and_true]at hcs
  subst hcs
  exact⟨[],[],⟨none,0,rfl,Mz _,fun i u hu=>by cases hu⟩,rfl,fun i u x hu=>by cases hu⟩
 ·simp only[List.cons.injEq,and_true]at hcs
  subst hcs
  have hx: ∀i,i<len→∃q:List Value×α,(∀j y,q.1[j]?=some y→W.cell? ((a.add (i*sz)).add j)=some y)∧(∃y,W.cell? (a.add (i*sz))=some y)∧R q.2 q.1:=fun i hi=>by
   have h1:=hel i hi
   rw[Kh (by omega)]at h1
   obtain⟨cs',h1,h2⟩:=Option.bind_eq_some_iff.mp h1
   rw[hsz]at h1
   obtain⟨_,hlen6,hc⟩:=World.cells?_some h1
   obtain⟨z,hz⟩:=hEl n cs' _ hlen6 h2
   refine⟨(cs',z),fun j y hj=>?_,?_,hz⟩
   ·have hj2:j<cs'.length:=(List.getElem?_eq_some_iff.1 hj).1
    rw[hc j (by omega)]
    exact hj
   ·have c0:=hc 0 h0
    rw[add_none5,Kh (by omega)]at c0
    exact⟨_,c0⟩
  obtain⟨q,hq⟩:=choose_lt hx
  have hget: ∀ {β:Type} (f:Nat→β) (i:Nat) (y:β),((List.range len).map f)[i]?=some y→i<len∧y=f i:=fun f i y h=>by
   rw[List.getElem?_map]at h
   by_cases hi:i<len
   ·rw[List.getElem?_range hi]at h
    injection h with h
    exact⟨hi,h.symm⟩
   ·rw[List.getElem?_eq_none (by simp;omega)]at h
    cases h
  refine⟨(List.range len).map fun i=>(q i).1,(List.range len).map fun i=>(q i).2,⟨some a,cap,by simp,by simpa using hl,fun i u hu=>?_⟩,by simp,fun i u x hu hx=>?_⟩
  ·obtain⟨hi,rfl⟩:=hget _ i u hu
   obtain⟨h1,⟨y,hy⟩,_⟩:=hq i hi
   obtain⟨_,⟨y0,hy0⟩,_⟩:=hq 0 (by omega)
   obtain⟨b,off,spot⟩:=a
   have hspot:spot=none:=by simpa [Addr.add] using World.cell?_spot hy0
   subst hspot
   rw[add_plain5]at hy
   refine⟨b,off,rfl,World.block_lt_of_cell? _ _ hy,fun j y hj=>?_⟩
   have:=h1 j y hj
   rw[add_plain5,add_plain5]at this
   exact this
  ·obtain⟨hi,rfl⟩:=hget _ i u hu
   obtain⟨_,rfl⟩:=hget _ i x hx
   exact(hq i hi).2.2
theorem rows_eq {α:Type} {f:α→List Value} : ∀ {us:List (List Value)} {l:List α},us.length=l.length→(∀(i:Nat) u x,us[i]?=some u→l[i]?=some x→u=f x)→us=l.map f
 | [],[],_,_=>rfl
 |u::us,x::l,h,hi=>by
  rw[List.map_cons,hi 0 u x rfl rfl,rows_eq (us:=us) (l:=l) (by simpa using h) (fun i u x hu hx=>hi (i+1) u x (by simpa using hu) (by simpa using hx))]
 | [],_::_,h,_=>by cases h
 |_::_,[],h,_=>by cases h
theorem cells_one_i64:Tryd.prog.cellsOf 2=1:=by kernel_rfl
theorem cells_one_u32:Tryd.prog.cellsOf 40=1:=by kernel_rfl
theorem cells_one_boo:Tryd.prog.cellsOf 4=1:=by kernel_rfl
theorem cells_one_labs:Tryd.prog.cellsOf 41=1:=by kernel_rfl
theorem cells_one_ruls:Tryd.prog.cellsOf 42=1:=by kernel_rfl
theorem cells_label:Tryd.prog.cellsOf 65=2:=by kernel_rfl
theorem cells_rule:Tryd.prog.cellsOf 52=7:=by kernel_rfl
theorem cells_goal:Tryd.prog.cellsOf 44=8:=by kernel_rfl
theorem field_trod {t:TypeId} {fs:Array Field} {fuel:Nat} {cs:List Value} {x:DataW H×List MemPlace} (ht:Tryd.prog.underlying t=some (.struct fs)) (h:DataW.trod enc Tryd.prog W base spare held fuel t cs=some x) (i:Nat) (f:Field) (hi:fs[i]?=some f):
  ∃n y,DataW.trod enc Tryd.prog W base spare held n f.type ((cs.drop f.offset).take (Tryd.prog.cellsOf f.type))=some y:=by
 obtain⟨xs,n,_,_,_,hlen,hf⟩:=DataW.trod_struct ht h
 have h1:=hf i f hi
 have h2:i<fs.size:=(Array.getElem?_eq_some_iff.1 hi).1
 rw[Kh (by omega)]at h1
 exact⟨n,_,h1⟩
theorem int_one {k:IntKind} {t:TypeId} {n:Nat} {v:Value} {y:DataW H×List MemPlace} (ht:Tryd.prog.underlying t=some (.int k)) (h:DataW.trod enc Tryd.prog W base spare held n t [v]=some y): ∃z:Int,v= .int k z∧(Lit.int k z).wf=true:=by
 obtain⟨z,e,_,w⟩:=DataW.trod_int ht h
 simp only[List.cons.injEq,and_true]at e
 exact⟨z,e,w⟩
theorem str_one {n:Nat} {v:Value} {y:DataW H×List MemPlace} (h:DataW.trod enc Tryd.prog W base spare held n 9 [v]=some y): ∃z:ByteArray,v= .string z:=by
 obtain⟨z,e,_,w⟩:=DataW.trod_string Tryd.underlying9 h
 simp only[List.cons.injEq,and_true]at e
 exact⟨z,e⟩
theorem label_trod {n:Nat} {cs:List Value} {y:DataW H×List MemPlace} (hl:cs.length=2) (h:DataW.trod enc Tryd.prog W base spare held n 65 cs=some y): ∃x:ByteArray×ByteArray,cs=labV x:=by
 match cs,hl with
 | [c0,c1],_=>
  obtain⟨_,_,h0⟩:=field_trod Tryd.underlying65 h 0 _ rfl
  obtain⟨_,_,h1⟩:=field_trod Tryd.underlying65 h 1 _ rfl
  simp only[cells_one_str,List.getElem_toArray,List.getElem_cons_zero,List.getElem_cons_succ,Jk,Kj,Jh,Jj]at h0 h1
  obtain⟨s,rfl⟩:=str_one h0
  obtain⟨t,rfl⟩:=str_one h1
  exact⟨(s,t),rfl⟩
theorem rule_trod {n:Nat} {cs:List Value} {y:DataW H×List MemPlace} (hl:cs.length=7) (h:DataW.trod enc Tryd.prog W base spare held n 52 cs=some y): ∃x:RlC,cs=rulV x:=by
 match cs,hl with
 | [c0,c1,c2,c3,c4,c5,c6],_=>
  obtain⟨_,_,h0⟩:=field_trod Tryd.underlying52 h 0 _ rfl
  obtain⟨_,_,h1⟩:=field_trod Tryd.underlying52 h 1 _ rfl
  obtain⟨_,_,h2⟩:=field_trod Tryd.underlying52 h 2 _ rfl
  obtain⟨_,_,h3⟩:=field_trod Tryd.underlying52 h 3 _ rfl
  obtain⟨_,_,h4⟩:=field_trod Tryd.underlying52 h 4 _ rfl
  obtain⟨_,_,h5⟩:=field_trod Tryd.underlying52 h 5 _ rfl
  obtain⟨_,_,h6⟩:=field_trod Tryd.underlying52 h 6 _ rfl
  simp only[cells_one_str,cells_one_boo,cells_one_i64,cells_one_u64,List.getElem_toArray,List.getElem_cons_zero,List.getElem_cons_succ,Jk,Kj,Jh,Jj]at h0 h1 h2 h3 h4 h5 h6
  obtain⟨s,rfl⟩:=str_one h0
  obtain⟨b,hb,_⟩:=DataW.trod_bool Tryd.underlying4 h1
  simp only[List.cons.injEq,and_true]at hb
  subst hb
  obtain⟨z2,rfl,_⟩:=int_one Tryd.underlying2 h2
  obtain⟨z3,rfl,_⟩:=int_one Tryd.underlying2 h3
  obtain⟨z4,rfl,_⟩:=int_one Tryd.underlying50 h4
  obtain⟨z5,rfl,_⟩:=int_one Tryd.underlying2 h5
  obtain⟨z6,rfl,_⟩:=int_one Tryd.underlying2 h6
  exact⟨⟨s,b,z2,z3,z4,z5,z6⟩,rfl⟩
instance:Inhabited RlC:=⟨⟨⟨#[]⟩,false,0,0,0,0,0⟩⟩
instance:Inhabited GlC:=⟨⟨⟨#[]⟩,0,0,0,0,0,[],[]⟩⟩
theorem goal_trod {n:Nat} {cs:List Value} {y:DataW H×List MemPlace} (hl:cs.length=8) (h:DataW.trod enc Tryd.prog W base spare held n 44 cs=some y): ∃x:GlC,GolI W cs x:=by
 match cs,hl with
 | [c0,c1,c2,c3,c4,c5,c6,c7],_=>
  obtain⟨_,_,h0⟩:=field_trod Tryd.underlying44 h 0 _ rfl
  obtain⟨_,_,h1⟩:=field_trod Tryd.underlying44 h 1 _ rfl
  obtain⟨_,_,h2⟩:=field_trod Tryd.underlying44 h 2 _ rfl
  obtain⟨_,_,h3⟩:=field_trod Tryd.underlying44 h 3 _ rfl
  obtain⟨_,_,h4⟩:=field_trod Tryd.underlying44 h 4 _ rfl
  obtain⟨_,_,h5⟩:=field_trod Tryd.underlying44 h 5 _ rfl
  obtain⟨_,_,h6⟩:=field_trod Tryd.underlying44 h 6 _ rfl
  obtain⟨_,_,h7⟩:=field_trod Tryd.underlying44 h 7 _ rfl
  simp only[cells_one_str,cells_one_int,cells_one_i64,cells_one_u32,cells_one_labs,cells_one_ruls,List.getElem_toArray,List.getElem_cons_zero,List.getElem_cons_succ,Jk,Kj,Jh,Jj]at h0 h1 h2 h3 h4 h5 h6 h7
  obtain⟨s,rfl⟩:=str_one h0
  obtain⟨z1,rfl,_⟩:=int_one Tryd.underlying40 h1
  obtain⟨z2,rfl,_⟩:=int_one Tryd.underlying2 h2
  obtain⟨z3,rfl,_⟩:=int_one Tryd.underlying2 h3
  obtain⟨z4,rfl,_⟩:=int_one Tryd.underlying2 h4
  obtain⟨z5,rfl,_⟩:=int_one Tryd.underlying3 h5
  obtain⟨us,l,i1,i2,i3⟩:=slice_trod (R:=fun x cs=>cs=labV x) Tryd.underlying41 cells_label (by decide) (fun n cs y hl h=>label_trod hl h) h6
  obtain⟨us',l',j1,j2,j3⟩:=slice_trod (R:=fun x cs=>cs=rulV x) Tryd.underlying42 cells_rule (by decide) (fun n cs y hl h=>rule_trod hl h) h7
  rw[rows_eq i2 i3]at i1
  rw[rows_eq j2 j3]at j1
  exact⟨⟨s,z1,z2,z3,z4,z5,l,l'⟩,_,_,rfl,i1,j1⟩
end
theorem open_goal {H:Type} {enc:TypeId×Value→H} {W:World} {base:Nat} {held:Bool} {r:Reach} {b0:Nat} {v:Value} {d:DataW H} {p:List MemPlace}
  (hv:Value.okWide Tryd.prog W r b0 44 v) (h:DataW.Trod enc Tryd.prog W base (fun _=>true) held 44 v d p): ∃x:GlC,(∃u,v= .agg u.toArray∧GolI W u x)∧True:=by
 obtain⟨cs,rfl,hsz⟩:=okWide_struct Tryd.underlying44 hv
 obtain⟨fuel,hf⟩:=h
 obtain⟨x,hx⟩:=goal_trod (cs:=cs.toList) (by have:=hsz.trans cells_goal;simpa using this) hf
 exact⟨x,⟨cs.toList,by simp,hx⟩,trivial⟩
end
section
open Go.RowKit Go.Lib Go.Sort
def numL (x:Int):List Value:= [.int .i64 x]
theorem num_flat (l:List Int):(l.map numL).flatten=l.map (Value.int .i64):=by
 induction l with
 |nil=>rfl
 |cons x l ih=>rw[List.map_cons,List.flatten_cons,ih];rfl
theorem num_wid (l:List Int): ∀u∈l.map numL,u.length=1:=fun u hu=>by
 obtain⟨x,_,rfl⟩:=List.mem_map.mp hu
 rfl
theorem num_one (l:List Int): ∀u∈l.map numL,∀y∈u,y.oneCell'=true:=fun u hu y hy=>by
 obtain⟨x,_,rfl⟩:=List.mem_map.mp hu
 rw[List.mem_singleton.mp hy]
 rfl
theorem num_form {t:TypeId} {w:World} {base:Nat} {v:Value} {l:List Int} (h:RowK t 1 w base v (l.map numL)):
  (v= .slice none 0 0∧l= [])∨∃g cap cur,v= .slice (some ⟨g,0,none⟩) l.length cap∧base≤g∧g<w.heap.size∧w.heap[g]?=some (.cells cur t (0,0))∧l.length≤cap∧cap≤maxLen∧cur.size=cap*1∧cur.toList.take l.length=l.map (Value.int .i64):=by
 have ho:=h.own
 rw[num_flat,Ky]at ho
 rcases ho.2 with⟨e,h0⟩|⟨g,cap,cur,e,hb,hg,hn,hc,hs,ht⟩
 ·exact Or.inl ⟨e,List.eq_nil_of_length_eq_zero h0⟩
 ·rw[Nat.mul_one]at ht
  exact Or.inr ⟨g,cap,cur,e,hb,(Array.getElem?_eq_some_iff.1 hg).1,hg,hn,hc,hs,ht⟩
theorem num_row {t:TypeId} {w:World} {base:Nat} {v:Value} {l:List Int} (h:w.ownsRow base t 1 v l.length (l.map (Value.int .i64))):RowK t 1 w base v (l.map numL):=
 ⟨by rw[num_flat,Ky];exact h,num_wid l,num_one l⟩
theorem num_cells {t:TypeId} {w:World} {base g n cap:Nat} {l:List Int} (h:RowK t 1 w base (.slice (some ⟨g,0,none⟩) n cap) (l.map numL)): ∀j,j<l.length→w.cell? ⟨g,j,none⟩=some (.int .i64 (l.getD j 0)):=fun j hj=>by
 have:=h.at j 0 (by rw[Ky];exact hj) (by decide)
 rw[Nat.mul_one]at this
 rw[show(⟨g,j,none⟩:Addr)=⟨g,j+0,none⟩ from rfl,this]
 simp[List.getD_eq_getElem?_getD,hj,numL]
theorem sort_row {t:TypeId} (base:Nat) (v:Value) (zs:List Int) (w:World) (h:RowK t 1 w base v (zs.map numL)) (hl:zs.length≤1000000) (hb:base≤w.heap.size):
  Calls Tryd.prog 29 #[v] w fun e w'=>e= .returned (.tuple #[])∧RowK t 1 w' base v ((zs.mergeSort fun x y=>decide (x≤y)).map numL)∧Below base w w':=by
 rcases num_form h with⟨rfl,rfl⟩|⟨g,cap,cur,rfl,h1,h2,hg,hn,hc,hs,ht⟩
 ·refine(Tryd.slices_Sort_int_none none 0 w).mono ?_
  rintro e w' ⟨rfl,rfl⟩
  exact⟨rfl,by simpa using RowK.nil t 1 _ base,Mj _ _⟩
 ·refine(Tryd.slices_Sort_int g 0 cap zs w (holds_of_blockI hg ht) h2 (by omega)).mono ?_
  rintro e w' ⟨rfl,n,os,rfl⟩
  have hlen:(zs.mergeSort fun x y=>decide (x≤y)).length=zs.length:=List.length_mergeSort _
  refine⟨rfl,?_,(Mj base w).grown (grownBy_sortedI _) hb (fun k e=>by injection e with e;omega)⟩
  refine num_row ?_
  have:=ownsRow_sortedI (n:=n) (os:=os) (ss:=zs) hlen h1 hg hn hc hs
  rw[hlen]
  exact this
theorem compact_row {t:TypeId} (base:Nat) (v:Value) (zs:List Int) (w:World) (h:RowK t 1 w base v (zs.map numL)) (hl:zs.length≤1000000) (hb:base≤w.heap.size):
  Calls Tryd.prog 30 #[v] w fun e w'=> ∃v',e= .returned v'∧RowK t 1 w' base v' ((compact zs).map numL)∧Below base w w':=by
 rcases num_form h with⟨rfl,rfl⟩|⟨g,cap,cur,rfl,h1,h2,hg,hn,hc,hs,ht⟩
 ·refine(Tryd.slices_Compact_int_empty none 0 w).mono ?_
  rintro e w' ⟨rfl,rfl⟩
  exact⟨_,rfl,RowK.nil t 1 _ base,Mj _ _⟩
 ·refine(Tryd.slices_Compact_int g 0 cap zs w (holds_of_blockI hg ht) (by omega) hn).mono ?_
  rintro e w' ⟨rfl,q,rfl⟩
  have hcl:=compact_len zs
  obtain⟨ts,hts⟩: ∃ts,compact zs++List.replicate (zs.length-(compact zs).length) 0=ts:=⟨_,rfl⟩
  have hlen:ts.length=zs.length:=by rw[←hts,List.length_append,List.length_replicate];omega
  have hw: ∀W,W=grow (putRow (Value.int .i64) (Sort.ahead w q) g 0 ts.toArray) #[]→W=putRow (Value.int .i64) (Sort.ahead w q) g 0 ts.toArray:=fun W e=>by rw[e,grow_empty]
  rw[hts]
  have hr:=ownsRow_sortedI (n:=q) (os:= #[]) (ss:=zs) (ts:=ts) hlen h1 hg hn hc hs
  have hgb:=grownBy_sortedI (w:=w) (g:=g) (n:=q) (os:= #[]) ts.toArray
  rw[grow_empty]at hr hgb
  refine⟨_,rfl,?_,(Mj base w).grown hgb hb (fun k e=>by injection e with e;omega)⟩
  rw[←hlen]at hr
  have hr2:=(num_row hr).take (compact zs).length (by rw[Ky];omega)
  have e:(ts.map numL).take (compact zs).length=(compact zs).map numL:=by rw[←List.map_take,←hts,List.take_left]
  rw[e]at hr2
  exact hr2
theorem equal_nil (g n cap c:Nat) (w:World) (hn: ¬n=0):Calls Tryd.prog 62 #[.slice (some ⟨g,0,none⟩) n cap, .slice none 0 c] w fun e w'=>e= .returned (.bool false)∧Below w.heap.size w w':=by
 have h: ¬(n:Int)=0:=by omega
 go_enter Tryd.func62,Tryd.ntmps62
 go_wp2
 go_ret
 exact⟨rfl,Mj _ _⟩
theorem equal_row {t t2:TypeId} (base base2:Nat) (v v2:Value) (l l2:List Int) (w:World) (h:RowK t 1 w base v (l.map numL)) (h2:RowK t2 1 w base2 v2 (l2.map numL)) (hl:l.length≤1000000) (hl2:l2.length≤1000000):
  Calls Tryd.prog 62 #[v,v2] w fun e w'=>e= .returned (.bool (decide (l=l2)))∧Below w.heap.size w w':=by
 have e0: ∀ {v:Value} {l:List Int} {t:TypeId} {base:Nat},RowK t 1 w base v (l.map numL)→l= []→∃a c,v= .slice a 0 c:=fun h e=>by
  obtain⟨a,c,e2⟩:=h.size
  subst e
  exact⟨a,c,e2⟩
 by_cases hz:l= []
 ·obtain⟨a,c,rfl⟩:=e0 h hz
  obtain⟨a2,c2,rfl⟩:=h2.size
  rw[Ky]
  refine(Tryd.slices_Equal_int_empty a a2 c l2.length c2 w (by omega)).mono ?_
  rintro e w' ⟨rfl,rfl⟩
  refine⟨?_,Mj _ _⟩
  subst hz
  congr 2
  exact decide_eq_decide.mpr ⟨fun e=>(List.eq_nil_of_length_eq_zero e).symm,fun e=>by rw[←e];rfl⟩
 ·obtain⟨g,cap,cur,rfl,_,h1,_⟩:=(num_form h).resolve_left (fun e=>hz e.2)
  have hc:=num_cells h
  by_cases hz2:l2= []
  ·obtain⟨a,c,rfl⟩:=e0 h2 hz2
   subst hz2
   have hm:=h2
   rcases a with _|⟨b,o,s⟩
   ·rw[decide_eq_false hz]
    have hn: ¬l.length=0:=fun e=>hz (List.eq_nil_of_length_eq_zero e)
    have:=equal_nil g l.length cap c w hn
    exact this
   ·rcases h2.own.2 with⟨e,_⟩|⟨g2,cap2,cur2,e,_⟩
    ·cases e
    ·simp only[Value.slice.injEq,Option.some.injEq,Addr.mk.injEq]at e
     obtain⟨⟨rfl,rfl,rfl⟩,_,rfl⟩:=e
     refine(Tryd.slices_Equal_int g 0 l.length cap b 0 0 c l [] w (Mz _) (Mz _) (by omega) (by omega) (fun j hj=>by rw[Ly];exact hc j hj) (fun j hj=>by cases hj)).mono ?_
     rintro e w' ⟨rfl,q,rfl⟩
     refine⟨?_,rfl,rfl,rfl,Mz _,fun _ _=>rfl⟩
     rw[List.take_length,Jh]
     congr 2
     exact(Bool.beq_eq_decide_eq ..)
  ·obtain⟨g2,cap2,cur2,rfl,_,h12,_⟩:=(num_form h2).resolve_left (fun e=>hz2 e.2)
   have hc2:=num_cells h2
   refine(Tryd.slices_Equal_int g 0 l.length cap g2 0 l2.length cap2 l l2 w (Mz _) (Mz _) (by omega) (by omega) (fun j hj=>by rw[Ly];exact hc j hj) (fun j hj=>by rw[Ly];exact hc2 j hj)).mono ?_
   rintro e w' ⟨rfl,q,rfl⟩
   refine⟨?_,rfl,rfl,rfl,Mz _,fun _ _=>rfl⟩
   rw[List.take_length,List.take_length]
   congr 2
   exact(Bool.beq_eq_decide_eq ..)
end
section
open Go.RowKit
def goalQc (s:ByteArray) (u:List Value):Prop:= ∃(y1 y2 y3 y4 y5:Int) (yp:Option Addr) (yq yr:Nat) (ys:Option Addr) (yt yu:Nat),u= [.string s, .int .u32 y1, .int .i64 y2, .int .i64 y3, .int .i64 y4, .int .i64 y5, .slice yp yq yr, .slice ys yt yu]
theorem goal_clo (s t:ByteArray) (y1 y2 y3 y4 y5:Int) (yp:Option Addr) (yq yr:Nat) (ys:Option Addr) (yt yu:Nat) (nb:Nat) (w:World) (hn:VarL w nb [.string t]):
  Calls Tryd.prog 37 #[.agg #[.string s, .int .u32 y1, .int .i64 y2, .int .i64 y3, .int .i64 y4, .int .i64 y5, .slice yp yq yr, .slice ys yt yu], .pointer (some ⟨nb,0,none⟩)] w fun e w'=>e= .returned (.bool (decide (s=t)))∧Below w.heap.size w w':=by
 obtain⟨yb,W1,hyb,hW1,V1,b1,z1⟩:=boxL w [.string s, .int .u32 y1, .int .i64 y2, .int .i64 y3, .int .i64 y4, .int .i64 y5, .slice yp yq yr, .slice ys yt yu] 44
 have c0:=V1.c 0 rfl
 have n0:=(hn.after b1).c 0 rfl
 have HB:=Lh b1
 obtain⟨q,hq⟩: ∃q,decide (s=t)=q:=⟨_,rfl⟩
 have he:(s.toList==t.toList)=q:=(str_eqb s t).trans hq
 rw[hq]
 clear b1 V1 z1 hn hq
 go_enter Tryd.func37,Tryd.ntmps37
 go_wp2
 go_ret
 exact⟨rfl,HB.out⟩
theorem goal_idx (t:ByteArray) (nb:Nat) (us:List (List Value)) (ks:List ByteArray) (v:Value) (w:World) (hv:InK 8 w v us) (hN:Keyed goalQc us ks) (hl:us.length≤1000000) (hn:VarL w nb [.string t]):
  Calls Tryd.prog 61 #[v, .func (.func 37) #[] #[.pointer (some ⟨nb,0,none⟩)]] w fun e w'=>(∃i:Int,e= .returned (.int .i64 i)∧((∃k:Nat,i=(k:Int)∧k<us.length∧FirstK ks t k)∨(i= -1∧∀(k:Nat) y,ks[k]?=some y→y≠t)))∧Below w.heap.size w w':=by
 obtain⟨a,cap,rfl,hc⟩:=hv.size
 obtain⟨n,hnn⟩: ∃n,us.length=n:=⟨_,rfl⟩
 rw[hnn]at hv hl ⊢
 have HV:=Lh hv
 have HNM:=Lh hN
 have HNB:=Lh hn
 have HL:=Lh hnn
 clear hv hN hn hc hnn
 go_enter Tryd.func61,Tryd.ntmps61
 go_wp2
 go_loopw [8] (fun v8 wr=> ∃i:Nat,i≤n∧v8= .int .i64 (i:Int)∧Below w.heap.size w wr∧∀(k:Nat) y,k<i→ks[k]?=some y→y≠t) (fun v8 _=>n-(intOf v8).toNat)
 case atStart=>exact⟨0,Nat.zero_le _,rfl,Mj _ _,fun k y hk=>by omega⟩
 case round=>
  obtain⟨i,hi,rfl,hb,hW⟩:=hrel
  have HB:=Lh hb
  have HW:=Lh hW
  clear hW
  by_cases hin:i<n
  ·obtain⟨s,r,hu,hs,hr⟩:=HNM.out.row (i:=i) (by rw[HL.out];exact hin)
   obtain⟨y1,y2,y3,y4,y5,yp,yq,yr,ys,yt,yu,rfl⟩:=hr
   obtain⟨b,off,rfl,hlt,hcell⟩:=HV.out.at i _ hu
   have f0:wr.cell? ⟨b,off+i*8,none⟩=some (.string s):=(hb.cell (p:=⟨b,off+i*8,none⟩) hlt).trans (hcell 0 _ rfl)
   have f1:wr.cell? ⟨b,off+i*8+1,none⟩=some (.int .u32 y1):=(hb.cell (p:=⟨b,off+i*8+1,none⟩) hlt).trans (hcell 1 _ rfl)
   have f2:wr.cell? ⟨b,off+i*8+2,none⟩=some (.int .i64 y2):=(hb.cell (p:=⟨b,off+i*8+2,none⟩) hlt).trans (hcell 2 _ rfl)
   have f3:wr.cell? ⟨b,off+i*8+3,none⟩=some (.int .i64 y3):=(hb.cell (p:=⟨b,off+i*8+3,none⟩) hlt).trans (hcell 3 _ rfl)
   have f4:wr.cell? ⟨b,off+i*8+4,none⟩=some (.int .i64 y4):=(hb.cell (p:=⟨b,off+i*8+4,none⟩) hlt).trans (hcell 4 _ rfl)
   have f5:wr.cell? ⟨b,off+i*8+5,none⟩=some (.int .i64 y5):=(hb.cell (p:=⟨b,off+i*8+5,none⟩) hlt).trans (hcell 5 _ rfl)
   have f6:wr.cell? ⟨b,off+i*8+6,none⟩=some (.slice yp yq yr):=(hb.cell (p:=⟨b,off+i*8+6,none⟩) hlt).trans (hcell 6 _ rfl)
   have f7:wr.cell? ⟨b,off+i*8+7,none⟩=some (.slice ys yt yu):=(hb.cell (p:=⟨b,off+i*8+7,none⟩) hlt).trans (hcell 7 _ rfl)
   have HS:=Lh (goal_clo s t y1 y2 y3 y4 y5 yp yq yr ys yt yu nb wr (HNB.out.after hb))
   have HSN:=Lh hs
   have hi1:IntKind.i64.wrap ((i:Int)+1)=((i+1:Nat):Int):=by rw[IntKind.wrap_i64];omega
   clear hu hs hlt hcell hb
   by_cases he:s=t
   ·subst he
    rw[decide_eq_true rfl]at HS
    have HI:Hid (i<n):=Lh hin
    go_wp2_with (go_at_call 37;(with_reducible refine(HS.out).mono ?_);rintro e w2 ⟨rfl,h2⟩;have G2:=Lh (below_step HB.out h2);clear h2)
    go_ret
    exact⟨⟨_,rfl,Or.inl ⟨i,rfl,HI.out,HSN.out,HW.out⟩⟩,G2.out⟩
   ·have HNE:=Lh he
    rw[decide_eq_false he]at HS
    clear he
    go_wp2_with (go_at_call 37;(with_reducible refine(HS.out).mono ?_);rintro e w2 ⟨rfl,h2⟩;have G2:=Lh (below_step HB.out h2);clear h2)
    go_roundw
    case rel=>exact⟨i+1,by omega,by go_num,G2.out,fun k y hk hy=>by
     rcases Nat.lt_or_ge k i with hx|hx
     ·exact HW.out k y hx hy
     ·obtain rfl:k=i:=by omega
      rw[HSN.out]at hy
      injection hy with hy
      rw[←hy];exact HNE.out⟩
    case measure=>simp[intOf];omega
  ·have en:n=i:=by omega
   subst en
   clear hb
   go_wp2
   go_ret
   exact⟨⟨_,rfl,Or.inr ⟨rfl,fun k y hk=>by
    have:k<ks.length:=(List.getElem?_eq_some_iff.1 hk).1
    exact HW.out k y (by rw[←HL.out,HNM.out.1];exact this) hk⟩⟩,HB.out⟩
theorem goal_one (t:ByteArray) (nb:Nat) (us:List (List Value)) (ks:List ByteArray) (v:Value) (w:World) (hv:InK 8 w v us) (hN:Keyed goalQc us ks) (hl:us.length≤1000000) (hn:VarL w nb [.string t]):
  Calls Tryd.prog 36 #[v, .func (.func 37) #[] #[.pointer (some ⟨nb,0,none⟩)]] w (GivesOne us ks t #[.string ⟨#[]⟩, .int .u32 0, .int .i64 0, .int .i64 0, .int .i64 0, .int .i64 0, .slice none 0 0, .slice none 0 0] w):=by
 obtain⟨gb,W0,hgb,hW0,V0,b0,z0⟩:=boxL w [.string ⟨#[]⟩, .int .u32 0, .int .i64 0, .int .i64 0, .int .i64 0, .int .i64 0, .slice none 0 0, .slice none 0 0] 44
 have HX:=Lh (goal_idx t nb us ks v W0 (hv.below b0) hN hl (hn.after b0))
 obtain⟨a,cap,rfl,hc⟩:=hv.size
 have HV:=Lh (hv.below b0)
 have HN:=Lh hN
 have HV0:=Lh V0
 have HB0:=Lh b0
 have HG:Hid (w.heap.size≤gb):=Lh (by omega)
 obtain⟨n,hnn⟩: ∃n,us.length=n:=⟨_,rfl⟩
 rw[hnn]at HX HV hl hc ⊢
 clear hv hN hn V0 b0 z0
 go_enter Tryd.func36,Tryd.ntmps36
 have HNN:=Lh hnn
 clear hnn
 go_wp2_with (go_at_call 61;(with_reducible refine(HX.out).mono ?_);rintro e w2 ⟨⟨i,rfl,hor⟩,h2⟩;rcases hor with⟨k,rfl,hk,hf⟩|⟨rfl,hall⟩<;>first
  |(obtain⟨s,r,hu,hs,hr⟩:=HN.out.row (i:=k) (by rw[HNN.out];exact hk);obtain⟨y1,y2,y3,y4,y5,yp,yq,yr,ys,yt,yu,rfl⟩:=hr;obtain⟨b,off,rfl,hlt,hcell⟩:=HV.out.at k _ hu;have f0:w2.cell? ⟨b,off+k*8,none⟩=some (.string s):=(h2.cell (p:=⟨b,off+k*8,none⟩) hlt).trans (hcell 0 _ rfl);have f1:w2.cell? ⟨b,off+k*8+1,none⟩=some (.int .u32 y1):=(h2.cell (p:=⟨b,off+k*8+1,none⟩) hlt).trans (hcell 1 _ rfl);have f2:w2.cell? ⟨b,off+k*8+2,none⟩=some (.int .i64 y2):=(h2.cell (p:=⟨b,off+k*8+2,none⟩) hlt).trans (hcell 2 _ rfl);have f3:w2.cell? ⟨b,off+k*8+3,none⟩=some (.int .i64 y3):=(h2.cell (p:=⟨b,off+k*8+3,none⟩) hlt).trans (hcell 3 _ rfl);have f4:w2.cell? ⟨b,off+k*8+4,none⟩=some (.int .i64 y4):=(h2.cell (p:=⟨b,off+k*8+4,none⟩) hlt).trans (hcell 4 _ rfl);have f5:w2.cell? ⟨b,off+k*8+5,none⟩=some (.int .i64 y5):=(h2.cell (p:=⟨b,off+k*8+5,none⟩) hlt).trans (hcell 5 _ rfl);have f6:w2.cell? ⟨b,off+k*8+6,none⟩=some (.slice yp yq yr):=(h2.cell (p:=⟨b,off+k*8+6,none⟩) hlt).trans (hcell 6 _ rfl);have f7:w2.cell? ⟨b,off+k*8+7,none⟩=some (.slice ys yt yu):=(h2.cell (p:=⟨b,off+k*8+7,none⟩) hlt).trans (hcell 7 _ rfl);have V2:=HV0.out.after h2;have c0:=V2.c 0 rfl;have q0:=V2.q 0 rfl;have c1:=V2.c 1 rfl;have q1:=V2.q 1 rfl;have c2:=V2.c 2 rfl;have q2:=V2.q 2 rfl;have c3:=V2.c 3 rfl;have q3:=V2.q 3 rfl;have c4:=V2.c 4 rfl;have q4:=V2.q 4 rfl;have c5:=V2.c 5 rfl;have q5:=V2.q 5 rfl;have c6:=V2.c 6 rfl;have q6:=V2.q 6 rfl;have c7:=V2.c 7 rfl;have q7:=V2.q 7 rfl;obtain⟨W3,hW3⟩: ∃W3,putL gb 0 [.string s, .int .u32 y1, .int .i64 y2, .int .i64 y3, .int .i64 y4, .int .i64 y5, .slice yp yq yr, .slice ys yt yu] w2=W3:=⟨_,rfl⟩;have HV3:Hid (VarL W3 gb [.string s, .int .u32 y1, .int .i64 y2, .int .i64 y3, .int .i64 y4, .int .i64 y5, .slice yp yq yr, .slice ys yt yu]):=Lh (by rw[←hW3];exact putL_var [.string s, .int .u32 y1, .int .i64 y2, .int .i64 y3, .int .i64 y4, .int .i64 y5, .slice yp yq yr, .slice ys yt yu] [] [.string ⟨#[]⟩, .int .u32 0, .int .i64 0, .int .i64 0, .int .i64 0, .int .i64 0, .slice none 0 0, .slice none 0 0] w2 V2 rfl);have d0:=HV3.out.c 0 rfl;have d1:=HV3.out.c 1 rfl;have d2:=HV3.out.c 2 rfl;have d3:=HV3.out.c 3 rfl;have d4:=HV3.out.c 4 rfl;have d5:=HV3.out.c 5 rfl;have d6:=HV3.out.c 6 rfl;have d7:=HV3.out.c 7 rfl;have HB3:Hid (Below w.heap.size w W3):=Lh (by rw[←hW3];exact putL_below _ HG.out _ _ (below_step HB0.out h2));have HF:=Lh hf;have HU:=Lh hu;simp only[putL,Ly]at hW3;have hkn:(k:Int)<(n:Int):=(by omega);clear hu hs hlt hcell h2 V2 hf)
  |(obtain⟨yb,W2,hyb,hW2,V1,b2,z2⟩:=boxL w2 [.string ⟨#[]⟩, .int .u32 0, .int .i64 0, .int .i64 0, .int .i64 0, .int .i64 0, .slice none 0 0, .slice none 0 0] 44;have y0:=V1.c 0 rfl;have y1:=V1.c 1 rfl;have y2:=V1.c 2 rfl;have y3:=V1.c 3 rfl;have y4:=V1.c 4 rfl;have y5:=V1.c 5 rfl;have y6:=V1.c 6 rfl;have y7:=V1.c 7 rfl;have V2:=(HV0.out.after h2).after b2;have c0:=V2.c 0 rfl;have q0:=V2.q 0 rfl;have c1:=V2.c 1 rfl;have q1:=V2.q 1 rfl;have c2:=V2.c 2 rfl;have q2:=V2.q 2 rfl;have c3:=V2.c 3 rfl;have q3:=V2.q 3 rfl;have c4:=V2.c 4 rfl;have q4:=V2.q 4 rfl;have c5:=V2.c 5 rfl;have q5:=V2.q 5 rfl;have c6:=V2.c 6 rfl;have q6:=V2.q 6 rfl;have c7:=V2.c 7 rfl;have q7:=V2.q 7 rfl;obtain⟨W3,hW3⟩: ∃W3,putL gb 0 [.string ⟨#[]⟩, .int .u32 0, .int .i64 0, .int .i64 0, .int .i64 0, .int .i64 0, .slice none 0 0, .slice none 0 0] W2=W3:=⟨_,rfl⟩;have HV3:Hid (VarL W3 gb [.string ⟨#[]⟩, .int .u32 0, .int .i64 0, .int .i64 0, .int .i64 0, .int .i64 0, .slice none 0 0, .slice none 0 0]):=Lh (by rw[←hW3];exact putL_var [.string ⟨#[]⟩, .int .u32 0, .int .i64 0, .int .i64 0, .int .i64 0, .int .i64 0, .slice none 0 0, .slice none 0 0] [] [.string ⟨#[]⟩, .int .u32 0, .int .i64 0, .int .i64 0, .int .i64 0, .int .i64 0, .slice none 0 0, .slice none 0 0] W2 V2 rfl);have d0:=HV3.out.c 0 rfl;have d1:=HV3.out.c 1 rfl;have d2:=HV3.out.c 2 rfl;have d3:=HV3.out.c 3 rfl;have d4:=HV3.out.c 4 rfl;have d5:=HV3.out.c 5 rfl;have d6:=HV3.out.c 6 rfl;have d7:=HV3.out.c 7 rfl;have HB3:Hid (Below w.heap.size w W3):=Lh (by rw[←hW3];exact putL_below _ HG.out _ _ (below_step HB0.out (below_step h2 b2)));have HA:=Lh hall;simp only[putL,Ly]at hW3;clear h2 b2 z2 V1 V2 hall))
 ·(try simp only[Exit.inBlock,Exit.then])
  refine bodyPost_ret (cell_tmp (fn:=Tryd.f36) rfl (goal_load HV3.out) rfl rfl) rfl ?_
  exact⟨_,_,rfl,Or.inl ⟨rfl,k,_,HU.out,HF.out,rfl⟩,HB3.out⟩
 ·(try simp only[Exit.inBlock,Exit.then])
  refine bodyPost_ret (cell_tmp (fn:=Tryd.f36) rfl (goal_load HV3.out) rfl rfl) rfl ?_
  exact⟨_,_,rfl,Or.inr ⟨rfl,rfl,HA.out⟩,HB3.out⟩
end
end Go.Proofs.YtgmfkbamfnkbgaaDoor
