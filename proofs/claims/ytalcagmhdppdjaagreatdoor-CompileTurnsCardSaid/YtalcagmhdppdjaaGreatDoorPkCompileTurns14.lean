/-
  Package layout's rightItem, and what it asks of the words: walked.
-/
import Derived.Test.YtalcagmhdppdjaaGreatDoorPkCompileTurns13
import Derived.RangeFuncNested
import Derived.RangeFuncLeaves
import Derived.RangeFuncBound
import Derived.Shelf.Abstract
import Derived.Shelf.RegionOpen
import Derived.OwnWalkIn
import Derived.TacticsInMore
import Derived.LoopNIn
import Derived.LoopIn
set_option maxRecDepth 100000
set_option maxHeartbeats 8000000
namespace Go.Proofs.YtalcagmhdppdjaaGreatDoor
open Lib renaming hid→Lh
open Or renaming inr→Mx,inl→My
open Nat renaming le_refl→Mz
open List renaming length_cons→Jq,mem_cons_of_mem→Jy,mem_cons_self→Jz
section
open Go.RowKit Go.Shelf
def flatL:Nat→List It→List (Nat×It)
 |_,[]=> []
 |d, .mk n w k kids a b::l=>(d, .mk n w k kids a b)::(flatL (d+1) kids++flatL d l)
theorem flatL_len: ∀(L:List It) (d:Nat),(flatL d L).length=cntL L
 | [],d=>by simp[flatL,cntL]
 | .mk n w k kids a b::l,d=>by
  rw[flatL,cntL,Jq,List.length_append,flatL_len kids,flatL_len l];omega
theorem flatL_app (d:Nat): ∀(l m:List It),flatL d (l++m)=flatL d l++flatL d m
 | [],m=>by simp[flatL]
 | .mk n w k kids a b::l,m=>by
  rw[List.cons_append,flatL,flatL,flatL_app d l m];simp
theorem flatL_one (d:Nat) (x:It):flatL d [x]=(d,x)::flatL (d+1) x.kids:=by
 obtain⟨n,w,k,kids,a,b⟩:=x
 simp[flatL,It.kids]
theorem cntK_take (L:List It): ∀i,i≤L.length→cntK L i=cntL (L.take i)
 |0,_=>by simp[cntK,cntL]
 |i+1,h=>by
  have e: ∀x:It,cntL [x]=1+cntL x.kids:=fun x=>by obtain⟨n,w,k,kids,a,b⟩:=x;simp[cntL,It.kids]
  rw[cntK,cntK_take L i (by omega),tk_take (by omega),cntL_app,e];omega
theorem take_split {L:List It} {i:Nat} (hi:i<L.length):L=L.take i++([L.getD i default]++L.drop (i+1)):=by
 rw[←List.append_assoc,←tk_take hi,List.take_append_drop]
theorem flatL_at {L:List It} {i d:Nat} (hi:i<L.length):(flatL d L)[cntK L i]?=some (d,L.getD i default):=by
 have e:=congrArg (flatL d) (take_split hi)
 rw[flatL_app,flatL_app,flatL_one]at e
 rw[e,cntK_take L i (by omega),←flatL_len (L.take i) d,List.getElem?_append_right (Mz _),Nat.sub_self];rfl
theorem flatL_kid {L:List It} {i d:Nat} (hi:i<L.length) (j:Nat) (hj:j<cntL (L.getD i default).kids):(flatL d L)[cntK L i+1+j]?=(flatL (d+1) (L.getD i default).kids)[j]?:=by
 have e:=congrArg (flatL d) (take_split hi)
 rw[flatL_app,flatL_app,flatL_one]at e
 rw[e,cntK_take L i (by omega),←flatL_len (L.take i) d,List.getElem?_append_right (by omega)]
 have h1:(flatL d (L.take i)).length+1+j-(flatL d (L.take i)).length=j+1:=by omega
 rw[h1,List.cons_append,List.getElem?_cons_succ,List.getElem?_append_left (by rw[flatL_len];exact hj)]
theorem depK_at {L:List It} {i:Nat} (hi:i<L.length):1+depL (L.getD i default).kids≤depL L:=by
 have:=depK_mono L (i:=i+1) (j:=L.length) hi
 rw[depK_all,depK]at this
 omega
structure Keeps (B:Nat) (V V':World):Prop where
 size:V.heap.size≤V'.heap.size
 same: ∀i o,B≤i→V.heap[i]?=some o→(∀c fz,o≠ .cells c 5 fz)→V'.heap[i]?=some o
theorem Keeps.refl (B:Nat) (V:World):Keeps B V V:=⟨Mz _,fun _ _ _ h _=>h⟩
theorem Keeps.trans {B:Nat} {a b c:World} (h:Keeps B a b) (g:Keeps B b c):Keeps B a c:=⟨Nat.le_trans h.size g.size,fun i o h1 h2 h3=>g.same i o h1 (h.same i o h1 h2 h3) h3⟩
theorem Keeps.of {B:Nat} {V V':World} (h:Below V.heap.size V V'):Keeps B V V':=⟨h.size,fun i _ _ hi _=>(h.block i (Array.getElem?_eq_some_iff.1 hi).1).trans hi⟩
theorem Keeps.at {B:Nat} {V V':World} (hs:V.heap.size≤V'.heap.size) (h: ∀i,B≤i→i<V.heap.size→V'.heap[i]?=V.heap[i]?):Keeps B V V':=⟨hs,fun i _ h1 h2 _=>(h i h1 (Array.getElem?_eq_some_iff.1 h2).1).trans h2⟩
theorem Keeps.cell {B:Nat} {V V':World} (h:Keeps B V V') {q:Nat} (hq:B≤q) (ht: ∃c t fz,V.heap[q]?=some (.cells c t fz)∧t≠5):V'.heap[q]?=V.heap[q]?:=by
 obtain⟨c,t,fz,h1,h2⟩:=ht
 rw[h1]
 exact h.same q _ hq h1 (fun c' fz' e=>h2 (by cases e;rfl))
theorem put6_obj {W:World} {p:Nat} {c:Array Value} {t:TypeId} {fz:Nat×Nat} (h:W.heap[p]?=some (.cells c t fz)) (y0 y1 y2 y3 y4 y5:Value): ∃c',(put6 W p y0 y1 y2 y3 y4 y5).heap[p]?=some (.cells c' t fz):=by
 unfold put6
 simp[World.setCell,Array.getElem?_modify,h]
structure Fl where
 d:Nat
 x:It
 wv:Value
 kv:Value
def Fl.item (p:Fl):Value:= .agg #[.string p.x.name,p.wv, .bool p.x.block,p.kv, .int .i64 p.x.a, .int .i64 p.x.b]
def Fl.enc (p:Fl):Array Value:= #[.int .i64 (p.d:Int),p.item]
structure FlAt (w:World) (S:Nat→Prop) (F:List (Nat×It)) (k:Nat) (p:Fl):Prop where
 here:F[k]?=some (p.d,p.x)
 ws:WordsIs w S p.wv p.x.words
 ks: ∃D,ItemsIs D w S p.kv p.x.kids
def RangesT (F:Fence) (n:Nat) (P:Program) (gf:Nat) (lb:Array Value) (G:Nat→Fl→Prop) (m:Nat) (Kc:World→Prop):Prop:=
 ∀(l:Nat) (J:Nat→World→Prop) (Jx:World→Prop) (W:World),(∀k V,J k V→Kc V)→(∀k V V',J k V→Below V.heap.size V V'→J k V')→
  (∀k p V n',J k V→k<m→G k p→YieldAt F n' P l p.enc V fun e V'=>(e= .returned (.bool true)∧J (k+1) V'∧Keeps W.heap.size V V')∨(e= .returned (.bool false)∧Jx V'))→J 0 W→
  CallsIn F n P gf (#[.func (.yield l) #[] #[]]++lb) W fun e V'=>(∃v,e= .returned v)∧(J m V'∨Jx V')
def roundEndT (B:Nat) (I Ix:World→Prop) (V:World):Exit→Act→World→Prop
 | .normal,_,V'=>I V'∧V'.heap[B]?=V.heap[B]?∧V'.heap[B+1]?=V.heap[B+1]?∧Keeps (B+2) V V'
 | .ret,_,V'=>Ix V'∧V'.heap[B]?=V.heap[B]?∧V'.heap[B+1]?=V.heap[B+1]?
 |_,_,_=>False
theorem wide_depth (k:Nat):Fence.wide.depth.isSome=true→1≤k:=fun h=>by have e:Fence.wide.depth.isSome=false:=rfl;rw[e]at h;cases h
theorem anyDepth_room {F:Fence} (hd:F.depth=none) (k:Nat):F.room k:=fun d h=>by rw[hd]at h;cases h
theorem keeps_putObj (V:World) (l B:Nat) (o:Obj) (h:l<B):Keeps B V (V.putObj l o):=Keeps.at (by rw[World.putObj_size];exact Mz _) (fun i hi _=>World.putObj_heap_other (by omega))
theorem wp_rangeT {P:Program} {n:Nat} {g:Operand} {ps:Array Tmp} {assign body:Code} {Q:Exit→Act→World→Prop} {a:Act} {w:World}
  (h1:1≤n) {gf:Nat} {lb:Array Value} (hg:a.eval g= .func (.func gf) #[] lb) (eg: ∀args w,(callFunc gf args).run P w= .ok (.enter gf args) w)
  (hps:ps.size=2) {G:Nat→Fl→Prop} {m:Nat} {Kc:World→Prop} (hit:RangesT Fence.wide (n-1) P gf lb G m Kc)
  (I:Nat→World→Prop) (Ix:World→Prop) (hIK: ∀k V,I k V→Kc V) (hIB: ∀k V V',I k V→Below V.heap.size V V'→I k V')
  (hI: ∀k V (o x:Loop),V.heap[w.heap.size+1]?=some (.loop x)→I k V→I k (V.putObj (w.heap.size+1) (.loop o))) (hIx: ∀V (o x:Loop),V.heap[w.heap.size+1]?=some (.loop x)→Ix V→Ix (V.putObj (w.heap.size+1) (.loop o))) (h0: ∀o1 o2,I 0 ((w.alloc o1).alloc o2)) (a1:Fl→Nat→Act) (AP:Fl→Nat→World→Prop) (hAP: ∀p q V o,AP p q V→AP p q (V.putObj (w.heap.size+1) o))
  (hassign: ∀k p V (K:Act→World→Prop),G k p→w.heap.size+2≤V.heap.size→(∀q V',Below V.heap.size V V'→AP p q V'→K (a1 p q) V')→assign.wpIn (Fence.wide.inRound (w.heap.size+1)) (n-1-1) P (Exit.then K (fun _ _ _=>False)) { tmps:=(ps.zip p.enc).foldl (fun t (p,v)=>t.setIfInBounds p v) a.tmps,defers:= [] } V)
  (hbody: ∀k p q V,I k V→k<m→G k p→AP p q V→w.heap.size+2≤V.heap.size→(∃x,V.heap[w.heap.size]?=some (.deferred x))→(∃x,V.heap[w.heap.size+1]?=some (.loop x))→body.wpIn (Fence.wide.inRound (w.heap.size+1)) (n-1-1) P (roundEndT w.heap.size (I (k+1)) Ix V) (a1 p q) V)
  (hdone: ∀V,I m V→V.heap[w.heap.size]?=some (.deferred (some []))→Q .normal { a with defers:= { target:= .collected w.heap.size,args:= #[] } ::a.defers } V)
  (hstop: ∀V,Ix V→V.heap[w.heap.size]?=some (.deferred (some []))→Code.ret.wpIn Fence.wide n P Q { a with defers:= { target:= .collected w.heap.size,args:= #[] } ::a.defers } V):
  (Code.rangeFunc g ps assign body).wpIn Fence.wide n P Q a w:=by
 refine wpIn_rangeFunc ?_
 intro fn hfn
 have hro:Fence.wide.round=none:=rfl
 rw[hro]
 obtain⟨rec,hrec⟩: ∃rec:LoopState→Option Code→Loop,rec=fun st pe=> { state:=st,pending:=pe,fn,tmps:=a.tmps,params:=ps,assign,body,defers:=w.heap.size } :=⟨_,rfl⟩
 obtain⟨W1,hW1⟩: ∃W1,(w.alloc (.deferred (some []))).alloc (.loop (rec .ready none))=W1:=⟨_,rfl⟩
 have hL1:W1.heap[w.heap.size+1]?=some (.loop (rec .ready none)):=by
  rw[←hW1];have:=World.alloc_heap_new (w.alloc (.deferred (some []))) (.loop (rec .ready none));rwa [World.size_alloc]at this
 have hK1:W1.heap[w.heap.size]?=some (.deferred (some [])):=by
  rw[←hW1];exact(Below.heap_alloc _ _ _ (by simp)).trans (World.alloc_heap_new w _)
 have hs1:W1.heap.size=w.heap.size+2:=by rw[←hW1];simp
 have hI1:I 0 W1:=by rw[←hW1];exact h0 _ _
 refine⟨w.heap.size+1,[{ target:= .collected w.heap.size,args:= #[] }],W1, { target:= .fn (.func gf) lb,args:= #[.func (.yield (w.heap.size+1)) #[] #[]] },W1,gf,
  #[.func (.yield (w.heap.size+1)) #[] #[]]++lb,W1,?_,?_,?_,?_,fun _=>h1,?_⟩
 ·rw[←hW1,hrec];exact run_enterLoop_outer _ _ _ _ _
 ·simp only[resolve,hg]
  simp[go_sem]
 ·intro f' _;trivial
 ·simp[invoke,go_sem,eg]
 ·refine(hit (w.heap.size+1)
   (fun k W=>I k W∧W.heap[w.heap.size+1]?=some (.loop (rec .ready none))∧W.heap[w.heap.size]?=some (.deferred (some [])))
   (fun W=>Ix W∧W.heap[w.heap.size+1]?=some (.loop (rec .done (some .ret)))∧W.heap[w.heap.size]?=some (.deferred (some [])))
   W1 (fun k V h=>hIK k V h.1) ?_ ?_ ⟨hI1,hL1,hK1⟩).mono ?_
  ·rintro k V V' ⟨hi,hl,hk⟩ hb
   exact⟨hIB k V V' hi hb,(hb.block _ (Array.getElem?_eq_some_iff.1 hl).1).trans hl,(hb.block _ (Array.getElem?_eq_some_iff.1 hk).1).trans hk⟩
  ·rintro k p W n' ⟨hi,hl,hk⟩ hlt hG
   have hsz:w.heap.size+1<W.heap.size:=(Array.getElem?_eq_some_iff.1 hl).1
   have hy:=run_yield (P:=P) (args:=p.enc) hl (by rw[hrec];exact hps.symm)
   rw[hrec]at hy
   refine⟨fn,_,assign,body,hy,?_⟩
   have hmain:RoundIn Fence.wide (n-1-1) P (w.heap.size+1) fn ((ps.zip p.enc).foldl (fun t (p,v)=>t.setIfInBounds p v) a.tmps) assign body W (fun e V'=>(e= .returned (.bool true)∧(I (k+1) V'∧V'.heap[w.heap.size+1]?=some (.loop (rec .ready none))∧V'.heap[w.heap.size]?=some (.deferred (some [])))∧Keeps W1.heap.size W V')∨(e= .returned (.bool false)∧Ix V'∧V'.heap[w.heap.size+1]?=some (.loop (rec .done (some .ret)))∧V'.heap[w.heap.size]?=some (.deferred (some [])))):=by
    refine roundIn_of_wpIn hfn (hassign k p W _ hG (by omega) ?_)
    clear hy
    intro q W0 hb0 hap
    have hiW:=hIB k W W0 hi hb0
    have hlW:=(hb0.block _ hsz).trans hl
    have hkW:=(hb0.block _ (by omega)).trans hk
    have hszW:w.heap.size+1<W0.heap.size:=Nat.lt_of_lt_of_le hsz hb0.size
    have hkeep0:Keeps W1.heap.size W W0:=Keeps.of hb0
    clear hi hl hk
    refine⟨_,run_beginRound hlW (by rw[hrec]),?_⟩
    have hl2:(W0.putObj (w.heap.size+1) (.loop { rec .ready none with state:= .busy })).heap[w.heap.size+1]?=some (.loop { rec .ready none with state:= .busy }):=World.putObj_heap_same hszW
    have hk2:(W0.putObj (w.heap.size+1) (.loop { rec .ready none with state:= .busy })).heap[w.heap.size]?=some (.deferred (some [])):=(World.putObj_heap_other (by omega)).trans hkW
    refine wpIn_mono (hbody k p q _ (hI k W0 _ _ hlW hiW) hlt hG (hAP p q W0 _ hap) (by rw[World.putObj_size];omega) ⟨_,hk2⟩ ⟨_,hl2⟩) ?_
    have fin: ∀(jump:Option Code) (W3:World),W3.heap[w.heap.size]?=(W0.putObj (w.heap.size+1) (.loop { rec .ready none with state:= .busy })).heap[w.heap.size]?→W3.heap[w.heap.size+1]?=(W0.putObj (w.heap.size+1) (.loop { rec .ready none with state:= .busy })).heap[w.heap.size+1]?→
      (Instr.endRound (w.heap.size+1) jump).run P W3= .ok (.bool jump.isNone) (W3.putObj (w.heap.size+1) (.loop (rec (if jump.isNone then .ready else .done) jump)))∧
      (W3.putObj (w.heap.size+1) (.loop (rec (if jump.isNone then .ready else .done) jump))).heap[w.heap.size+1]?=some (.loop (rec (if jump.isNone then .ready else .done) jump))∧
      (W3.putObj (w.heap.size+1) (.loop (rec (if jump.isNone then .ready else .done) jump))).heap[w.heap.size]?=some (.deferred (some [])):=fun jump W3 h5 h6=>by
     have hl3:=h6.trans hl2
     have:=run_endRound (P:=P) jump hl3
     rw[hrec]at this ⊢
     exact⟨this,World.putObj_heap_same (Array.getElem?_eq_some_iff.1 hl3).1,(World.putObj_heap_other (by omega)).trans (h5.trans hk2)⟩
    rintro e a3 W3 hp
    cases e with
    |normal=>
     obtain⟨hi3,h5,h6,h7⟩:=hp
     obtain⟨hr,hl4,hk4⟩:=fin none W3 h5 h6
     exact⟨_,_,hr, .inl ⟨rfl,⟨hI _ _ _ _ (h6.trans hl2) hi3,hl4,hk4⟩,by
      rw[hs1]
      exact(((by rw[←hs1];exact hkeep0:Keeps (w.heap.size+2) W W0).trans (keeps_putObj W0 _ _ _ (by omega))).trans h7).trans (keeps_putObj W3 _ _ _ (by omega))⟩⟩
    |ret=>
     obtain⟨hi3,h5,h6⟩:=hp
     obtain⟨hr,hl4,hk4⟩:=fin (some .ret) W3 h5 h6
     exact⟨_,_,hr, .inr ⟨rfl,hIx _ _ _ (h6.trans hl2) hi3,hl4,hk4⟩⟩
    |exit id=>exact hp.elim
    |goto t=>exact hp.elim
    |panic ch=>exact hp.elim
    |outgrown=>exact hp.elim
   exact⟨hmain.1,fun c cs _=>hmain.2 c cs (anyDepth_room rfl _)⟩
  ·rintro e W2 ⟨⟨v,rfl⟩,(⟨hi,hl,hk⟩|⟨hi,hl,hk⟩)⟩
   ·exact⟨none,_,by have:=run_endLoop (P:=P) hl (by rw[hrec];simp);rw[hrec]at this;exact this,hdone _ (hI _ _ _ _ hl hi) ((World.putObj_heap_other (by omega)).trans hk)⟩
   ·exact⟨some .ret,_,by have:=run_endLoop (P:=P) hl (by rw[hrec];simp);rw[hrec]at this;exact this,hstop _ (hIx _ _ _ hl hi) ((World.putObj_heap_other (by omega)).trans hk)⟩
section
attribute [local go_sem] Oper.semAt_some
theorem lwalk_any (l B m:Nat) (w:World) (S:Nat→Prop) (F:List (Nat×It)) (J:Nat→World→Prop) (Jx:World→Prop) (hS: ∀b,S b→b<w.heap.size) (hJK: ∀k V,J k V→Below w.heap.size w V) (hJB: ∀k V V',J k V→Below V.heap.size V V'→J k V')
  (hY: ∀k p V n',J k V→k<m→FlAt w S F k p→YieldAt Fence.wide n' Tryz.prog l p.enc V fun e V'=>(e= .returned (.bool true)∧J (k+1) V'∧Keeps B V V')∨(e= .returned (.bool false)∧Jx V')):
  ∀(D:Nat) (v:Value) (L:List It) (d k0 n:Nat) (W:World),ItemsIs D w S v L→(∀j,j<cntL L→F[k0+j]?=(flatL d L)[j]?)→k0+cntL L≤m→m≤1000000000→d+depL L≤1000000→B≤W.heap.size→J k0 W→
   CallsIn Fence.wide n Tryz.prog 52 #[v, .int .i64 (d:Int), .func (.yield l) #[] #[]] W fun e V'=>(e= .returned (.bool true)∧J (k0+cntL L) V'∧Keeps B W V')∨(e= .returned (.bool false)∧Jx V'):=by
 intro D
 induction D with
 |zero=>
  intro v L d k0 n W h _ _ _ _ _ hJ
  obtain⟨rfl,a,cap,rfl⟩:=h
  have hz:k0+cntL []=k0:=by simp[cntL]
  have HZ:=Lh hz
  clear hY hJB hJK
  refine callsIn_of_wp Tryz.func52 rfl trivial ?_ rfl
  simp only[Tryz.ntmps52,List.size_toArray,Jq,List.length_nil,Nat.reduceAdd,Nat.reduceSub,Array.replicate_succ,Array.replicate_zero,List.push_toArray,List.append_toArray,List.nil_append,List.cons_append]
  gi_wp2
  gi_loopw [11] (fun i wr=>i= .int .i64 0∧wr=W) (fun _ _=>0)
  case atStart=>exact⟨rfl,rfl⟩
  case round=>
   obtain⟨rfl,rfl⟩:=hrel
   gi_wp2
   go_ret
   exact .inl ⟨rfl,by rw[HZ.out];exact hJ,Keeps.refl _ _⟩
 |succ D ih=>
  intro v L d k0 n W h hF hkm hm hd hBW hJ
  obtain⟨a,cap,rfl⟩:=h.size
  have HH:=Lh h
  have HIH:=Lh ih
  have HF:=Lh hF
  have HY:=Lh hY
  have HJB:=Lh hJB
  have HJK:=Lh hJK
  have HS:=Lh hS
  obtain⟨len,hlen⟩: ∃n,L.length=n:=⟨_,rfl⟩
  have HN:=Lh hlen
  have HKM:=Lh hkm
  have hll:len≤1000000000:=by have:=len_cnt L;omega
  rw[hlen]
  clear h ih hF hY hJB hJK hS hlen hkm
  refine callsIn_of_wp Tryz.func52 rfl trivial ?_ rfl
  simp only[Tryz.ntmps52,List.size_toArray,Jq,List.length_nil,Nat.reduceAdd,Nat.reduceSub,Array.replicate_succ,Array.replicate_zero,List.push_toArray,List.append_toArray,List.nil_append,List.cons_append]
  gi_wp2
  gi_loopw [11] (fun v11 wr=> ∃i:Nat,i≤len∧v11= .int .i64 (i:Int)∧J (k0+cntK L i) wr∧Keeps B W wr) (fun v11 _=>len-(intOf v11).toNat)
  case atStart=>exact⟨0,Nat.zero_le _,rfl,hJ,Keeps.refl _ _⟩
  case round=>
   obtain⟨i,hi,rfl,hJr,hKr⟩:=hrel
   by_cases hin:i<len
   ·obtain⟨d1,hd1,b1,o1,wv,kv,rfl,s1,e0,e1,e2,e3,e4,e5,hw,hk⟩:=HH.out.at i (by rw[HN.out];exact hin)
    obtain rfl:D=d1:=by omega
    have hbel:=HJK.out _ _ hJr
    have hlt:=HS.out b1 s1
    have f0:=(hbel.cell (p:=⟨b1,o1+i*6,none⟩) hlt).trans e0
    have f1:=(hbel.cell (p:=⟨b1,o1+i*6+1,none⟩) hlt).trans e1
    have f2:=(hbel.cell (p:=⟨b1,o1+i*6+2,none⟩) hlt).trans e2
    have f3:=(hbel.cell (p:=⟨b1,o1+i*6+3,none⟩) hlt).trans e3
    have f4:=(hbel.cell (p:=⟨b1,o1+i*6+4,none⟩) hlt).trans e4
    have f5:=(hbel.cell (p:=⟨b1,o1+i*6+5,none⟩) hlt).trans e5
    have hck:=cntK_mono L (i:=i+1) (j:=len) (by omega)
    rw[←HN.out,cntK_all,cntK]at hck
    have hkm:=HKM.out
    have hdk:=depK_at (L:=L) (i:=i) (by rw[HN.out];exact hin)
    have hFx:=(HF.out (cntK L i) (by omega)).trans (flatL_at (by rw[HN.out];exact hin))
    have hFk: ∀j,j<cntL (L.getD i default).kids→F[k0+cntK L i+1+j]?=(flatL (d+1) (L.getD i default).kids)[j]?:=fun j hj=>by
     have h1:=HF.out (cntK L i+1+j) (by omega)
     rw[flatL_kid (by rw[HN.out];exact hin) j hj]at h1
     rw[←h1]
     congr 1
     omega
    have HNX:Hid (k0+cntK L (i+1)=k0+cntK L i+1+cntL (L.getD i default).kids):=Lh (by rw[cntK];omega)
    have hkk:k0+cntK L i+1+cntL (L.getD i default).kids≤m:=by omega
    have hdd:d+1+depL (L.getD i default).kids≤1000000:=by omega
    obtain⟨c,hc⟩: ∃c,k0+cntK L i=c:=⟨_,rfl⟩
    rw[hc]at hJr hFx hFk HNX hkk
    have hfl:FlAt w S F c ⟨d,L.getD i default,wv,kv⟩:=⟨hFx,hw,D,hk⟩
    obtain⟨⟨nm,wd,bk,kd,pa,pb⟩,hp⟩: ∃p,L.getD i default=p:=⟨_,rfl⟩
    rw[hp]at f0 f2 f4 f5 hfl hk hFk HNX hkk hdd
    simp only[It.name,It.block,It.a,It.b,It.kids]at f0 f2 f4 f5 hk hFk HNX hkk hdd
    have hdw0:IntKind.i64.wrap ((d:Int)+1)=((d+1:Nat):Int):=by rw[IntKind.wrap_i64];omega
    obtain⟨d',hd'⟩: ∃x,d+1=x:=⟨_,rfl⟩
    rw[hd']at hFk hdd hdw0
    have hdw:=hdw0
    clear hdw0 hd'
    have hiw:IntKind.i64.wrap ((i:Int)+1)=((i+1:Nat):Int):=by rw[IntKind.wrap_i64];omega
    have HK:=Lh hk
    have HFK:=Lh hFk
    have HKK:=Lh hkk
    have HDD:=Lh hdd
    have HKR:=Lh hKr
    have HBW:=Lh hBW
    have hwo:wv.oneCell'=true:=hw.one
    have hko:kv.oneCell'=true:=hk.one
    obtain⟨wa,wl,wc,rfl⟩: ∃a b c,wv= .slice a b c:=by obtain⟨a,c,h⟩:=hw.size;exact⟨_,_,_,h⟩
    obtain⟨ka,kl,kc,rfl⟩: ∃a b c,kv= .slice a b c:=by obtain⟨a,c,h⟩:=hk.size;exact⟨_,_,_,h⟩
    obtain⟨W0,hW0⟩: ∃W0,wr.alloc (.cells #[.string ⟨#[]⟩, .slice none 0 0, .bool false, .slice none 0 0, .int .i64 0, .int .i64 0] 47)=W0:=⟨_,rfl⟩
    obtain⟨q,hq⟩: ∃q,wr.heap.size=q:=⟨_,rfl⟩
    have V0:Var6 W0 q (.string ⟨#[]⟩) (.slice none 0 0) (.bool false) (.slice none 0 0) (.int .i64 0) (.int .i64 0):=by rw[←hW0];exact Var6.fresh _ _ _ _ _ _ _ _ _ hq.symm
    have g0:Below wr.heap.size wr W0:=by rw[←hW0];exact(Below.refl _ _).alloc (Mz _) _
    obtain⟨W1,hW1⟩: ∃W1,put6 W0 q (.string nm) (.slice wa wl wc) (.bool bk) (.slice ka kl kc) (.int .i64 pa) (.int .i64 pb)=W1:=⟨_,rfl⟩
    have V1:Var6 W1 q (.string nm) (.slice wa wl wc) (.bool bk) (.slice ka kl kc) (.int .i64 pa) (.int .i64 pb):=by rw[←hW1];exact V0.put _ _ _ _ _ _
    have g1:Below wr.heap.size wr W1:=by rw[←hW1];exact below_put6 g0 (by omega) _ _ _ _ _ _
    have HOB:Hid (∃c t fz,W1.heap[q]?=some (.cells c t fz)∧t≠5):=by
     obtain⟨c',hc'⟩:=put6_obj (W:=W0) (p:=q) (by rw[←hW0,←hq];exact World.alloc_heap_new wr _) (.string nm) (.slice wa wl wc) (.bool bk) (.slice ka kl kc) (.int .i64 pa) (.int .i64 pb)
     rw[hW1]at hc'
     exact⟨c',_,_,hc',by decide⟩
    have HV1:=Lh V1
    have HG1:=Lh g1
    have hJ1:=HJB.out _ _ _ hJr g1
    have hBq:B≤q:=by have:=hKr.size;omega
    have hy1:=HY.out c _ W1 (n-1) hJ1 (by omega) hfl
    obtain⟨fn,tmps,assign,body,hy,hR⟩:=hy1
    have HR:=Lh (hR.mono (R':=fun e V'=>(e= .returned (.bool true)∧J (c+1) V'∧Keeps B W1 V'∧V'.cell? ⟨q,3,none⟩=some (.slice ka kl kc))∨(e= .returned (.bool false)∧Jx V')) (fun e V' h=>h.imp (fun⟨h1,h2,h3⟩=>⟨h1,h2,h3,(World.cell?_of_block (a:=⟨q,3,none⟩) (h3.cell hBq HOB.out)).trans HV1.out.c3⟩) id))
    obtain⟨x0,x1,x2,x3,x4,x5,xq,xs⟩:=V1
    obtain⟨y0,y1,y2,y3,y4,y5,yq,ys⟩:=V0
    have z0:=yq 0
    have z1:=yq 1
    have z2:=yq 2
    have z3:=yq 3
    have z4:=yq 4
    have z5:=yq 5
    simp only[Fl.enc,Fl.item,It.name,It.block,It.a,It.b]at hy
    unfold put6 at hW1
    clear hc hp e0 e1 e2 e3 e4 e5 hw hk hFk hkk hdd hck hkm hdk hFx hfl hbel hlt s1 hJr hKr hR hJ1 g0 g1 hd1 yq ys xq xs hJ
    gi_wp2_with (first
     |(refine⟨wide_depth _,?_⟩;refine HR.out.mono ?_;rintro e w2 (⟨rfl,hj2,hk2,hc2⟩|⟨rfl,hx2⟩))
     |(refine⟨trivial,wide_depth _,?_⟩;gi_at_call 52;refine(HIH.out _ kd d' (c+1) (n-1) w2 HK.out HFK.out HKK.out hm HDD.out (by have:=hk2.size;have:=HV1.out.s;have:=HBW.out;omega) hj2).mono ?_;rintro e w3 (⟨rfl,hj3,hk3⟩|⟨rfl,hx3⟩)))
    ·go_roundw
     case rel=>exact⟨i+1,by omega,by go_num,by rw[HNX.out];exact hj3,((HKR.out.trans (Keeps.of HG1.out)).trans hk2).trans hk3⟩
     case measure=>simp[intOf];omega
    ·gi_wp2
     go_ret
     exact .inr ⟨rfl,hx3⟩
    ·refine⟨trivial,?_⟩
     gi_wp2
     go_ret
     exact .inr ⟨rfl,hx2⟩
   ·have en:len=i:=by omega
    subst en
    have HZ:Hid (k0+cntK L len=k0+cntL L):=Lh (by rw[←HN.out,cntK_all])
    have HJR:=Lh hJr
    clear hJr
    gi_wp2
    go_ret
    exact .inl ⟨rfl,by rw[←HZ.out];exact HJR.out,hKr⟩
end
end
section
open Go.RowKit Go.Shelf
theorem litems_same (a:Option Addr) (l c:Nat) (w:World):Calls Tryz.prog 31 #[.slice a l c] w fun e w'=>e= .returned (.func (.func 51) #[] #[.pointer (some ⟨w.heap.size,0,none⟩)])∧w'=w.alloc (.cells #[.slice a l c] 34):=by
 go_enter Tryz.func31,Tryz.ntmps31
 go_wp2
 go_ret
 exact⟨rfl,rfl⟩
section
attribute [local go_sem] Oper.semAt_some
theorem litems_range (w:World) (S:Nat→Prop) (D:Nat) (v:Value) (L:List It) (B1 n:Nat) (h:ItemsIs D w S v L) (hS: ∀b,S b→b<w.heap.size) (hm:cntL L≤1000000000) (hd:depL L≤900000):
  RangesT Fence.wide n Tryz.prog 51 #[.pointer (some ⟨B1,0,none⟩)] (FlAt w S (flatL 1 L)) (cntL L) (fun V=>Below w.heap.size w V∧V.cell? ⟨B1,0,none⟩=some v):=by
 intro l J Jx W hK hJB hY h0
 have hc:=(hK 0 W h0).2
 have HW:=Lh (lwalk_any l W.heap.size (cntL L) w S (flatL 1 L) J Jx hS (fun k V h=>(hK k V h).1) hJB hY D v L 1 0 (n-1) W h (fun j _=>by rw[Nat.zero_add]) (by omega) hm (by omega) (Mz _) h0)
 obtain⟨a,cap,rfl⟩:=h.size
 clear hY hJB hK h hS h0
 refine callsIn_of_wp Tryz.func51 rfl trivial ?_ rfl
 simp only[Tryz.ntmps51,List.size_toArray,Jq,List.length_nil,Nat.reduceAdd,Nat.reduceSub,Array.replicate_succ,Array.replicate_zero,List.push_toArray,List.append_toArray,List.nil_append,List.cons_append]
 gi_wp2_with (refine⟨trivial,wide_depth _,?_⟩;gi_at_call 52;refine HW.out.mono ?_;rintro e w1 (⟨rfl,hJ1,_⟩|⟨rfl,hx⟩))
 ·go_end0
  exact⟨⟨_,rfl⟩, .inl (by rw[Nat.zero_add]at hJ1;exact hJ1)⟩
 ·go_end0
  exact⟨⟨_,rfl⟩, .inr hx⟩
structure CtI (w0:World) (q:Nat) (x:Int) (v:Value) (V:World):Prop where
 bel:Below w0.heap.size w0 V
 val:V.cell? ⟨q,0,none⟩=some (.int .i64 x)
 fz:V.frozen? ⟨q,0,none⟩=false
 box:V.cell? ⟨q+1,0,none⟩=some v
theorem below_putObj {B:Nat} {w V:World} (h:Below B w V) {l:Nat} (hl:B≤l) (o:Obj):Below B w (V.putObj l o):=
 ⟨h.os,h.tape,h.output,by rw[World.putObj_size];exact h.size,fun k hk=>(World.putObj_heap_other (by omega)).trans (h.block k hk)⟩
def dmaxF (F:List (Nat×It)) (k:Nat):Nat:=((F.take k).map (·.1)).foldl max 0
end
end
section
open Go.RowKit
def gapL (k:Nat):List Int:=if k=1 then [9,32]else if k=2 then [10,10]else if k=3 then [32,35,32,34,32,123,32,255,10]else if k=4 then [35,10]else [32]
def gapU (k:Nat):List Int:=if k=1 then [9,32]else if k=2 then [10,10]else if k=3 then [32,35,32,34,32,123,32,-1,10]else if k=4 then [35,10]else [32]
structure Itm where
 g:Nat
 k:Int
 s:ByteArray
 n:Nat
structure Itm.Ok (x:Itm):Prop where
 right:RightT x.k x.s (x.n:Int)
 n9:x.n≤18446744073709551615
 k0:x.k≠0
def Itm.tok (x:Itm):TkV:=⟨x.k.toNat,txT x.k x.s,x.n⟩
def Itm.let (x:Itm):List Int:=gapL x.g++prT x.k x.s x.n
def Itm.run (x:Itm):List Int:=gapU x.g++runesOf (prT x.k x.s x.n)
def gkB (zs:List Int) (j:Nat):Int:=if 0<zs.length then zs.getD (j%zs.length) 0 else 0
def itmOf (Q:List TokQ) (zs:List Int) (j:Nat):Itm:=⟨(gkB zs j).toNat%5,(Q.getD j {}).k,(Q.getD j {}).s,(Q.getD j {}).n.toNat⟩
def itms (Q:List TokQ) (zs:List Int) (i:Nat):List Itm:=(List.range i).map (itmOf Q zs)
def srcB (Q:List TokQ) (zs:List Int) (i:Nat):List Int:=(itms Q zs i).flatMap Itm.let
end
section
open Go.RowKit
structure En where
 h:Hd
 l:List ItV
 wv:Value
 lv:Value
 bk:Bool
def En.cells (e:En):List Value:= [.string e.h.name,e.wv, .bool e.bk, .slice none 0 0, .int .i64 e.h.a, .int .i64 e.h.b,e.lv]
def En.st (e:En):Hd×List It:=(e.h,e.l.map ItV.x)
def stkV (E:List En):List (List Value):=(E.map En.cells).reverse
def EntsOk (w:World) (S:Nat→Prop) (Z:Nat):Nat→List En→Prop
 |_,[]=>True
 |d,e::R=>WordsIs w S e.wv e.h.words∧ListIs d w S Z e.lv e.l∧(R≠ []→e.bk=true)∧EntsOk w S Z (d+1) R
structure DM (g0:Nat) (S:Nat→Prop) (g cap:Nat) (E:List En) (wr:World):Prop where
 row:RowK 75 7 wr g0 (.slice (some ⟨g,0,none⟩) E.length cap) (stkV E)
 gx:g≠g0+1
 ents:EntsOk wr S (g0+2) (5-E.length) E
 sin: ∀b,S b→g0+2≤b∧b<wr.heap.size∧b≠g
 lg: ∀e∈E,e.lv.ownBlock≠some g
 ap:E.Pairwise fun e f=> ∀b,e.lv.ownBlock=some b→f.lv.ownBlock≠some b
 size:g0+2≤wr.heap.size
def XM (S:Nat→Prop) (xb:Nat) (o:Option Hd) (w:World):Prop:=match o with
 |none=> ∃x0 x1 x2 x3 x4 x5,Var6 w xb x0 x1 x2 x3 x4 x5
 |some hd=> ∃a n c,Var6 w xb (.string hd.name) (.slice a n c) (.bool false) (.slice none 0 0) (.int .i64 hd.a) (.int .i64 hd.b)∧WordsIs w S (.slice a n c) hd.words
end
section
open Go.RowKit
def zItem:List Value:= [.string ⟨#[]⟩, .slice none 0 0, .bool false, .slice none 0 0, .int .i64 0, .int .i64 0]
def putAt (W:World) (g o:Nat) (y0 y1 y2 y3 y4 y5:Value):World:=(((((W.setCell ⟨g,o,none⟩ y0).setCell ⟨g,o+1,none⟩ y1).setCell ⟨g,o+2,none⟩ y2).setCell ⟨g,o+3,none⟩ y3).setCell ⟨g,o+4,none⟩ y4).setCell ⟨g,o+5,none⟩ y5
structure JP (A6:World) (lo g cap r:Nat) (f:En) (R:List En) (x:List Value) (u:Nat→Value) (L:Nat→Bool) (W:World):Prop where
 bel:Below lo A6 W
 early:L 8=false→Below A6.heap.size A6 W∧L 9=false∧L 10=false∧L 13=false∧(L 7=true→∃gz,u 7= .slice (some ⟨gz,0,none⟩) 1 1∧∀j,j<6→W.cell? ⟨gz,j,none⟩=some (zItem.getD j undef))
 late:L 8=true→(∀i,i<8→L i=true)∧∃gl cl,u 8= .slice (some ⟨gl,0,none⟩) (f.l.length+1) cl∧(f.lv.ownBlock=some gl∨A6.heap.size≤gl)∧gl≠g∧(L 9=true→u 9= .pointer (some ⟨gl,f.l.length*6,none⟩))∧
  RowK 47 6 W (lo+2) (.slice (some ⟨gl,0,none⟩) (f.l.length+1) cl) (f.l.map ItV.cells++ [if L 10=true then x else zItem])∧RowK 75 7 W lo (.slice (some ⟨g,0,none⟩) (r+1) cap) (stkV ({ f with lv:=if L 13=true then .slice (some ⟨gl,0,none⟩) (f.l.length+1) cl else f.lv } ::R))∧
  (∀b,b<A6.heap.size→b≠g→f.lv.ownBlock≠some b→W.heap[b]?=A6.heap[b]?)∧A6.heap.size≤W.heap.size
section
variable {A6:World} {lo g cap r:Nat} {f:En} {R:List En} {x:List Value} {u:Nat→Value} {L:Nat→Bool} {W:World}
end
end
section
open Go.RowKit
structure JQ (A6:World) (lo g:Nat) (f:En) (kb ka:Nat) (y:List Value) (u:Nat→Value) (L:Nat→Bool) (W:World):Prop where
 bel:Below lo A6 W
 early:L ka=false→Below A6.heap.size A6 W∧(L kb=true→(kb=10→L 9=true)∧∃gz,u kb= .slice (some ⟨gz,0,none⟩) 1 1∧∀j,j<6→W.cell? ⟨gz,j,none⟩=some (y.getD j undef))
 late:L ka=true→(L 8=true∧L 9=true∧L kb=true)∧∃gl cl,u ka= .slice (some ⟨gl,0,none⟩) (f.l.length+1) cl∧(f.lv.ownBlock=some gl∨A6.heap.size≤gl)∧gl≠g∧
  RowK 47 6 W (lo+2) (.slice (some ⟨gl,0,none⟩) (f.l.length+1) cl) (f.l.map ItV.cells++ [y])∧
  (∀b,b<A6.heap.size→f.lv.ownBlock≠some b→W.heap[b]?=A6.heap[b]?)∧A6.heap.size≤W.heap.size
section
variable {A6:World} {lo g:Nat} {f:En} {kb ka:Nat} {y:List Value} {u:Nat→Value} {L:Nat→Bool} {W:World}
end
def TQ (kb ka:Nat) (l:List Value):Nat→Value→World→Prop:=fun k v _=>(k≠kb∧k≠ka)→v=l.getD k undef
end
section
structure WordR (t:Tk3):Prop where
 lo:1≤t.k
 hi:t.k≤6
 right:RightT t.k t.s t.n
def EachR:List It→Prop
 | []=>True
 | .mk n w k kids _ _::l=>NameL (runesOf (nums n))∧w.length≤6∧(k=true∨kids= [])∧(∀t∈w,WordR t)∧EachR kids∧EachR l
def NumsR:List It→Prop
 | []=>True
 | .mk _ w _ kids _ _::l=>(∀t∈w,0≤t.n∧t.n≤18446744073709551615)∧NumsR kids∧NumsR l
structure RightL (L:List It):Prop where
 deep:depL L≤4
 many:cntL L≤300
 each:EachR L
def indP (d:Nat):List Int:=List.replicate (2*(d-1)) 32
def wordsP (w:List Tk3):List Int:=w.flatMap fun t=>32::prT t.k t.s t.n.toNat
def prtL:Nat→List It→List Int
 |_,[]=> []
 |d, .mk n w k kids _ _::l=>indP d++(nums n++(wordsP w++(if k then [32,123,10]++(prtL (d+1) kids++(indP d++ [125,10]))else [59,10])))++prtL d l
def wordsU (w:List Tk3):List Int:=w.flatMap fun t=>32::runesOf (prT t.k t.s t.n.toNat)
def prtU:Nat→List It→List Int
 |_,[]=> []
 |d, .mk n w k kids _ _::l=>indP d++(runesOf (nums n)++(wordsU w++(if k then [32,123,10]++(prtU (d+1) kids++(indP d++ [125,10]))else [59,10])))++prtU d l
def Runs (a u:List Int):Prop:= ∀ys:List Int,runesOf (a++ys)=u++runesOf ys
def Eats (a R:List Int) (T:List Tk3):Prop:= ∀(l:List Int) (i:Nat),l.drop i=a++R→∃M:List (TkV×Nat),M.map (fun x=>tkB x.1)=T∧tokF l i=(tokF l (i+a.length)).map (fun N=>M++N)
end
section
def ShapeR:List It→Prop
 | []=>True
 | .mk _ w k kids _ _::l=>w.length≤6∧(k=true∨kids= [])∧(∀t∈w,1≤t.k∧t.k≤6)∧ShapeR kids∧ShapeR l
end
section
structure TkRight (t:TkV):Prop where
 right:RightT (t.kind:Int) (strOfNums t.text) (t.n:Int)
 n9:t.n≤18446744073709551615
def QOk:Qs→Prop
 | .norm xs=> ∀r∈xs,RuneOk r
 | .esc xs=> ∀r∈xs,RuneOk r
 | .uni xs=> ∀r∈xs,RuneOk r
 | .hex xs _ x=>(∀r∈xs,RuneOk r)∧0≤x
 | .done xs=> ∀r∈xs,RuneOk r
 | .start=>True
 | .dead=>True
theorem qok_snoc {xs:List Int} {r:Int} (h: ∀r∈xs,RuneOk r) (hr:RuneOk r): ∀y∈xs++ [r],RuneOk y:=fun y hy=>by
 rcases List.mem_append.mp hy with hy|hy
 ·exact h y hy
 ·rw[List.mem_singleton.mp hy];exact hr
theorem qok_step {u:Qs} (h:QOk u) {r:Int} (hr:r= -1∨RuneOk r):QOk (ustep u r):=by
 rcases hr with rfl|hr
 ·rw[ustep_low u (by decide)];trivial
 cases u with
 |start=>
  unfold ustep;simp only
  split
  ·intro y hy;cases hy
  ·trivial
 |norm xs=>
  unfold ustep;simp only
  split
  ·exact h
  split
  ·trivial
  split
  ·exact h
  ·exact qok_snoc h hr
 |esc xs=>
  unfold ustep;simp only
  split
  ·exact qok_snoc h hr
  split
  ·exact qok_snoc h ⟨by decide,by decide,by decide⟩
  split
  ·exact qok_snoc h ⟨by decide,by decide,by decide⟩
  split
  ·exact h
  ·trivial
 |uni xs=>
  unfold ustep;simp only
  split
  ·exact⟨h,by decide⟩
  ·trivial
 |hex xs k x=>
  unfold ustep;simp only
  split
  ·rename_i hx;exact⟨h.1,by have:=h.2;omega⟩
  split
  ·rename_i hx;exact qok_snoc h.1 ⟨h.2,hx.2.2.1,hx.2.2.2⟩
  ·trivial
 |done xs=>trivial
 |dead=>trivial
theorem qok_fold: ∀(l:List Int) (u:Qs),QOk u→RunesOk l→QOk (l.foldl ustep u)
 | [],_,h,_=>h
 |r::l,_,h,hl=>qok_fold l _ (qok_step h (hl r (Jz ..))) (fun x hx=>hl x (Jy _ hx))
theorem quoted_right {p:List Int} (hp:RunesOk p) (h:(unqF p).2=0):TkRight ⟨2,(unqF p).1,0⟩:=by
 have hq:QOk (uf p):=qok_fold p .start trivial hp
 unfold unqF at h ⊢
 cases hu:uf p with
 |done xs=>
  rw[hu]at h hq
  simp only at h ⊢
  split
  ·rename_i hx;rw[if_pos hx]at h;cases h
  ·rename_i hx
   have hr:=runes_encs hq
   refine⟨?_,Nat.zero_le _⟩
   unfold RightT
   refine Mx (My ⟨rfl,?_⟩)
   simp only
   rw[nums_strOfNums _ (encs_byte hq),hr]
   exact⟨fun i hi=>(hq _ (getD_mem hi)).1,by omega,rfl⟩
 |start=>rw[hu]at h;cases h
 |norm xs=>rw[hu]at h;cases h
 |esc xs=>rw[hu]at h;cases h
 |uni xs=>rw[hu]at h;cases h
 |hex xs k x=>rw[hu]at h;cases h
 |dead=>rw[hu]at h;cases h
theorem numT_right {k:Nat} {p:Nat×Int} (h:(numT k p).2=0) (hk:(k=3∨k=4∨(k=5∧p.1≤1000000)∨(k=6∧p.1≤253402300799))) (hb:p.1≤18446744073709551615):TkRight (numT k p).1:=by
 unfold numT at h ⊢
 split
 ·refine⟨?_,hb⟩
  unfold RightT
  simp only
  have e:strOfNums []=⟨#[]⟩:=rfl
  rw[e]
  rcases hk with rfl|rfl|⟨rfl,h2⟩|⟨rfl,h2⟩
  ·exact Mx (Mx (My ⟨My rfl,rfl⟩))
  ·exact Mx (Mx (My ⟨Mx rfl,rfl⟩))
  ·exact Mx (Mx (Mx (My ⟨rfl,rfl,by omega⟩)))
  ·exact Mx (Mx (Mx (Mx (My ⟨rfl,rfl,by omega⟩))))
 ·rename_i hn;rw[if_neg hn]at h;exact(hn h).elim
theorem facF_bd (A B:List Int):(facF A B).1≤18446744073709551615:=by
 by_cases h:AllD B∧B.length≤3
 ·by_cases he:(numF A).2=0
  ·by_cases hb:(18446744073709551615-t3 B)/1000<(numF A).1
   ·rw[facF_big h he hb];exact Nat.zero_le _
   ·rw[facF_fine h he hb]
    have h3:t3 B<10^3:=by
     rw[t3_is]
     exact snum_room (fun i hi=>spad_dig h.1 i hi) 3 (by rw[spad_len h.2];exact Mz _)
    simp only
    omega
  ·rw[facF_err h he];exact Nat.zero_le _
 ·rw[facF_word h];exact Nat.zero_le _
theorem valF_right {l:List Int} (hl:RunesOk l) (h:(valF l).2=0):TkRight (valF l).1:=by
 by_cases h1:l= []∨digitB (l.getD 0 0)=false
 ·by_cases hn:NameL l
  ·rw[valF_name h1 hn]
   refine⟨?_,Nat.zero_le _⟩
   unfold RightT
   refine My ⟨rfl,?_,rfl⟩
   simp only
   rw[nums_strOfNums _ (textR_byte hl.bd),runes_text hl]
   exact hn
  ·rw[valF_none h1 hn]at h;cases h
 by_cases h2:AllD (textR l)
 ·rw[valF_count h1 h2]at h ⊢;exact numT_right h (My rfl) (numF_bd _)
 by_cases h3:(textR l).getD ((textR l).length-1) 0=37
 ·rw[valF_share h1 h2 h3]at h ⊢
  have:=share_bd (textR l)
  exact numT_right h (Mx (Mx (My ⟨rfl,this⟩))) (by omega)
 by_cases h4:46∈textR l
 ·rw[valF_factor h1 h2 h3 h4]at h ⊢;exact numT_right h (Mx (My rfl)) (facF_bd _ _)
 ·rw[valF_span h1 h2 h3 h4]at h ⊢
  have:=span_bd (textR l)
  exact numT_right h (Mx (Mx (Mx ⟨rfl,this⟩))) (by omega)
theorem mark_right {k:Nat} (h:k=7∨k=8∨k=9):TkRight ⟨k,[],0⟩:=by
 refine⟨?_,Nat.zero_le _⟩
 unfold RightT
 have e:strOfNums []=⟨#[]⟩:=rfl
 simp only
 rw[e]
 refine Mx (Mx (Mx (Mx (Mx ⟨?_,rfl,rfl⟩))))
 omega
theorem tokP_right {p:List Int} (hp:RunesOk p) (h:(tokP p).2=0):TkRight (tokP p).1:=by
 unfold tokP at h ⊢
 split
 ·exact mark_right (by decide)
 split
 ·exact mark_right (by decide)
 split
 ·exact mark_right (by decide)
 split
 ·rename_i a b c d
  rw[if_neg a,if_neg b,if_neg c,if_pos d]at h
  split
  ·rename_i hq;exact quoted_right hp hq
  ·rename_i hn;rw[if_neg hn]at h;exact(hn h).elim
 ·rename_i a b c d
  rw[if_neg a,if_neg b,if_neg c,if_neg d]at h
  exact valF_right hp h
theorem tokF_right {l:List Int} (hl:RunesOk l): ∀(n i:Nat) (L:List (TkV×Nat)),l.length-i≤n→tokF l i= .ok L→∀x∈L,TkRight x.1
 |n,i,L,hn,h=>by
  by_cases hi:i<l.length
  ·match n,hn with
   |0,hn=>omega
   |n+1,hn=>
    have hb:=pieceN_bd (m:=l.drop i) (by rw[List.length_drop];omega)
    rcases tokF_one_step hi with⟨_,e⟩|⟨_,_,e⟩
    ·rw[e]at h
     exact tokF_right hl n _ L (by omega) h
    ·rw[e]at h
     by_cases hc:(tokP ((l.drop i).take (pieceN (l.drop i)))).2=0
     ·rw[if_pos hc]at h
      cases hr:tokF l (i+pieceN (l.drop i))with
      |error x=>rw[hr]at h;cases h
      |ok L2=>
       rw[hr]at h
       have el:L=((tokP ((l.drop i).take (pieceN (l.drop i)))).1,i)::L2:=by injection h with h;exact h.symm
       intro x hx
       rw[el]at hx
       rcases List.mem_cons.mp hx with rfl|hx
       ·exact tokP_right (fun z hz=>hl z (List.mem_of_mem_drop (List.mem_of_mem_take hz))) hc
       ·exact tokF_right hl n _ L2 (by omega) hr x hx
     ·rw[if_neg hc]at h;cases h
  ·rw[tokF_end (by omega)]at h
   injection h with h
   subst h
   intro x hx;cases hx
def T3R (t:Tk3):Prop:=RightT t.k t.s t.n∧0≤t.n∧t.n≤18446744073709551615
theorem tk3_right {l:List Int} {x:TkV×Nat} (h:TkRight x.1):T3R (tk3 l x):=⟨h.right,by show 0≤(x.1.n:Int);omega,by have:=h.n9;show(x.1.n:Int)≤_;omega⟩
def HdR (h:Hd):Prop:=NameL (runesOf (nums h.name))∧h.words.length≤6∧(∀t∈h.words,WordR t)∧∀t∈h.words,0≤t.n∧t.n≤18446744073709551615
def ItsR (L:List It):Prop:=EachR L∧NumsR L
theorem itsR_app: ∀ {l m:List It},ItsR l→ItsR m→ItsR (l++m)
 | [],_,_,h=>h
 | .mk n w k kids a b::l,m,h1,h2=>by
  obtain⟨e1,n1⟩:=h1
  rw[EachR]at e1
  rw[NumsR]at n1
  have:=itsR_app (l:=l) (m:=m) ⟨e1.2.2.2.2.2,n1.2.2⟩ h2
  refine⟨?_,?_⟩
  ·rw[List.cons_append,EachR]
   exact⟨e1.1,e1.2.1,e1.2.2.1,e1.2.2.2.1,e1.2.2.2.2.1,this.1⟩
  ·rw[List.cons_append,NumsR]
   exact⟨n1.1,n1.2.1,this.2⟩
theorem itsR_nil:ItsR []:=⟨by simp[EachR],by simp[NumsR]⟩
theorem itsR_one {h:Hd} {k:Bool} {l:List It} (hh:HdR h) (hl:ItsR l) (hk:k=true∨l= []):ItsR [h.it k l]:=by
 refine⟨?_,?_⟩
 ·rw[Hd.it,EachR]
  exact⟨hh.1,hh.2.1,hk,hh.2.2.1,hl.1,by simp[EachR]⟩
 ·rw[Hd.it,NumsR]
  exact⟨hh.2.2.2,hl.2,by simp[NumsR]⟩
theorem trF_right: ∀(T:List Tk3) (st:List (Hd×List It)) (n:Nat) (o:Option Hd) (I:List It),(∀t∈T,T3R t)→(∀y∈st,ItsR y.2)→(∀y∈st.dropLast,HdR y.1)→st≠ []→(∀h,o=some h→HdR h)→trF T st n o= .ok I→ItsR I
 | [],st,n,o,I,_,_,_,_,_,h=>by
  rw[trF]at h
  injection h with h
  rw[←h];exact itsR_nil
 |t::T,st,n,some hd,I,hT,hs,hq,hne,ho,h=>by
  have hw:=ho hd rfl
  have ht:=hT t (Jz ..)
  have hT2: ∀t∈T,T3R t:=fun x hx=>hT x (Jy _ hx)
  have hdl: ∀(x:It) (st:List (Hd×List It)),(∀y∈st.dropLast,HdR y.1)→∀y∈(pushS x st).dropLast,HdR y.1:=fun x st hq y hy=>by
   match st with
   | []=>cases hy
   | [(h,l)]=>simp[pushS]at hy
   |(h,l)::z::st'=>
    simp only[pushS,List.dropLast_cons_cons,List.mem_cons]at hy hq
    rcases hy with rfl|hy
    ·exact hq (h,l) (My rfl)
    ·exact hq y (Mx hy)
  rw[trF]at h
  split at h
  ·exact trF_right T _ _ _ I hT2 (fun y hy=>by
    cases st with
    |nil=>cases hy
    |cons z st=>
     obtain⟨h1,l⟩:=z
     rcases List.mem_cons.mp hy with rfl|hy
     ·exact itsR_app (hs (h1,l) (Jz ..)) (itsR_one hw itsR_nil (Mx rfl))
     ·exact hs y (Jy _ hy)) (hdl _ st hq) (push_ne _ hne) (fun _ e=>by cases e) h
  split at h
  ·refine trF_right T _ _ _ I hT2 (fun y hy=>?_) (fun y hy=>?_) (by simp) (fun _ e=>by cases e) h
   ·rcases List.mem_cons.mp hy with rfl|hy
    ·exact itsR_nil
    ·exact hs y hy
   ·cases st with
    |nil=>exact(hne rfl).elim
    |cons z st=>
     rw[List.dropLast_cons_cons]at hy
     rcases List.mem_cons.mp hy with rfl|hy
     ·exact hw
     ·exact hq y hy
  split at h
  ·cases h
  rename_i hk
  split at h
  ·cases h
  rename_i hl
  refine trF_right T _ _ _ I hT2 hs hq hne (fun x e=>?_) h
  injection e with e
  subst e
  refine⟨hw.1,?_,fun y hy=>?_,fun y hy=>?_⟩
  ·simp only[List.length_append,Jq,List.length_nil];omega
  ·rcases List.mem_append.mp hy with hy|hy
   ·exact hw.2.2.1 y hy
   ·rw[List.mem_singleton.mp hy];exact⟨by omega,by omega,ht.1⟩
  ·rcases List.mem_append.mp hy with hy|hy
   ·exact hw.2.2.2 y hy
   ·rw[List.mem_singleton.mp hy];exact ht.2
 |t::T,st,n,none,I,hT,hs,hq,hne,ho,h=>by
  have ht:=hT t (Jz ..)
  have hT2: ∀t∈T,T3R t:=fun x hx=>hT x (Jy _ hx)
  rw[trF]at h
  split at h
  ·rename_i h8
   match st,hs,hq,h8,h with
   |(hd,l)::(h2,l2)::st',hs,hq,h8,h=>
    have hh:HdR hd:=hq (hd,l) (by simp)
    have hl:=hs (hd,l) (Jz ..)
    refine trF_right T _ _ _ I hT2 (fun y hy=>?_) (fun y hy=>?_) (push_ne _ (by simp)) (fun _ e=>by cases e) (show trF T (pushS (hd.it true l) ((h2,l2)::st')) n none= .ok I from h)
    ·have hy2:y∈(h2,l2++ [hd.it true l])::st':=hy
     rcases List.mem_cons.mp hy2 with rfl|hy2
     ·exact itsR_app (hs (h2,l2) (by simp)) (itsR_one hh hl (My rfl))
     ·exact hs y (by simp[hy2])
    ·have hy2:y∈((h2,l2++ [hd.it true l])::st').dropLast:=hy
     cases st' with
     |nil=>simp at hy2
     |cons z st''=>
      rw[List.dropLast_cons_cons]at hy2
      rcases List.mem_cons.mp hy2 with rfl|hy2
      ·exact hq (h2,l2) (by simp)
      ·exact hq y (by simp only[List.dropLast_cons_cons,List.mem_cons];exact Mx (Mx hy2))
   | [_],_,_,h8,_=>exact absurd h8.2 (by simp)
   | [],_,_,h8,_=>exact absurd h8.2 (by simp)
  split at h
  ·rename_i h1
   injection h with h
   subst h
   match st,hs,h1 with
   | [(h0,M)],hs,_=>exact hs (h0,M) (by simp)
   | [],_,h1=>exact absurd h1.2 (by simp)
   |_::_::_,_,h1=>exact absurd h1.2 (by simp)
  split at h
  ·cases h
  rename_i hk
  split at h
  ·cases h
  split at h
  ·cases h
  refine trF_right T _ _ _ I hT2 hs hq hne (fun x e=>?_) h
  injection e with e
  subst e
  have hk1:t.k=1:=by omega
  have hr:=ht.1
  unfold RightT at hr
  refine⟨?_,by simp,by simp,by simp⟩
  rcases hr with⟨_,hr,_⟩|⟨h1,_⟩|⟨h1,_⟩|⟨h1,_⟩|⟨h1,_⟩|⟨h1,_⟩
  ·exact hr
  all_goals omega
theorem tre_right {l:List Int} (hl:RunesOk l) {I:List It} (h:treF l= .ok I):RightL I∧NumsR I:=by
 obtain⟨L,hL,ht⟩:=treF_toks h
 obtain⟨h1,h2⟩:=tre_few h
 have hT: ∀t∈L.map (tk3 l)++ [tk3 l (tk0,l.length)],T3R t:=fun t ht=>by
  rcases List.mem_append.mp ht with ht|ht
  ·obtain⟨x,hx,rfl⟩:=List.mem_map.mp ht
   exact tk3_right (tokF_right hl _ _ L (Mz _) hL x hx)
  ·rw[List.mem_singleton.mp ht]
   refine tk3_right ⟨?_,Nat.zero_le _⟩
   unfold RightT
   exact Mx (Mx (Mx (Mx (Mx ⟨My rfl,rfl,rfl⟩))))
 have:=trF_right _ _ _ _ I hT (fun y hy=>by rw[List.mem_singleton.mp hy];exact itsR_nil) (by simp) (by simp) (fun _ e=>by cases e) ht
 exact⟨⟨h2,h1,this.1⟩,this.2⟩
end
section
open Go.RowKit
structure SMade (w2:World) (f2:Nat) (U3 W4 W5 W6:World):Prop where
 z3:U3.heap.size=f2+1
 a4:U3.alloc (.cells #[.string ⟨#[]⟩, .slice none 0 0, .bool false, .slice none 0 0, .int .i64 0, .int .i64 0, .slice none 0 0] 75)=W4
 z4:W4.heap.size=f2+2
 a5:W4.alloc (.cells #[.string ⟨#[]⟩, .slice none 0 0, .bool false, .slice none 0 0, .int .i64 0, .int .i64 0] 47)=W5
 s6:((((((W5.setCell ⟨f2+2,0,none⟩ (.string ⟨#[]⟩)).setCell ⟨f2+2,1,none⟩ (.slice none 0 0)).setCell ⟨f2+2,2,none⟩ (.bool false)).setCell ⟨f2+2,3,none⟩ (.slice none 0 0)).setCell ⟨f2+2,4,none⟩ (.int .i64 0)).setCell ⟨f2+2,5,none⟩ (.int .i64 0))=W6
 f5:Var6 W5 (f2+2) (.string ⟨#[]⟩) (.slice none 0 0) (.bool false) (.slice none 0 0) (.int .i64 0) (.int .i64 0)
 x6:Var6 W6 (f2+2) (.string ⟨#[]⟩) (.slice none 0 0) (.bool false) (.slice none 0 0) (.int .i64 0) (.int .i64 0)
 z6:W6.heap.size=f2+3
 k6:Below U3.heap.size U3 W6
 dm:DM (f2+1) (fun _=>False) (f2+1) 1 [⟨{},[], .slice none 0 0, .slice none 0 0,false⟩] W6
def TLz (l:List Value):Nat→Value→World→Prop:=fun k v _=>v=l.getD k undef
def TS (l:List Value):Nat→Value→World→Prop:=fun k v _=>(k<7∨k=11∨k=12)→v=l.getD k undef
structure SM (T:List Tk3) (g0:Nat) (wz:World) (S:Nat→Prop) (g cap:Nat) (E:List En) (o:Option Hd) (n i:Nat) (wr:World):Prop where
 dm:DM g0 S g cap E wr
 xm:XM S (g0+1) o wr
 bel:Below g0 wz wr
 run:trF T [({},[])] 0 none=trF (T.drop i) (E.map En.st) n o
 few:n≤300
 deep:1≤E.length∧E.length≤5∧(o≠none→E.length≤4)
 lens: ∀e∈E,e.l.length≤i
structure AtVar (w:World) (g:Nat) (x y:Int) (W5 W6:World):Prop where
 g0:w.heap.size=g
 a5:w.alloc (.cells #[.int .i64 0, .int .i64 0] 39)=W5
 s6:(W5.setCell ⟨g,0,none⟩ (.int .i64 x)).setCell ⟨g,1,none⟩ (.int .i64 y)=W6
 f5:Var2 W5 g (.int .i64 0) (.int .i64 0)
 f6:Var2 W6 g (.int .i64 x) (.int .i64 y)
 b6:Below w.heap.size w W6
 z6:W6.heap.size=g+1
end
section
open Go.RowKit
def tkAgg (t:Tk3):Value:= .agg #[.int .i64 t.k, .string t.s, .int .u64 t.n, .int .i64 t.a, .int .i64 t.b]
theorem lwrong_any (t:Tk3) (w:World) (env:Env w) (hm:t.s.size≤4294967296):Calls Tryz.prog 55 #[tkAgg t] w (GivesQ (¬WordR t) w):=by
 obtain⟨k,s,n,a,b⟩:=t
 simp only[tkAgg]at hm ⊢
 obtain⟨W0,hW0⟩: ∃W,w.alloc (.cells #[.int .i64 k, .string s, .int .u64 n, .int .i64 a, .int .i64 b] 78)=W:=⟨_,rfl⟩
 have V0:Var5 W0 w.heap.size (.int .i64 k) (.string s) (.int .u64 n) (.int .i64 a) (.int .i64 b):=by rw[←hW0];exact Var5.fresh _ _ _ _ _ _ _ _ rfl
 have g0:Below w.heap.size w W0:=by rw[←hW0];exact(Below.refl _ _).alloc (Mz _) _
 have HG:=Lh g0
 have HRT:=Lh (pright_any k s n a b W0 (env.step g0) hm)
 obtain⟨c0,c1,c2,c3,c4,_,_⟩:=V0
 clear g0 env
 by_cases h1:k<1
 ·have HN:Hid (¬WordR ⟨k,s,n,a,b⟩):=Lh (fun h=>by have:=h.lo;simp only at this;omega)
  go_enter Tryz.func55,Tryz.ntmps55
  go_wp2
  go_ret
  exact GivesQ.yes HN.out HG.out
 by_cases h6:6<k
 ·have HN:Hid (¬WordR ⟨k,s,n,a,b⟩):=Lh (fun h=>by have:=h.hi;simp only at this;omega)
  go_enter Tryz.func55,Tryz.ntmps55
  go_wp2
  go_ret
  exact GivesQ.yes HN.out HG.out
 by_cases hr:RightT k s n
 ·have HN:Hid (¬¬WordR ⟨k,s,n,a,b⟩):=Lh (fun h=>h ⟨by simp only;omega,by simp only;omega,hr⟩)
  have HR:=Lh hr
  clear hr
  go_enter Tryz.func55,Tryz.ntmps55
  go_wp2_with (go_at_call 89;(with_reducible refine(HRT.out).mono ?_);rintro e w2 ⟨q,rfl,hq,h2⟩;obtain rfl:q=true:=hq.mpr HR.out;have G2:=Lh (below_step HG.out h2);clear hq h2)
  go_ret
  exact GivesQ.no HN.out G2.out
 ·have HN:Hid (¬WordR ⟨k,s,n,a,b⟩):=Lh (fun h=>hr h.right)
  have HR:=Lh hr
  clear hr
  go_enter Tryz.func55,Tryz.ntmps55
  go_wp2_with (go_at_call 89;(with_reducible refine(HRT.out).mono ?_);rintro e w2 ⟨q,rfl,hq,h2⟩;obtain rfl:q=false:=(by cases q with|false=>rfl|true=>exact(HR.out (hq.mp rfl)).elim);have G2:=Lh (below_step HG.out h2);clear hq h2)
  go_ret
  exact GivesQ.yes HN.out G2.out
theorem lindex_any (S:Nat→Prop) (v:Value) (l:List Tk3) (w:World) (env:Env w) (h:WordsIs w S v l) (hl:l.length≤1000000000) (hm: ∀t∈l,t.s.size≤4294967296):
  Calls Tryz.prog 88 #[v, .func (.func 55) #[] #[]] w fun e w'=>(∃i:Int,e= .returned (.int .i64 i)∧((0≤i∧¬∀t∈l,WordR t)∨(i= -1∧∀t∈l,WordR t)))∧Below w.heap.size w w':=by
 obtain⟨n,hn⟩: ∃n,l.length=n:=⟨_,rfl⟩
 obtain⟨a1,c1,rfl,k1,hc1⟩:=h
 have H1:=Lh hc1
 have HN:=Lh hn
 have HE:=Lh env
 have HM:=Lh hm
 rw[hn]at hl k1 ⊢
 clear hc1 hn env hm
 go_enter Tryz.func88,Tryz.ntmps88
 go_wp2
 go_loopw [8] (fun v8 wr=> ∃i:Nat,i≤n∧v8= .int .i64 (i:Int)∧Below w.heap.size w wr∧∀j,j<i→WordR (l.getD j {})) (fun v8 _=>n-(intOf v8).toNat)
 case atStart=>exact⟨0,Nat.zero_le _,rfl,Below.refl _ _,fun j hj=>by omega⟩
 case round=>
  obtain⟨i,hi,rfl,hb,hW⟩:=hrel
  have HB:=Lh hb
  have HW:=Lh hW
  clear hW
  by_cases hin:i<n
  ·obtain⟨b1,o1,rfl,s1,e0,e1,e2,e3,e4⟩:=H1.out i (by rw[HN.out];exact hin)
   have hlt:=World.block_lt_of_cell? _ _ e0
   have f0:=(hb.cell (p:=⟨b1,o1+i*5,none⟩) hlt).trans e0
   have f1:=(hb.cell (p:=⟨b1,o1+i*5+1,none⟩) hlt).trans e1
   have f2:=(hb.cell (p:=⟨b1,o1+i*5+2,none⟩) hlt).trans e2
   have f3:=(hb.cell (p:=⟨b1,o1+i*5+3,none⟩) hlt).trans e3
   have f4:=(hb.cell (p:=⟨b1,o1+i*5+4,none⟩) hlt).trans e4
   have hmem:l.getD i {} ∈l:=by
    rw[List.getD_eq_getElem?_getD,List.getElem?_eq_getElem (by rw[HN.out];exact hin)]
    exact List.getElem_mem _
   have HMEM:=Lh hmem
   have HT:=Lh (lwrong_any (l.getD i {}) _ (HE.out.step hb) (HM.out _ hmem))
   have hi1:IntKind.i64.wrap ((i:Int)+1)=((i+1:Nat):Int):=by rw[IntKind.wrap_i64];omega
   obtain⟨t,ht⟩: ∃t,l.getD i {} =t:=⟨_,rfl⟩
   have HTT:=Lh ht
   rw[ht]at f0 f1 f2 f3 f4 HT HMEM
   obtain⟨k,s,m,x,y⟩:=t
   simp only[tkAgg]at f0 f1 f2 f3 f4 HT
   clear e0 e1 e2 e3 e4 hmem ht hb s1 hlt
   by_cases hw:WordR ⟨k,s,m,x,y⟩
   ·have HWW:=Lh hw
    clear hw
    go_wp2_with (go_at_call 55;(with_reducible refine(HT.out).mono ?_);rintro e w2 ⟨q,rfl,hq,h2⟩;obtain rfl:q=false:=(by cases q with|false=>rfl|true=>exact(hq.mp rfl HWW.out).elim);have G2:=Lh (below_step HB.out h2);clear hq h2)
    go_roundw
    case rel=>exact⟨i+1,by omega,by go_num,G2.out,fun j hj=>by
     rcases Nat.lt_or_ge j i with hx|hx
     ·exact HW.out j hx
     ·obtain rfl:j=i:=by omega
      rw[HTT.out];exact HWW.out⟩
    case measure=>simp[intOf];omega
   ·have HWW:=Lh hw
    have HI:Hid ((0:Int)≤(i:Int)):=Lh (by omega)
    clear hw
    go_wp2_with (go_at_call 55;(with_reducible refine(HT.out).mono ?_);rintro e w2 ⟨q,rfl,hq,h2⟩;obtain rfl:q=true:=hq.mpr HWW.out;have G2:=Lh (below_step HB.out h2);clear hq h2)
    go_ret
    exact⟨⟨_,rfl,My ⟨HI.out,fun hall=>HWW.out (hall _ HMEM.out)⟩⟩,G2.out⟩
  ·have en:n=i:=by omega
   subst en
   clear hb
   go_wp2
   go_ret
   exact⟨⟨_,rfl,Mx ⟨rfl,fun t ht=>by
    obtain⟨j,hj,rfl⟩:=List.getElem_of_mem ht
    have:=HW.out j (by rw[←HN.out];exact hj)
    rw[List.getD_eq_getElem?_getD,List.getElem?_eq_getElem hj]at this
    exact this⟩⟩,HB.out⟩
theorem lcontains_any (S:Nat→Prop) (v:Value) (l:List Tk3) (w:World) (env:Env w) (h:WordsIs w S v l) (hl:l.length≤1000000000) (hm: ∀t∈l,t.s.size≤4294967296):
  Calls Tryz.prog 54 #[v, .func (.func 55) #[] #[]] w (GivesQ (¬∀t∈l,WordR t) w):=by
 have HI:=Lh (lindex_any S v l w env h hl hm)
 obtain⟨a1,c1,rfl⟩:=h.size
 obtain⟨n,hn⟩: ∃n,l.length=n:=⟨_,rfl⟩
 rw[hn]at HI ⊢
 clear h hm env hn
 go_enter Tryz.func54,Tryz.ntmps54
 go_wp2_with (go_at_call 88;(with_reducible refine(HI.out).mono ?_);rintro e w2 ⟨⟨i,rfl,(⟨hi,hall⟩|⟨rfl,hall⟩)⟩,h2⟩<;>(have HA:=Lh hall;have G2:=Lh h2;clear hall h2))
 ·go_ret
  exact GivesQ.yes HA.out G2.out
 ·go_ret
  exact GivesQ.no (fun h=>h HA.out) G2.out
def ItemR (x:It):Prop:=NameL (runesOf (nums x.name))∧x.words.length≤6∧(∀t∈x.words,WordR t)∧(x.block=true∨x.kids= [])
theorem lritem_any (S:Nat→Prop) (D:Nat) (nm:ByteArray) (wd:List Tk3) (bk:Bool) (kd:List It) (pa pb:Int) (wv kv:Value) (w:World) (env:Env w) (hw:WordsIs w S wv wd) (hk:ItemsIs D w S kv kd) (hl:wd.length≤1000000000) (hlk:kd.length≤1000000000) (hn:nm.size≤4294967296) (hm: ∀t∈wd,t.s.size≤4294967296):
  Calls Tryz.prog 32 #[.agg #[.string nm,wv, .bool bk,kv, .int .i64 pa, .int .i64 pb]] w (GivesQ (ItemR (.mk nm wd bk kd pa pb)) w):=by
 obtain⟨wa,wc,rfl⟩:=hw.size
 obtain⟨ka,kc,rfl⟩:=hk.size
 obtain⟨W0,hW0⟩: ∃W,w.alloc (.cells #[.string nm, .slice wa wd.length wc, .bool bk, .slice ka kd.length kc, .int .i64 pa, .int .i64 pb] 47)=W:=⟨_,rfl⟩
 have V0:Var6 W0 w.heap.size (.string nm) (.slice wa wd.length wc) (.bool bk) (.slice ka kd.length kc) (.int .i64 pa) (.int .i64 pb):=by rw[←hW0];exact Var6.fresh _ _ _ _ _ _ _ _ _ rfl
 have g0:Below w.heap.size w W0:=by rw[←hW0];exact(Below.refl _ _).alloc (Mz _) _
 have HG:=Lh g0
 have HV:=Lh V0
 have HNA:=Lh (tname_any nm W0 (env.step g0) hn)
 have HWS:Hid (∀W,Below w.heap.size w W→WordsIs W S (.slice wa wd.length wc) wd):=Lh (fun W hb=>by
  obtain⟨a,c,e,hc,hcell⟩:=hw
  refine⟨a,c,e,hc,fun i hi=>?_⟩
  obtain⟨b,off,rfl,hs,q0,q1,q2,q3,q4⟩:=hcell i hi
  have hlt:=World.block_lt_of_cell? _ _ q0
  exact⟨b,off,rfl,hs,(hb.cell (p:=⟨b,off+i*5,none⟩) hlt).trans q0,(hb.cell (p:=⟨b,off+i*5+1,none⟩) hlt).trans q1,(hb.cell (p:=⟨b,off+i*5+2,none⟩) hlt).trans q2,(hb.cell (p:=⟨b,off+i*5+3,none⟩) hlt).trans q3,(hb.cell (p:=⟨b,off+i*5+4,none⟩) hlt).trans q4⟩)
 have HCT:Hid (∀W,Below w.heap.size w W→Calls Tryz.prog 54 #[.slice wa wd.length wc, .func (.func 55) #[] #[]] W (GivesQ (¬∀t∈wd,WordR t) W)):=
  Lh (fun W hb=>lcontains_any S _ wd W (env.step hb) (HWS.out W hb) hl hm)
 obtain⟨c0,c1,c2,c3,_,_,_,_⟩:=V0
 have hIR:ItemR (.mk nm wd bk kd pa pb)↔NameL (runesOf (nums nm))∧wd.length≤6∧(∀t∈wd,WordR t)∧(bk=true∨kd= []):=Iff.rfl
 have HIR:=Lh hIR
 have hkl:kd= []↔kd.length=0:=by rw[List.length_eq_zero_iff]
 have HKL:=Lh hkl
 obtain⟨n,hn2⟩: ∃n,wd.length=n:=⟨_,rfl⟩
 obtain⟨m,hm2⟩: ∃n,kd.length=n:=⟨_,rfl⟩
 rw[hn2]at HIR c1 hl HCT HV hW0 ⊢
 rw[hm2]at HKL c3 hlk HV hW0 ⊢
 clear hIR hkl g0 env hw hk hn2 hm2 hm HWS hn
 by_cases hN:NameL (runesOf (nums nm))
 ·have HN:=Lh hN
  clear hN
  by_cases hl6:n≤6
  ·have hl6':(n:Int)≤6:=by omega
   by_cases hall: ∀t∈wd,WordR t
   ·have HA:=Lh hall
    clear hall
    cases bk with
    |true=>
     have HP:=Lh (HIR.out.mpr ⟨HN.out,hl6,HA.out,My rfl⟩)
     go_enter Tryz.func32,Tryz.ntmps32
     go_wp2_with (first
      |(go_at_call 53;(with_reducible refine(HNA.out).mono ?_);rintro e w2 ⟨q,rfl,hq,h2⟩;obtain rfl:q=true:=hq.mpr HN.out;have G2:=Lh (below_step HG.out h2);have V2:=Lh (HV.out.after h2);have d1:=V2.out.c1;have d2:=V2.out.c2;have d3:=V2.out.c3;clear hq h2)
      |(go_at_call 54;(with_reducible refine(HCT.out _ G2.out).mono ?_);rintro e w3 ⟨q,rfl,hq,h2⟩;obtain rfl:q=false:=(by cases q with|false=>rfl|true=>exact(hq.mp rfl HA.out).elim);have G3:=Lh (below_step G2.out h2);have V3:=Lh (V2.out.after h2);have k2:=V3.out.c2;have k3:=V3.out.c3;clear hq h2))
     go_ret
     exact GivesQ.yes HP.out G3.out
    |false=>
     by_cases hk0:m=0
     ·have HP:=Lh (HIR.out.mpr ⟨HN.out,hl6,HA.out,Mx (HKL.out.mpr hk0)⟩)
      subst hk0
      go_enter Tryz.func32,Tryz.ntmps32
      go_wp2_with (first
       |(go_at_call 53;(with_reducible refine(HNA.out).mono ?_);rintro e w2 ⟨q,rfl,hq,h2⟩;obtain rfl:q=true:=hq.mpr HN.out;have G2:=Lh (below_step HG.out h2);have V2:=Lh (HV.out.after h2);have d1:=V2.out.c1;have d2:=V2.out.c2;have d3:=V2.out.c3;clear hq h2)
       |(go_at_call 54;(with_reducible refine(HCT.out _ G2.out).mono ?_);rintro e w3 ⟨q,rfl,hq,h2⟩;obtain rfl:q=false:=(by cases q with|false=>rfl|true=>exact(hq.mp rfl HA.out).elim);have G3:=Lh (below_step G2.out h2);have V3:=Lh (V2.out.after h2);have k2:=V3.out.c2;have k3:=V3.out.c3;clear hq h2))
      go_ret
      exact GivesQ.yes HP.out G3.out
     ·have HP:Hid (¬ItemR (.mk nm wd false kd pa pb)):=Lh (fun h=>by
       rcases(HIR.out.mp h).2.2.2 with h|h
       ·cases h
       ·exact hk0 (HKL.out.mp h))
      have hkb:((m:Int)==0)=false:=by simp;omega
      go_enter Tryz.func32,Tryz.ntmps32
      go_wp2_with (first
       |(go_at_call 53;(with_reducible refine(HNA.out).mono ?_);rintro e w2 ⟨q,rfl,hq,h2⟩;obtain rfl:q=true:=hq.mpr HN.out;have G2:=Lh (below_step HG.out h2);have V2:=Lh (HV.out.after h2);have d1:=V2.out.c1;have d2:=V2.out.c2;have d3:=V2.out.c3;clear hq h2)
       |(go_at_call 54;(with_reducible refine(HCT.out _ G2.out).mono ?_);rintro e w3 ⟨q,rfl,hq,h2⟩;obtain rfl:q=false:=(by cases q with|false=>rfl|true=>exact(hq.mp rfl HA.out).elim);have G3:=Lh (below_step G2.out h2);have V3:=Lh (V2.out.after h2);have k2:=V3.out.c2;have k3:=V3.out.c3;clear hq h2))
      go_ret
      exact GivesQ.no HP.out G3.out
   ·have HA:=Lh hall
    have HP:=Lh (fun h=>hall (HIR.out.mp h).2.2.1)
    clear hall
    go_enter Tryz.func32,Tryz.ntmps32
    go_wp2_with (first
     |(go_at_call 53;(with_reducible refine(HNA.out).mono ?_);rintro e w2 ⟨q,rfl,hq,h2⟩;obtain rfl:q=true:=hq.mpr HN.out;have G2:=Lh (below_step HG.out h2);have V2:=Lh (HV.out.after h2);have d1:=V2.out.c1;have d2:=V2.out.c2;have d3:=V2.out.c3;clear hq h2)
     |(go_at_call 54;(with_reducible refine(HCT.out _ G2.out).mono ?_);rintro e w3 ⟨q,rfl,hq,h2⟩;obtain rfl:q=true:=hq.mpr HA.out;have G3:=Lh (below_step G2.out h2);have V3:=Lh (V2.out.after h2);have k2:=V3.out.c2;have k3:=V3.out.c3;clear hq h2))
    go_ret
    exact GivesQ.no HP.out G3.out
  ·have hl6': ¬(n:Int)≤6:=by omega
   have HP:=Lh (fun h=>hl6 (HIR.out.mp h).2.1)
   go_enter Tryz.func32,Tryz.ntmps32
   go_wp2_with (go_at_call 53;(with_reducible refine(HNA.out).mono ?_);rintro e w2 ⟨q,rfl,hq,h2⟩;obtain rfl:q=true:=hq.mpr HN.out;have G2:=Lh (below_step HG.out h2);have V2:=Lh (HV.out.after h2);have d1:=V2.out.c1;have d2:=V2.out.c2;have d3:=V2.out.c3;clear hq h2)
   go_ret
   exact GivesQ.no HP.out G2.out
 ·have HN:=Lh hN
  have HP:=Lh (fun h=>hN (HIR.out.mp h).1)
  clear hN
  go_enter Tryz.func32,Tryz.ntmps32
  go_wp2_with (go_at_call 53;(with_reducible refine(HNA.out).mono ?_);rintro e w2 ⟨q,rfl,hq,h2⟩;obtain rfl:q=false:=(by cases q with|false=>rfl|true=>exact(HN.out (hq.mp rfl)).elim);have G2:=Lh (below_step HG.out h2);have V2:=Lh (HV.out.after h2);have d1:=V2.out.c1;clear hq h2)
  go_ret
  exact GivesQ.no HP.out G2.out
end
end Go.Proofs.YtalcagmhdppdjaaGreatDoor
