/-
  Package compile: a list's items, one by one: walked.
-/
import Derived.Test.YtalcagmhdppdjaaGreatDoorPkCompileTurns14
set_option maxRecDepth 100000
set_option maxHeartbeats 8000000
namespace Go.Proofs.YtalcagmhdppdjaaGreatDoor
open Lib renaming hid→Lh
open Go.RowKit.Below renaming refl→Mj
open Or renaming inr→Mx,inl→My
open Nat renaming le_refl→Mz,le_trans→Kz
open List renaming length_append→Kq,length_cons→Jq,mem_cons_of_mem→Jy,mem_cons_self→Jz
open World renaming cell?_of_block→Kk
section
open Go.RowKit Go.Shelf
def LightX (x:It):Prop:=x.name.size≤2000∧x.words.length≤20∧∀t∈x.words,t.s.size≤2000∧0≤t.n∧t.n≤18446744073709551615
def LightL:List It→Prop
 | []=>True
 | .mk n w k kids a b::l=>LightX (.mk n w k kids a b)∧LightL kids∧LightL l
theorem ItemsIs.belowS {d:Nat} {w w':World} {S:Nat→Prop} {v:Value} {L:List It} (h:ItemsIs d w S v L) (hS: ∀b,S b→b<w.heap.size) (hb:Below w.heap.size w w'):ItemsIs d w' S v L:=h.keep (fun _ h=>h) (fun b hx=>hb.block b (hS b hx))
theorem LightL.flat: ∀ {L:List It} (d:Nat),LightL L→∀y∈flatL d L,LightX y.2
 | [],d,_,y,hy=>by rw[flatL]at hy;cases hy
 | .mk n w k kids a b::l,d,h,y,hy=>by
  rw[LightL]at h
  rw[flatL]at hy
  rcases List.mem_cons.mp hy with rfl|hy
  ·exact h.1
  ·rcases List.mem_append.mp hy with hy|hy
   ·exact LightL.flat _ h.2.1 y hy
   ·exact LightL.flat _ h.2.2 y hy
theorem kids_few: ∀ {L:List It} (d:Nat),∀y∈flatL d L,y.2.kids.length≤cntL L
 | [],d,y,hy=>by rw[flatL]at hy;cases hy
 | .mk n w k kids a b::l,d,y,hy=>by
  rw[flatL]at hy
  rw[cntL]
  rcases List.mem_cons.mp hy with rfl|hy
  ·have:=len_cnt kids
   simp only[It.kids];omega
  ·rcases List.mem_append.mp hy with hy|hy
   ·have:=kids_few _ y hy;omega
   ·have:=kids_few _ y hy;omega
theorem each_flat: ∀(L:List It) (d:Nat),(∀y∈flatL d L,ItemR y.2)↔EachR L
 | [],d=>by simp[flatL,EachR]
 | .mk n w k kids a b::l,d=>by
  rw[flatL,EachR,←each_flat kids (d+1),←each_flat l d]
  constructor
  ·intro h
   have h1:=h _ (Jz ..)
   exact⟨h1.1,h1.2.1,h1.2.2.2,h1.2.2.1,fun y hy=>h y (Jy _ (List.mem_append_left _ hy)),fun y hy=>h y (Jy _ (List.mem_append_right _ hy))⟩
  ·rintro⟨h1,h2,h3,h4,h5,h6⟩ y hy
   rcases List.mem_cons.mp hy with rfl|hy
   ·exact⟨h1,h2,h4,h3⟩
   ·rcases List.mem_append.mp hy with hy|hy
    ·exact h5 y hy
    ·exact h6 y hy
theorem deep_flat (m:Nat): ∀(L:List It) (d:Nat),1≤d→((∀y∈flatL d L,y.1≤m)↔(L= []∨d+depL L≤m+1))
 | [],d,_=>by simp[flatL]
 | .mk n w k kids a b::l,d,hd=>by
  have i1:=deep_flat m kids (d+1) (by omega)
  have i2:=deep_flat m l d hd
  have h1:kids= []→depL kids=0:=fun e=>by rw[e];simp[depL]
  have h2:l= []→depL l=0:=fun e=>by rw[e];simp[depL]
  rw[flatL,depL]
  constructor
  ·intro h
   have q:=h _ (Jz ..)
   simp only at q
   have q1:=i1.mp (fun y hy=>h y (Jy _ (List.mem_append_left _ hy)))
   have q2:=i2.mp (fun y hy=>h y (Jy _ (List.mem_append_right _ hy)))
   right
   rcases q1 with q1|q1<;>rcases q2 with q2|q2
   ·have:=h1 q1;have:=h2 q2;omega
   ·have:=h1 q1;omega
   ·have:=h2 q2;omega
   ·omega
  ·intro h y hy
   rcases h with h|h
   ·cases h
   rcases List.mem_cons.mp hy with rfl|hy
   ·simp only;omega
   ·rcases List.mem_append.mp hy with hy|hy
    ·exact i1.mpr (by right;omega) y hy
    ·exact i2.mpr (by right;omega) y hy
theorem right_flat (L:List It):RightL L↔(∀y∈flatL 1 L,y.1≤4∧ItemR y.2)∧cntL L≤300:=by
 constructor
 ·intro h
  have h1:=(deep_flat 4 L 1 (Mz _)).mpr (by right;have:=h.deep;omega)
  have h2:=(each_flat L 1).mpr h.each
  exact⟨fun y hy=>⟨h1 y hy,h2 y hy⟩,h.many⟩
 ·rintro⟨h1,h2⟩
  have q:=(deep_flat 4 L 1 (Mz _)).mp (fun y hy=>(h1 y hy).1)
  refine⟨?_,h2,(each_flat L 1).mp (fun y hy=>(h1 y hy).2)⟩
  rcases q with q|q
  ·rw[q];simp[depL]
  ·omega
theorem fresh6 (V:World) (x0 x1 x2 x3 x4 x5:Value): ∃W0 W1,V.alloc (.cells #[.string ⟨#[]⟩, .slice none 0 0, .bool false, .slice none 0 0, .int .i64 0, .int .i64 0] 47)=W0∧put6 W0 V.heap.size x0 x1 x2 x3 x4 x5=W1∧
  Var6 W0 V.heap.size (.string ⟨#[]⟩) (.slice none 0 0) (.bool false) (.slice none 0 0) (.int .i64 0) (.int .i64 0)∧Var6 W1 V.heap.size x0 x1 x2 x3 x4 x5∧Below V.heap.size V W1:=by
 refine⟨_,_,rfl,rfl,Var6.fresh _ _ _ _ _ _ _ _ _ rfl,(Var6.fresh _ _ _ _ _ _ _ _ _ rfl).put _ _ _ _ _ _,below_put6 ((Mj _ _).alloc (Mz _) _) (Mz _) _ _ _ _ _ _⟩
theorem Var6.putObj {W:World} {p:Nat} {x0 x1 x2 x3 x4 x5:Value} (h:Var6 W p x0 x1 x2 x3 x4 x5) (l:Nat) (o:Obj) (hl:p≠l):Var6 (W.putObj l o) p x0 x1 x2 x3 x4 x5:=h.stay (World.putObj_heap_other hl) (by rw[World.putObj_size];exact Mz _)
structure RtI (w0:World) (q:Nat) (b:Bool) (x:Int) (v:Value) (V:World):Prop where
 bel:Below w0.heap.size w0 V
 res:V.cell? ⟨q,0,none⟩=some (.bool b)
 fr:V.frozen? ⟨q,0,none⟩=false
 val:V.cell? ⟨q+1,0,none⟩=some (.int .i64 x)
 fz:V.frozen? ⟨q+1,0,none⟩=false
 box:V.cell? ⟨q+2,0,none⟩=some v
theorem RtI.lt {w0 V:World} {q:Nat} {b:Bool} {x:Int} {v:Value} (h:RtI w0 q b x v V):q+2<V.heap.size:=World.block_lt_of_cell? _ _ h.box
theorem RtI.stay {w0 V V':World} {q:Nat} {b:Bool} {x:Int} {v:Value} (h:RtI w0 q b x v V) (hb:Below w0.heap.size w0 V') (hs: ∀i,q≤i→i≤q+2→V'.heap[i]?=V.heap[i]?):RtI w0 q b x v V':=
 ⟨hb,(Kk (a:=⟨q,0,none⟩) (hs q (by omega) (by omega))).trans h.res,(World.frozen?_of_block (a:=⟨q,0,none⟩) (hs q (by omega) (by omega))).trans h.fr,(Kk (a:=⟨q+1,0,none⟩) (hs (q+1) (by omega) (by omega))).trans h.val,
  (World.frozen?_of_block (a:=⟨q+1,0,none⟩) (hs (q+1) (by omega) (by omega))).trans h.fz,(Kk (a:=⟨q+2,0,none⟩) (hs (q+2) (by omega) (by omega))).trans h.box⟩
theorem RtI.below {w0 V V':World} {q:Nat} {b:Bool} {x:Int} {v:Value} (h:RtI w0 q b x v V) (hb:Below V.heap.size V V'):RtI w0 q b x v V':=by
 have:=h.lt
 exact h.stay (h.bel.trans (hb.mono h.bel.size)) (fun i _ hi=>hb.block i (by omega))
theorem RtI.set {w0 V:World} {q:Nat} {b:Bool} {x:Int} {v:Value} (h:RtI w0 q b x v V) (hq:w0.heap.size≤q) (y:Int):RtI w0 q b y v (V.setCell ⟨q+1,0,none⟩ (.int .i64 y)):=
 ⟨h.bel.setCell (p:=⟨q+1,0,none⟩) (by show _≤q+1;omega) _,(Kk (a:=⟨q,0,none⟩) (sset_else _ _ _ _ _ (by show q≠q+1;omega))).trans h.res,(by rw[World.frozen?_setCell];exact h.fr),World.cell?_setCell_same' _ _ _ (by rw[h.val];rfl),(by rw[World.frozen?_setCell];exact h.fz),
  (Kk (a:=⟨q+2,0,none⟩) (sset_else _ _ _ _ _ (by show q+2≠q+1;omega))).trans h.box⟩
theorem RtI.tell {w0 V:World} {q:Nat} {b:Bool} {x:Int} {v:Value} (h:RtI w0 q b x v V) (hq:w0.heap.size≤q) (c:Bool):RtI w0 q c x v (V.setCell ⟨q,0,none⟩ (.bool c)):=
 ⟨h.bel.setCell (p:=⟨q,0,none⟩) hq _,World.cell?_setCell_same' _ _ _ (by rw[h.res];rfl),(by rw[World.frozen?_setCell];exact h.fr),(Kk (a:=⟨q+1,0,none⟩) (sset_else _ _ _ _ _ (by show q+1≠q;omega))).trans h.val,(by rw[World.frozen?_setCell];exact h.fz),
  (Kk (a:=⟨q+2,0,none⟩) (sset_else _ _ _ _ _ (by show q+2≠q;omega))).trans h.box⟩
theorem RtI.putObj {w0 V:World} {q:Nat} {b:Bool} {x:Int} {v:Value} (h:RtI w0 q b x v V) (l:Nat) (o:Obj) (hl:w0.heap.size≤l) (hq:q+2<l):RtI w0 q b x v (V.putObj l o):=
 h.stay (below_putObj h.bel hl o) (fun i _ hi=>World.putObj_heap_other (by omega))
section
attribute [local go_sem] Oper.semAt_some
theorem lright_any (D:Nat) (S:Nat→Prop) (v:Value) (L:List It) (w:World) (env:Env w) (h:ItemsIs D w S v L) (hS: ∀b,S b→b<w.heap.size) (hm:cntL L≤1000000) (hd:depL L≤900000) (hl:LightL L):
  Calls Tryz.prog 21 #[v] w (GivesQ (RightL L) w):=by
 have hC0: ∀o1 o2,RtI w w.heap.size false 0 v (((((w.alloc (.cells #[.bool false] 4)).alloc (.cells #[.int .i64 0] 3)).alloc (.cells #[v] 34)).alloc o1).alloc o2):=fun o1 o2=>by
  have h0:RtI w w.heap.size false 0 v (((w.alloc (.cells #[.bool false] 4)).alloc (.cells #[.int .i64 0] 3)).alloc (.cells #[v] 34)):=
   ⟨below_more (below_more (below_more (Mj w.heap.size w) _) _) _,by simp[go_sem],by simp[go_sem],by simp[go_sem],by simp[go_sem],by simp[go_sem]⟩
  exact(h0.below ((Mj _ _).alloc (Mz _) o1)).below ((Mj _ _).alloc (Mz _) o2)
 have HR:=Lh (litems_range w S D v L (w.heap.size+2) (3-1) h hS (by omega) hd)
 obtain⟨a,cap,rfl⟩:=h.size
 have HC:=Lh (fun W=>litems_same a L.length cap W)
 have HFL:=Lh (right_flat L)
 have HLT:=Lh (LightL.flat 1 hl)
 have HKF:=Lh (fun y (hy:y∈flatL 1 L)=>Kz (kids_few 1 y hy) hm)
 have HLN:=Lh (flatL_len L 1)
 have HE:=Lh env
 have HS:=Lh hS
 obtain⟨m,hm2⟩: ∃m,cntL L=m:=⟨_,rfl⟩
 obtain⟨len,hlen⟩: ∃n,L.length=n:=⟨_,rfl⟩
 rw[hm2]at HR hm HFL HLN
 rw[hlen]at HR HC hC0 ⊢
 have HC0:=Lh hC0
 clear h hm2 hS hlen hC0 hl env
 refine(callsIn_wide (n:=3)).1 ?_
 refine callsIn_of_wp_marks Tryz.func21 rfl trivial ?_ rfl
 simp only[Tryz.ntmps21,List.size_toArray,Jq,List.length_nil,Nat.reduceAdd,Nat.reduceSub,Array.replicate_succ,Array.replicate_zero,List.push_toArray,List.append_toArray,List.nil_append,List.cons_append]
 gi_wp2_with (refine⟨trivial,?_⟩;gi_at_call 31;refine(callsIn_wide.2 (HC.out _)).mono ?_;rintro e w1 ⟨rfl,rfl⟩)
 refine wp_rangeT (n:=3) (by decide) (gf:=51) (lb:= #[.pointer (some ⟨w.heap.size+2,0,none⟩)]) rfl (enters_of Tryz.func51 (by kernel_rfl) rfl) rfl
  (G:=FlAt w S (flatL 1 L)) (m:=m) (Kc:=fun V=>Below w.heap.size w V∧V.cell? ⟨w.heap.size+2,0,none⟩=some (.slice a len cap)) HR.out
  (fun k V=>RtI w w.heap.size false (k:Int) (.slice a len cap) V∧k≤300∧∀j y,j<k→(flatL 1 L)[j]?=some y→y.1≤4∧ItemR y.2) (fun V=>(∃x,RtI w w.heap.size false x (.slice a len cap) V)∧¬RightL L)
  (fun k V h=>⟨h.1.bel,h.1.box⟩) (fun k V V' h hb=>⟨h.1.below hb,h.2⟩) (fun k V o _ _ h=>⟨h.1.putObj _ _ (by simp<;>omega) (by simp<;>omega),h.2⟩) (fun V o _ _ h=>⟨h.1.imp (fun x hx=>hx.putObj _ _ (by simp<;>omega) (by simp<;>omega)),h.2⟩) ?h0
  (fun p q=> { tmps:= #[.slice a len cap,undef, .pointer (some ⟨w.heap.size,0,none⟩), .pointer (some ⟨w.heap.size+1,0,none⟩), .int .i64 (p.d:Int), .pointer (some ⟨q,0,none⟩), .slice a len cap, .func (.func 51) #[] #[.pointer (some ⟨w.heap.size+2,0,none⟩)], .int .i64 (p.d:Int),p.item,undef,undef,undef,undef,undef,undef,undef,undef,undef,undef,undef,undef,undef],defers:= [] })
  (fun p q V=>w.heap.size+5≤q∧Var6 V q (.string p.x.name) p.wv (.bool p.x.block) p.kv (.int .i64 p.x.a) (.int .i64 p.x.b)) ?hap ?assign ?body ?done ?stop
 case h0=>
  intro o1 o2
  exact⟨HC0.out o1 o2,by omega,fun j y hj=>by omega⟩
 case hap=>
  rintro p q V o ⟨h1,h2⟩
  exact⟨h1,h2.putObj _ _ (by simp<;>omega)⟩
 case assign=>
  intro k p V K hG hs hK
  obtain⟨wa,wc,hwv⟩:=hG.ws.size
  obtain⟨D2,hks⟩:=hG.ks
  obtain⟨ka,kc,hkv⟩:=hks.size
  obtain⟨d,⟨nm,wd,bk,kd,pa,pb⟩,wv,kv⟩:=p
  simp only at hwv hkv
  subst hwv hkv
  simp only[It.words,It.kids,It.name,It.block,It.a,It.b]at hK
  obtain⟨wl,hwl⟩: ∃n,wd.length=n:=⟨_,rfl⟩
  obtain⟨kl,hkl⟩: ∃n,kd.length=n:=⟨_,rfl⟩
  simp only[Fl.enc,Fl.item,It.words,It.kids,It.name,It.block,It.a,It.b]at hK ⊢
  rw[hwl,hkl]at hK ⊢
  obtain⟨W0,W1,hW0,hW1,V0,V1,g1⟩:=fresh6 V (.string nm) (.slice wa wl wc) (.bool bk) (.slice ka kl kc) (.int .i64 pa) (.int .i64 pb)
  have h1:=hK V.heap.size W1 g1 ⟨by simp at hs;omega,V1⟩
  obtain⟨y0,y1,y2,y3,y4,y5,yq,ys⟩:=V0
  have z0:=yq 0
  have z1:=yq 1
  have z2:=yq 2
  have z3:=yq 3
  have z4:=yq 4
  have z5:=yq 5
  unfold put6 at hW1
  clear yq ys hK V1 g1 hG hks hwl hkl
  gi_wp2
  simpa using h1
 case body=>
  rintro k p q V ⟨hi,hk3,hall⟩ hk hG ⟨hq5,hV6⟩ hs _ _
  have hmem:(p.d,p.x)∈flatL 1 L:=List.mem_of_getElem? hG.here
  have hlight:=HLT.out _ hmem
  have hkfew:=HKF.out _ hmem
  obtain⟨D2,hks⟩:=hG.ks
  have hws:=hG.ws
  have hhere:=hG.here
  obtain⟨d,x,wv,kv⟩:=p
  simp only at hV6 hmem hlight hkfew hks hws hhere ⊢
  have c1:=hi.val
  have z1:=hi.fz
  have r0:=hi.res
  have rz:=hi.fr
  have hlt:=hi.lt
  have hw:IntKind.i64.wrap ((k:Int)+1)=(k:Int)+1:=by rw[IntKind.wrap_i64];omega
  have hcast:((k+1:Nat):Int)=(k:Int)+1:=by omega
  obtain⟨V1,hV1⟩: ∃V1,V.setCell ⟨w.heap.size+1,0,none⟩ (.int .i64 ((k:Int)+1))=V1:=⟨_,rfl⟩
  have hi1:RtI w w.heap.size false ((k:Int)+1) (.slice a len cap) V1:=by rw[←hV1];exact hi.set (Mz _) _
  have he1: ∀j,j≠w.heap.size+1→V1.heap[j]?=V.heap[j]?:=fun j hj=>by rw[←hV1];exact sset_else _ _ _ _ _ hj
  have hs1:V1.heap.size=V.heap.size:=by rw[←hV1];simp
  have hV61:Var6 V1 q (.string x.name) wv (.bool x.block) kv (.int .i64 x.a) (.int .i64 x.b):=hV6.stay (he1 q (by omega)) (by omega)
  have hkeep:Hid (∀W,Below V1.heap.size V1 W→RtI w w.heap.size false ((k:Int)+1) (.slice a len cap) W∧W.heap[w.heap.size+3]?=V.heap[w.heap.size+3]?∧W.heap[w.heap.size+3+1]?=V.heap[w.heap.size+3+1]?∧Keeps (w.heap.size+3+2) V W):=Lh (fun W hb=>by
   simp at hs
   exact⟨hi1.below hb,(hb.block _ (by omega)).trans (he1 _ (by omega)),(hb.block _ (by omega)).trans (he1 _ (by omega)),Keeps.at (by have:=hb.size;omega) (fun i h1 h2=>(hb.block i (by omega)).trans (he1 i (by omega)))⟩)
  have HI1:=Lh hi1
  have HALL:=Lh hall
  have HM:=Lh hmem
  have HH:=Lh hhere
  have r1:=hi1.res
  have rz1:=hi1.fr
  have rv1:=hi1.val
  have hss:=hs
  simp only[World.size_alloc]at hss
  by_cases hd4:d≤4
  ·have hd4':(d:Int)≤4:=by omega
   by_cases hk300:k+1≤300
   ·have hk300':(k:Int)+1≤300:=by omega
    obtain⟨⟨nm,wd,bk,kd,pa,pb⟩,hx⟩: ∃y,x=y:=⟨_,rfl⟩
    have hbel:=hi1.bel
    have hRI:=lritem_any S D2 nm wd bk kd pa pb wv kv V1 (HE.out.step hbel) (by rw[hx]at hws;exact hws.keep (fun _ h=>h) (fun b hb=>hbel.block b (HS.out b hb))) (by rw[hx]at hks;exact hks.keep (fun _ h=>h) (fun b hb=>hbel.block b (HS.out b hb)))
     (by rw[hx]at hlight;have:=hlight.2.1;simp only[It.words]at this;omega) (by rw[hx]at hkfew;simp only[It.kids]at hkfew;omega) (by rw[hx]at hlight;have:=hlight.1;simp only[It.name]at this;omega) (fun t ht=>by rw[hx]at hlight;have:=(hlight.2.2 t ht).1;omega)
    have HRI:=Lh hRI
    obtain⟨wa,wc,hwv⟩:=hws.size
    obtain⟨ka,kc,hkv⟩:=hks.size
    obtain⟨wl,hwl⟩: ∃n,x.words.length=n:=⟨_,rfl⟩
    obtain⟨kl,hkl⟩: ∃n,x.kids.length=n:=⟨_,rfl⟩
    rw[hwl]at hwv
    rw[hkl]at hkv
    subst hwv hkv
    rw[hx]at hV61 HH HM
    simp only[It.name,It.block,It.a,It.b]at hV61
    obtain⟨y0,y1,y2,y3,y4,y5,_,_⟩:=hV61
    simp only[Fl.item]
    have hn2:1≤3-1-1:=by decide
    by_cases hIR:ItemR (.mk nm wd bk kd pa pb)
    ·have HIR:=Lh hIR
     have HNX:Hid (∀j y,j<k+1→(flatL 1 L)[j]?=some y→y.1≤4∧ItemR y.2):=Lh (fun j y hj e=>by
      rcases Nat.lt_or_ge j k with hx2|hx2
      ·exact HALL.out j y hx2 e
      ·obtain rfl:j=k:=by omega
       rw[HH.out]at e
       injection e with e
       subst e
       exact⟨hd4,HIR.out⟩)
     clear hall hmem hhere hx hbel hRI hws hks hlight hkfew hi hi1 hV6 hwl hkl hIR hG hs he1 hs1 r0 rz
     gi_wp2_with (refine⟨trivial,?_⟩;gi_at_call 32;refine(CallsIn.inRound _ (callsIn_wide.2 HRI.out)).mono ?_;rintro e w2 ⟨b,rfl,hq,g2⟩;obtain rfl:b=true:=hq.mpr HIR.out;have G2:=Lh g2;clear hq g2)
     obtain⟨q1,q2,q3,q4⟩:=hkeep.out _ G2.out
     simp only[World.size_alloc]
     exact⟨⟨by rw[hcast];exact q1,hk300,HNX.out⟩,q2,q3,q4⟩
    ·have HIR:=Lh hIR
     have HNR:Hid (¬RightL L):=Lh (fun h=>HIR.out (((HFL.out.mp h).1 _ HM.out).2))
     clear hall hmem hhere hx hbel hRI hws hks hlight hkfew hi hi1 hV6 hwl hkl hIR hG hs he1 hs1 r0 rz
     gi_wp2_with (refine⟨trivial,?_⟩;gi_at_call 32;refine(CallsIn.inRound _ (callsIn_wide.2 HRI.out)).mono ?_;rintro e w2 ⟨b,rfl,hq,g2⟩;obtain rfl:b=false:=(by cases b with|false=>rfl|true=>exact(HIR.out (hq.mp rfl)).elim);have G2:=Lh g2;have r2:=(hkeep.out _ g2).1.res;have rz2:=(hkeep.out _ g2).1.fr;clear hq g2)
     obtain⟨q1,q2,q3,q4⟩:=hkeep.out _ G2.out
     simp only[World.size_alloc]
     exact⟨⟨⟨_,q1.tell (Mz _) false⟩,HNR.out⟩,(sset_else _ _ _ _ _ (by omega)).trans q2,(sset_else _ _ _ _ _ (by omega)).trans q3⟩
   ·have hk300': ¬(k:Int)+1≤300:=by omega
    have HNR:Hid (¬RightL L):=Lh (fun h=>by have:=(HFL.out.mp h).2;omega)
    clear hall hmem hhere hws hks hlight hkfew hi hi1 hV6 hG hs he1 hs1 r0 rz hV61
    gi_wp2
    refine⟨trivial,?_⟩
    gi_wp2
    obtain⟨q1,q2,q3,q4⟩:=hkeep.out _ (Mj _ _)
    simp only[World.size_alloc]
    exact⟨⟨⟨_,q1.tell (Mz _) false⟩,HNR.out⟩,(sset_else _ _ _ _ _ (by omega)).trans q2,(sset_else _ _ _ _ _ (by omega)).trans q3⟩
  ·have hd4': ¬(d:Int)≤4:=by omega
   have HNR:Hid (¬RightL L):=Lh (fun h=>hd4 (((HFL.out.mp h).1 _ HM.out).1))
   clear hall hmem hhere hws hks hlight hkfew hi hi1 hV6 hG hs he1 hs1 r0 rz hV61
   gi_wp2
   refine⟨trivial,?_⟩
   gi_wp2
   obtain⟨q1,q2,q3,q4⟩:=hkeep.out _ (Mj _ _)
   simp only[World.size_alloc]
   exact⟨⟨⟨_,q1.tell (Mz _) false⟩,HNR.out⟩,(sset_else _ _ _ _ _ (by omega)).trans q2,(sset_else _ _ _ _ _ (by omega)).trans q3⟩
 case done=>
  rintro V ⟨hi,hm3,hall⟩ hK
  have c0:=hi.res
  have z0:=hi.fr
  have HI:=Lh hi
  have HP:Hid (RightL L):=Lh (HFL.out.mpr ⟨fun y hy=>by
   obtain⟨j,hj,e⟩:=List.getElem_of_mem hy
   exact hall j y (by rw[HLN.out]at hj;exact hj) (by rw[←e];exact List.getElem?_eq_getElem hj),hm3⟩)
  have hlt:=hi.lt
  have HK:=Lh hK
  clear hi hall hK
  simp only[World.size_alloc]at HK ⊢
  gi_wp2
  have hK2:=HK.out
  have h1:=HI.out.tell (Mz _) true
  refine⟨by simp, .inl ⟨_,_,rfl,run_takeDeferred ((sset_else _ _ _ _ _ (by simp<;>omega)).trans hK2),?_⟩⟩
  have h2:=h1.putObj (w.heap.size+1+1+1) (.deferred none) (by omega) (by omega)
  refine⟨.bool true,?_,GivesQ.yes HP.out h2.bel⟩
  have hc5:=h2.res
  simp[results,Tryz.f21,go_sem,hc5]
 case stop=>
  rintro V ⟨⟨x,hi⟩,hnr⟩ hK
  have HNR:=Lh hnr
  have hlt:=hi.lt
  have HI:=Lh hi
  have HK:=Lh hK
  clear hi hK hnr
  simp only[World.size_alloc]at HK ⊢
  gi_wp2
  have hK2:=HK.out
  refine⟨by simp, .inl ⟨_,_,rfl,run_takeDeferred hK2,?_⟩⟩
  have h2:=HI.out.putObj (w.heap.size+1+1+1) (.deferred none) (by omega) (by omega)
  refine⟨.bool false,?_,GivesQ.no HNR.out h2.bel⟩
  have hc5:=h2.res
  simp[results,Tryz.f21,go_sem,hc5]
end
end
section
open Go.RowKit
def GivesPar (L:List It) (c x y:Int) (W:World) (e:Ending) (w':World):Prop:=
 ∃a k,e= .returned (.tuple #[.slice a L.length k, .agg #[.int .i64 c, .int .i64 x, .int .i64 y]])∧ItemsIs 5 w' (fun b=>W.heap.size≤b∧b<w'.heap.size) (.slice a L.length k) L∧Below W.heap.size W w'
end
section
open Go.RowKit
def MultiS (n:ByteArray):Prop:=n=nObjective∨n=nLabel∨n=nRule
instance (n:ByteArray):Decidable (MultiS n):=by unfold MultiS;infer_instance
def secS (x:It):ByteArray:=if MultiS x.name then x.w0.s else⟨#[]⟩
def cntF (cs:List It) (p q:ByteArray):Nat:=(cs.filter (fun c=>c.name=p∧(q=⟨#[]⟩∨secS c=q))).length
theorem cntF_le (cs:List It) (p q:ByteArray):cntF cs p q≤cs.length:=List.length_filter_le _ _
theorem cntF_many (cs:List It) (p:ByteArray):cntF cs p ⟨#[]⟩=manyS cs p:=by unfold cntF manyS;simp
theorem cntF_snoc (cs:List It) (x:It) (p q:ByteArray):cntF (cs++ [x]) p q=cntF cs p q+(if x.name=p∧(q=⟨#[]⟩∨secS x=q)then 1 else 0):=by
 unfold cntF
 rw[List.filter_append,Kq]
 by_cases h:x.name=p∧(q=⟨#[]⟩∨secS x=q)
 ·rw[if_pos h];simp[h]
 ·rw[if_neg h];simp[h]
theorem cntF_one {cs:List It} {x:It} (h:secS x=⟨#[]⟩):upd2 (cntF cs) x.name ⟨#[]⟩ (cntF cs x.name ⟨#[]⟩+1)=cntF (cs++ [x]):=by
 funext p q
 rw[cntF_snoc]
 unfold upd2
 by_cases h1:p=x.name∧q=⟨#[]⟩
 ·rw[if_pos h1,if_pos ⟨h1.1.symm,My h1.2⟩,h1.1,h1.2]
 ·rw[if_neg h1,if_neg (fun e=>h1 ⟨e.1.symm,by rcases e.2 with e|e;exact e;exact e.symm.trans h⟩)];rfl
theorem cntF_two (cs:List It) (x:It):upd2 (upd2 (cntF cs) x.name ⟨#[]⟩ (cntF cs x.name ⟨#[]⟩+1)) x.name (secS x) (cntF cs x.name (secS x)+1)=cntF (cs++ [x]):=by
 funext p q
 rw[cntF_snoc]
 unfold upd2
 by_cases h2:p=x.name∧q=secS x
 ·rw[if_pos h2,if_pos ⟨h2.1.symm,Mx h2.2.symm⟩,h2.1,h2.2]
 ·rw[if_neg h2]
  by_cases h1:p=x.name∧q=⟨#[]⟩
  ·rw[if_pos h1,if_pos ⟨h1.1.symm,My h1.2⟩,h1.1,h1.2]
  ·rw[if_neg h1,if_neg (fun e=>by rcases e.2 with e2|e2;exact h1 ⟨e.1.symm,e2⟩;exact h2 ⟨e.1.symm,e2.symm⟩)];rfl
theorem cntF_known {cs:List It} {p q:ByteArray} (hq:q≠⟨#[]⟩):cntF cs p q≠0↔∃c∈cs,c.name=p∧secS c=q:=by
 unfold cntF
 rw[←Nat.pos_iff_ne_zero,List.length_pos_iff_exists_mem]
 constructor
 ·rintro⟨c,hc⟩
  obtain⟨h1,h2⟩:=List.mem_filter.mp hc
  simp only[decide_eq_true_eq]at h2
  exact⟨c,h1,h2.1,h2.2.resolve_left hq⟩
 ·rintro⟨c,h1,h2,h3⟩
  exact⟨c,List.mem_filter.mpr ⟨h1,by simp[h2,h3]⟩⟩
theorem look_len (wh:Nat) (sub:It→List Flt) (l:List It):(lookS wh sub l).1.length≤l.length:=by
 refine snoc_ind (P:=fun l=>(lookS wh sub l).1.length≤l.length) (Mz _) (fun l x ih=>?_) l
 rw[lookS_snoc]
 unfold stepS
 split
 ·simp only[Kq,List.length_singleton];omega
 ·simp only[Kq,List.length_singleton];omega
theorem look_lim (wh:Nat) (sub:It→List Flt) (l:List It): ∀n p,findS wh n=some p→manyS (lookS wh sub l).1 n≤p.most:=by
 refine snoc_ind (P:=fun l=> ∀n p,findS wh n=some p→manyS (lookS wh sub l).1 n≤p.most) (fun n p _=>Nat.zero_le _) (fun l x ih n p hp=>?_) l
 rw[lookS_snoc]
 unfold stepS
 split
 ·rename_i h0
  have h:=ih n p hp
  show manyS ((lookS wh sub l).1++ [x]) n≤p.most
  unfold manyS at h ⊢
  rw[List.filter_append,Kq]
  by_cases hx:x.name=n
  ·obtain⟨q,hq,_,_,hm,_⟩:=codeS_zero h0
   rw[hx,hp]at hq
   injection hq with hq
   subst hq
   rw[hx]at hm
   unfold manyS at hm
   simp only[hx,decide_true,List.filter_cons_of_pos,List.filter_nil,List.length_singleton]
   omega
  ·simp only[hx,decide_false,List.filter_nil,List.filter_cons_of_neg,Bool.false_eq_true,not_false_eq_true,List.length_nil]
   omega
 ·exact ih n p hp
def SubLe (k:Nat) (sub:It→List Flt):Prop:= ∀x,(sub x).length≤k*cntL x.kids+k
theorem cntL_unit (x:It):cntL [x]=1+cntL x.kids:=by obtain⟨n,w,k,kids,a,b⟩:=x;simp[cntL,It.kids]
theorem look_faults {k wh:Nat} {sub:It→List Flt} (hk:1≤k) (hs:SubLe k sub) (l:List It):(lookS wh sub l).2.length≤k*cntL l:=by
 refine snoc_ind (P:=fun l=>(lookS wh sub l).2.length≤k*cntL l) (by simp[lookS,cntL]) (fun l x ih=>?_) l
 rw[lookS_snoc,cntL_app,cntL_unit,Nat.mul_add,Nat.mul_add]
 have h1:=hs x
 unfold stepS
 split
 ·simp only[Kq];omega
 ·simp only[Kq,List.length_singleton];omega
theorem sub2_le:SubLe 1 sub2:=fun x=>by simp[sub2]
theorem wholeR_le (x:It) (k:List It):(wholeR x k).length≤1:=by
 unfold wholeR
 split
 ·simp
 ·split<;>simp
theorem subG_le:SubLe 1 subG:=fun x=>by
 unfold subG
 split
 ·have:=look_faults (wh:=2) (Mz 1) sub2_le x.kids
  have h2:=wholeR_le x (ruleK x)
  rw[Kq];omega
 ·simp
theorem offsS_le (g:Int): ∀k:List It,(offsS g k).length≤k.length
 | []=>Mz _
 |x::k=>by
  have:=offsS_le g k
  rw[offsS,Kq]
  split<;>simp only[Jq,List.length_nil]<;>omega
theorem wholeG_le (x:It) (k:List It):(wholeG x k).length≤k.length+2:=by
 have:=offsS_le (getS k nGrain 60) k
 unfold wholeG
 rw[Kq,Kq]
 split<;>split<;>simp only[Jq,List.length_nil]<;>omega
theorem wholeN_le (x:It) (k:List It):(wholeN x k).length≤1:=by
 unfold wholeN
 split<;>simp
theorem subT_le:SubLe 2 subT:=fun x=>by
 unfold subT
 split
 ·have h1:=look_faults (wh:=1) (Mz 1) subG_le x.kids
  have h2:=wholeG_le x (goalK x)
  have h3:(goalK x).length≤x.kids.length:=look_len 1 subG x.kids
  have h4:=len_cnt x.kids
  rw[Kq];omega
 ·split
  ·have h1:=look_faults (wh:=3) (Mz 1) sub2_le x.kids
   have h2:=wholeN_le x (notK x)
   rw[Kq];omega
  ·simp
section
variable (wh:Nat) (sub:It→List Flt) (M:List It→List Flt→Foot→World→Prop)
structure Doing (fpv:Value):Prop where
 lt: ∀cs F O w,M cs F O w→∀b,O b→b<w.heap.size
 keep: ∀cs F O w w',M cs F O w→(∀b,O b→w'.heap[b]?=w.heap[b]?)→M cs F O w'
 add: ∀cs F O w c a b,M cs F O w→F.length≤1000000→Calls Tryz.prog 57 #[fpv, .int .i64 c, .agg #[.int .i64 a, .int .i64 b]] w fun e w'=>e= .returned (.tuple #[])∧∃O',M cs (F++ [(c,a,b)]) O' w'∧Frm O w w'∧Grown O O' w.heap.size
def HOut (cs:List It) (F:List Flt) (O:Foot) (x:It) (ib:Nat) (wv kv:Value) (mb:Nat) (W:World) (c:Int) (W':World):Prop:=
 (codeS wh cs x≠0∧c=codeS wh cs x∧Below W.heap.size W W')∨
 (codeS wh cs x=0∧c=0∧∃O',M (cs++ [x]) (F++sub x) O' W'∧Frm (fun i=>O i∨i=ib) W W'∧Grown O O' W.heap.size∧VarL W' ib (itemL x wv kv mb (secS x)))
structure HIn (K:Foot) (w0:World) (cs:List It) (F:List Flt) (O:Foot) (x:It) (ib:Nat) (wv kv:Value) (mb:Nat) (W:World):Prop where
 m:M cs F O W
 kept: ∀b,K b→W.heap[b]?=w0.heap[b]?
 apart: ∀b,K b→¬O b
 item:VarL W ib (itemL x wv kv mb ⟨#[]⟩)
 cnt:CntIs W mb (cntF cs)
 io: ¬O ib
 ik: ¬K ib
 mo: ¬O mb
 mkk: ¬K mb
 im:ib≠mb
 few:F.length+4*cntL [x]≤1000000
 cs1:cs.length≤1000000
 isz:w0.heap.size≤ib
 lim: ∀n p,findS wh n=some p→manyS cs n≤p.most
def HandlerC (K:Foot) (w0:World) (x:It) (wv kv:Value) (hf:FuncId) (first cap:Array Value):Prop:=
 ∀W cs F O ib mb,HIn wh M K w0 cs F O x ib wv kv mb W→Calls Tryz.prog hf (first.push (.pointer (some ⟨ib,0,none⟩))++cap) W fun e W'=>
  (codeS wh cs x≠0∧e=up (codeS wh cs x)∧Below W.heap.size W W')∨
  (codeS wh cs x=0∧e= .returned (.tuple #[])∧∃O',M (cs++ [x]) (F++sub x) O' W'∧Frm (fun i=>O i∨i=ib) W W'∧Grown O O' W.heap.size∧VarL W' ib (itemL x wv kv mb (secS x)))
def HandlesC (K:Foot) (w0:World) (hm:ByteArray→Option Value) (S:Nat→Prop) (x:It):Prop:=
 (hm x.name=none∧findS wh x.name=none)∨∃p hf first cap,findS wh x.name=some p∧hm x.name=some (.func (.func hf) first cap)∧(∀args W,(callFunc hf args).run Tryz.prog W= .ok (.enter hf args) W)∧
  ∀D wv kv,WordsIs w0 S wv x.words→ItemsIs D w0 S kv x.kids→HandlerC wh sub M K w0 x wv kv hf first cap
end
end
section
open Go.RowKit
section
variable {wh:Nat} {sub:It→List Flt} {M:List It→List Flt→Foot→World→Prop} {fpv:Value}
theorem count_any (x:It) (cs:List It) (w:World) (ib mb:Nat) (wv kv:Value) (h:VarL w ib (itemL x wv kv mb (secS x))) (hc:CntIs w mb (cntF cs)) (hn:cs.length≤1000000) (hne:ib≠mb):
  Calls Tryz.prog 58 #[.pointer (some ⟨ib,0,none⟩)] w fun e w'=>e= .returned (.tuple #[])∧CntIs w' mb (cntF (cs++ [x]))∧Frm (fun i=>i=mb) w w':=by
 have h1:=cntF_le cs x.name ⟨#[]⟩
 have h2:=cntF_le cs x.name (secS x)
 by_cases hs:secS x=⟨#[]⟩
 ·have:=count_one x (secS x) w ib mb wv kv (cntF cs) h hc hs (by omega) hne
  rw[cntF_one hs]at this
  exact this
 ·have:=count_two x (secS x) w ib mb wv kv (cntF cs) h hc hs (by omega) (by omega) hne
  rw[cntF_two]at this
  exact this
theorem caught_item (hD:Doing M fpv) {K:Foot} {w0:World} {hm:ByteArray→Option Value} {S:Nat→Prop} {x:It} {cs:List It} {F:List Flt} {O:Foot} {ib mb D:Nat} {wv kv:Value} {W:World} (hH:HandlesC wh sub M K w0 hm S x)
  (hin:HIn wh M K w0 cs F O x ib wv kv mb W) (hKl: ∀b,K b→b<W.heap.size) (hw:WordsIs w0 S wv x.words) (hk:ItemsIs D w0 S kv x.kids):
  Calls Tryz.prog 56 #[(hm x.name).getD .nilFunc, .pointer (some ⟨ib,0,none⟩)] W fun e W'=> ∃c,e= .returned (.int .i64 c)∧HOut wh sub M cs F O x ib wv kv mb W c W':=by
 rcases hH with⟨h1,h2⟩|⟨p,hf,first,cap,h1,h2,eg,hC⟩
 ·rw[h1]
  refine(caught_name ⟨ib,0,none⟩ W).mono ?_
  rintro e W' ⟨rfl,hb⟩
  have:=codeS_none (cs:=cs) h2
  exact⟨7,rfl,My ⟨by rw[this];decide,this.symm,hb⟩⟩
 ·rw[h2]
  refine(caught_any hf first cap eg ⟨ib,0,none⟩ W (fun c W1 W'=>HOut wh sub M cs F O x ib wv kv mb W1 c W') (fun W1 hb hz=>?_)).mono ?_
  ·have hOlt:=hD.lt _ _ _ _ hin.m
   refine(hC D wv kv hw hk W1 cs F O ib mb ⟨hD.keep _ _ _ _ _ hin.m (fun b h=>hb.block b (hOlt b h)),fun b h=>(hb.block b (hKl b h)).trans (hin.kept b h),hin.apart,hin.item.after hb,hin.cnt.keep (hb.block mb hin.cnt.lt),hin.io,hin.ik,hin.mo,hin.mkk,hin.im,hin.few,hin.cs1,hin.isz,hin.lim⟩).mono ?_
   rintro e W' (⟨q1,rfl,q2⟩|⟨q1,rfl,O',q2,q3,q4,q5⟩)
   ·exact⟨q2.block _ (by omega),My ⟨_,rfl,My ⟨q1,rfl,q2⟩⟩⟩
   ·refine⟨q3.keep _ (by omega) (fun e=>?_),Mx ⟨rfl,Mx ⟨q1,rfl,O',q2,q3,q4,q5⟩⟩⟩
    rcases e with e|e
    ·have:=hOlt _ e;omega
    ·have:=hin.item.s;omega
  ·rintro e W' ⟨c,W1,W3,rfl,hb,hz,ho,hf⟩
   have hOlt:=hD.lt _ _ _ _ hin.m
   refine⟨c,rfl,?_⟩
   have hkeep: ∀i,i≠W.heap.size→i<W3.heap.size→W'.heap[i]?=W3.heap[i]?:=fun i hi hl=>hf.keep i hl hi
   rcases ho with⟨q1,q0,q2⟩|⟨q1,q0,O',q2,q3,q4,q5⟩
   ·exact My ⟨q1,q0,⟨hf.os.trans (q2.os.trans hb.os),hf.tape.trans (q2.tape.trans hb.tape),hf.output.trans (q2.output.trans hb.output),Kz hb.size (Kz q2.size hf.size),fun i hi=>(hkeep i (by omega) (by have:=q2.size;omega)).trans ((q2.block i (by omega)).trans (hb.block i hi))⟩⟩
   ·refine Mx ⟨q1,q0,O',hD.keep _ _ _ _ _ q2 (fun b h=>hkeep b (fun e=>?_) (hD.lt _ _ _ _ q2 b h)),?_,fun i hi=>(q4 i hi).imp id (fun h=>by omega),q5.stay (hkeep ib (fun e=>by have:=hin.item.s;omega) q5.s)⟩
    ·rcases q4 b h with h|h
     ·have:=hOlt b h;omega
     ·omega
    ·refine⟨hf.os.trans (q3.os.trans hb.os),hf.tape.trans (q3.tape.trans hb.tape),hf.output.trans (q3.output.trans hb.output),Kz hb.size (Kz q3.size hf.size),fun i hi hne=>?_⟩
     exact(hkeep i (by omega) (by have:=q3.size;omega)).trans ((q3.keep i (by omega) hne).trans (hb.block i hi))
structure EachAt' (wh:Nat) (sub:It→List Flt) (M:List It→List Flt→Foot→World→Prop) (L:List It) (F0:List Flt) (O0:Foot) (w:World) (i:Nat) (O:Foot) (wr:World):Prop where
 m:M (lookS wh sub (L.take i)).1 (F0++(lookS wh sub (L.take i)).2) O wr
 frm:Frm O0 w wr
 gr:Grown O0 O (w.heap.size+1)
 cnt:CntIs wr w.heap.size (cntF (lookS wh sub (L.take i)).1)
theorem EachAt'.start {L:List It} {F0:List Flt} {O0:Foot} {w:World} (hD:Doing M fpv) (hM:M [] F0 O0 w):EachAt' wh sub M L F0 O0 w 0 O0 (w.alloc (.map #[] 0)):=by
 have hb:Below w.heap.size w (w.alloc (.map #[] 0)):=(Mj _ _).alloc (Mz _) _
 refine⟨?_,Frm.of hb,fun i h=>My h,CntIs.made w⟩
 rw[List.take_zero,lookS_nil,List.append_nil]
 exact hD.keep _ _ _ _ _ hM (fun b h=>hb.block b (hD.lt _ _ _ _ hM b h))
theorem EachAt'.bad {L:List It} {F0:List Flt} {O0 O O':Foot} {w wr w4 w5:World} {i:Nat} {x:It} (h:EachAt' wh sub M L F0 O0 w i O wr) (hi:i<L.length) (hx:L.getD i default=x) (hOw: ∀b,O0 b→b<w.heap.size) (hc:codeS wh (lookS wh sub (L.take i)).1 x≠0) (hb:Below wr.heap.size wr w4)
  (hm:M (lookS wh sub (L.take i)).1 ((F0++(lookS wh sub (L.take i)).2)++ [(codeS wh (lookS wh sub (L.take i)).1 x,x.a,x.b)]) O' w5) (hf:Frm O w4 w5) (hg:Grown O O' w4.heap.size):EachAt' wh sub M L F0 O0 w (i+1) O' w5:=by
 have e:lookS wh sub (L.take (i+1))=((lookS wh sub (L.take i)).1,(lookS wh sub (L.take i)).2++ [(codeS wh (lookS wh sub (L.take i)).1 x,x.a,x.b)]):=by
  rw[tk_take hi,lookS_snoc,hx]
  exact if_neg hc
 have hsz:=h.frm.size
 have hcl:=h.cnt.lt
 have hs4:=hb.size
 refine⟨by rw[e,←List.append_assoc];exact hm,?_,fun b hb'=>?_,?_⟩
 ·exact h.frm.trans ((Frm.of (O:=O) hb).trans hf (Grown.refl _ _)) (fun b hb=>(h.gr b hb).imp id (fun h=>by omega))
 ·rcases hg b hb' with h2|h2
  ·exact h.gr b h2
  ·exact Mx (by omega)
 ·rw[e]
  refine h.cnt.keep ((hf.keep _ (by omega) (fun ho=>?_)).trans (hb.block _ hcl))
  rcases h.gr _ ho with h2|h2
  ·have:=hOw _ h2;omega
  ·omega
theorem EachAt'.good {L:List It} {F0:List Flt} {O0 O O':Foot} {w wr w3 w4 w5:World} {i ib:Nat} {x:It} (h:EachAt' wh sub M L F0 O0 w i O wr) (hD:Doing M fpv) (hi:i<L.length) (hx:L.getD i default=x) (hOw: ∀b,O0 b→b<w.heap.size) (hc:codeS wh (lookS wh sub (L.take i)).1 x=0) (hb:Below wr.heap.size wr w3) (hib:wr.heap.size≤ib)
  (hm:M ((lookS wh sub (L.take i)).1++ [x]) ((F0++(lookS wh sub (L.take i)).2)++sub x) O' w4) (hf:Frm (fun j=>O j∨j=ib) w3 w4) (hg:Grown O O' w3.heap.size)
  (hc5:CntIs w5 w.heap.size (cntF ((lookS wh sub (L.take i)).1++ [x]))) (hf5:Frm (fun j=>j=w.heap.size) w4 w5):EachAt' wh sub M L F0 O0 w (i+1) O' w5:=by
 have e:lookS wh sub (L.take (i+1))=((lookS wh sub (L.take i)).1++ [x],(lookS wh sub (L.take i)).2++sub x):=by
  rw[tk_take hi,lookS_snoc,hx]
  exact if_pos hc
 have hsz:=h.frm.size
 have hcl:=h.cnt.lt
 have hs3:=hb.size
 have hO': ∀b,O' b→b≠w.heap.size:=fun b hb'=>by
  rcases hg b hb' with h2|h2
  ·rcases h.gr b h2 with h3|h3
   ·have:=hOw b h3;omega
   ·omega
  ·omega
 refine⟨?_,?_,fun b hb'=>?_,by rw[e];exact hc5⟩
 ·rw[e,←List.append_assoc]
  exact hD.keep _ _ _ _ _ hm (fun b h2=>hf5.keep b (hD.lt _ _ _ _ hm b h2) (hO' b h2))
 ·have h1:Frm (fun j=>O0 j∨w.heap.size≤j) w w3:=(h.frm.trans (Frm.of (O:=O0) hb) (Grown.refl _ _)).wider (fun j hj=>My hj)
  have h2:Frm (fun j=>O0 j∨w.heap.size≤j) w3 w4:=hf.wider (fun j hj=>by
   rcases hj with hj|rfl
   ·rcases h.gr j hj with h3|h3
    ·exact My h3
    ·exact Mx (by omega)
   ·exact Mx (by omega))
  have h3:Frm (fun j=>O0 j∨w.heap.size≤j) w4 w5:=hf5.wider (fun j hj=>Mx (by omega))
  have h4:=(h1.trans h2 (Grown.refl _ _)).trans h3 (Grown.refl _ _)
  exact⟨h4.os,h4.tape,h4.output,h4.size,fun j hj hne=>h4.keep j hj (fun hx=>by rcases hx with hx|hx;exact hne hx;omega)⟩
 ·rcases hg b hb' with h2|h2
  ·exact h.gr b h2
  ·exact Mx (by omega)
theorem each_any (hD:Doing M fpv) {k:Nat} (hk1:1≤k) (hk4:k≤4) (hSub:SubLe k sub) (L:List It) (D:Nat) (S:Nat→Prop) (v:Value) (w:World) (hb:Nat) (hm':ByteArray→Option Value) (H:HIs w hb hm') (K:Foot) (hK: ∀b,K b→b<w.heap.size) (hKh:K hb) (hSK: ∀b,S b→K b)
  (hT:ItemsIs D w S v L) (hE: ∀x∈L,HandlesC wh sub M K w hm' S x) (F0:List Flt) (O0:Foot) (hM:M [] F0 O0 w) (hap: ∀b,K b→¬O0 b) (hfew:F0.length+4*cntL L≤1000000):
  Calls Tryz.prog 33 #[fpv,v, .map (some hb)] w fun e w'=>e= .returned (.tuple #[])∧∃O',M (lookS wh sub L).1 (F0++(lookS wh sub L).2) O' w'∧Frm O0 w w'∧Grown O0 O' w.heap.size:=by
 obtain⟨a,cap,rfl⟩:=hT.size
 obtain⟨n,hn⟩: ∃n,L.length=n:=⟨_,rfl⟩
 have hnl:n≤1000000:=by have:=len_cnt L;omega
 obtain⟨g,hg⟩: ∃g,w.heap.size=g:=⟨_,rfl⟩
 have hOw:=hD.lt _ _ _ _ hM
 have HST:=Lh (EachAt'.start (wh:=wh) (sub:=sub) (L:=L) hD hM)
 have HD:=Lh hD
 have HH:=Lh H
 have HK:=Lh hK
 have HKH:=Lh hKh
 have HSK:=Lh hSK
 have HT:=Lh hT
 have HE:=Lh hE
 have HAP:=Lh hap
 have HOW:=Lh hOw
 have HN:=Lh hn
 have HG:=Lh hg
 have HFEW:=Lh hfew
 have HSUB:=Lh (fun i=>look_faults (wh:=wh) hk1 hSub (L.take i))
 rw[hn]
 have hmm:= @run_makeMap Tryz.prog
 clear hD hk1 hSub H hK hKh hSK hT hE hM hap hfew hOw hn
 go_enter Tryz.func33,Tryz.ntmps33
 go_wp2
 go_loopw [14] (fun v14 wr=> ∃i O,i≤n∧v14= .int .i64 (i:Int)∧EachAt' wh sub M L F0 O0 w i O wr) (fun v14 _=>n-(intOf v14).toNat)
 case atStart=>exact⟨0,O0,Nat.zero_le _,rfl,HST.out⟩
 case round=>
  obtain⟨wo,rfl⟩: ∃y,y=wr:=⟨wr,rfl⟩
  obtain⟨i,O,hi,rfl,hat⟩:=hrel
  have HA:=Lh hat
  clear hat
  by_cases hin:i<n
  ·obtain⟨d1,hd1,b1,o1,wv,kv,rfl,s1,e0,e1,e2,e3,e4,e5,hw,hk⟩:=HT.out.at i (by rw[HN.out];exact hin)
   obtain⟨x,hx⟩: ∃x,L.getD i default=x:=⟨_,rfl⟩
   rw[hx]at e0 e2 e4 e5 hw hk
   have hxm:x∈L:=by rw[←hx,List.getD_eq_getElem?_getD,List.getElem?_eq_getElem (by rw[HN.out];exact hin)];exact List.getElem_mem _
   have HX:=Lh hx
   have HW:=Lh hw
   have HKD:=Lh hk
   have HXE:=Lh (HE.out x hxm)
   have hKb:K b1:=HSK.out b1 s1
   have ek:=HA.out.frm.keep b1 (HK.out b1 hKb) (HAP.out b1 hKb)
   have f0:=(Kk (a:=⟨b1,o1+i*6,none⟩) ek).trans e0
   have f1:=(Kk (a:=⟨b1,o1+i*6+1,none⟩) ek).trans e1
   have f2:=(Kk (a:=⟨b1,o1+i*6+2,none⟩) ek).trans e2
   have f3:=(Kk (a:=⟨b1,o1+i*6+3,none⟩) ek).trans e3
   have f4:=(Kk (a:=⟨b1,o1+i*6+4,none⟩) ek).trans e4
   have f5:=(Kk (a:=⟨b1,o1+i*6+5,none⟩) ek).trans e5
   obtain⟨wa,wc,hwv⟩:=hw.size
   obtain⟨ka,kc,hkv⟩:=hk.size
   obtain⟨wl,hwl⟩: ∃m,x.words.length=m:=⟨_,rfl⟩
   obtain⟨kl,hkl⟩: ∃m,x.kids.length=m:=⟨_,rfl⟩
   rw[hwl]at hwv
   rw[hkl]at hkv
   subst hwv hkv
   obtain⟨q,W1,W2,hq,hW1,hW2,V1,V2,h12,hz2⟩:=freshL wo [.string ⟨#[]⟩, .slice none 0 0, .bool false, .slice none 0 0, .int .i64 0, .int .i64 0] [.string x.name, .slice wa wl wc, .bool x.block, .slice ka kl kc, .int .i64 x.a, .int .i64 x.b] 47 rfl
   obtain⟨ib,W3,hib,hW3,V3,h23,hz3⟩:=boxL W2 [.string x.name, .slice wa wl wc, .bool x.block, .slice ka kl kc, .int .i64 x.a, .int .i64 x.b, .map (some g), .string ⟨#[]⟩] 115
   simp only[putL,Nat.zero_add,Nat.reduceAdd]at hW2
   obtain rfl:ib=q+1:=by omega
   have z3:=(V2.after h23).c 0 rfl
   have h13:Below wo.heap.size wo W3:=h12.trans (h23.mono h12.size)
   have HB3:=Lh h13
   have HV3:=Lh V3
   have HV2:=Lh V2
   have H23:=Lh h23
   have hz1:W2.heap.size=q+1:=hz2
   have HQ:=Lh hq
   have HZ2:=Lh hz2
   have HIB:=Lh hib
   have y0:=V1.c 0 rfl
   have yq0:=V1.q 0 rfl
   have zz0:=V2.c 0 rfl
   have y1:=V1.c 1 rfl
   have yq1:=V1.q 1 rfl
   have zz1:=V2.c 1 rfl
   have y2:=V1.c 2 rfl
   have yq2:=V1.q 2 rfl
   have zz2:=V2.c 2 rfl
   have y3:=V1.c 3 rfl
   have yq3:=V1.q 3 rfl
   have zz3:=V2.c 3 rfl
   have y4:=V1.c 4 rfl
   have yq4:=V1.q 4 rfl
   have zz4:=V2.c 4 rfl
   have y5:=V1.c 5 rfl
   have yq5:=V1.q 5 rfl
   have zz5:=V2.c 5 rfl
   obtain⟨cs,hcs⟩: ∃cs,(lookS wh sub (L.take i)).1=cs:=⟨_,rfl⟩
   obtain⟨FF,hFF⟩: ∃FF,F0++(lookS wh sub (L.take i)).2=FF:=⟨_,rfl⟩
   have hm:=HA.out.m
   have hcnt:=HA.out.cnt
   rw[hcs]at hm hcnt
   rw[hFF]at hm
   rw[HG.out]at hcnt
   have hOl:=HD.out.lt _ _ _ _ hm
   have hgl:=hcnt.lt
   have hcsl:cs.length≤1000000:=by rw[←hcs];have:=look_len wh sub (L.take i);rw[List.length_take]at this;omega
   have hFl:FF.length+4*cntL [x]≤1000000:=by
    have h1:=HSUB.out i
    have h2:k*cntL (L.take i)≤4*cntL (L.take i):=Nat.mul_le_mul_right _ hk4
    have h3:=congrArg cntL (List.take_append_drop (i+1) L)
    rw[tk_take (by rw[HN.out];exact hin),cntL_app,cntL_app,hx]at h3
    have h4:=HFEW.out
    rw[←hFF,Kq];omega
   have hgO: ∀b,O b→b≠g:=fun b hb e=>by
    rcases HA.out.gr b hb with h|h
    ·have:=HOW.out b h;have:=HG.out;omega
    ·have:=HG.out;omega
   have hin3:HIn wh M K w cs FF O x (q+1) (.slice wa wl wc) (.slice ka kl kc) g W3:=by
    refine⟨HD.out.keep _ _ _ _ _ hm (fun b h=>h13.block b (hOl b h)),fun b h=>(h13.block b (by have:=HK.out b h;have:=HA.out.frm.size;omega)).trans (HA.out.frm.keep b (HK.out b h) (HAP.out b h)),fun b h ho=>?_,V3,hcnt.keep (h13.block g hgl),fun h=>?_,fun h=>?_,fun h=>hgO g h rfl,fun h=>?_,?_,hFl,hcsl,?_,by rw[←hcs];exact look_lim wh sub (L.take i)⟩
    ·rcases HA.out.gr b ho with h2|h2
     ·exact HAP.out b h h2
     ·have:=HK.out b h;omega
    ·have:=hOl (q+1) h;omega
    ·have:=HK.out (q+1) h;have:=HA.out.frm.size;omega
    ·have:=HK.out g h;have:=HG.out;omega
    ·omega
    ·have:=HA.out.frm.size;omega
   obtain⟨fv,hfv⟩: ∃fv,(hm' x.name).getD .nilFunc=fv:=⟨_,rfl⟩
   have hl:(Instr.lookup 89 (.map (some hb)) (.string x.name) false).run Tryz.prog W3= .ok fv W3:=by
    rw[←hfv]
    exact(HH.out.keep (w':=W3) (hin3.kept hb HKH.out)).look x.name
   have hC:=caught_item HD.out HXE.out hin3 (fun b h=>by have:=HK.out b h;have:=HA.out.frm.size;have:=h13.size;omega) HW.out HKD.out
   rw[hfv]at hC
   have HM3:=Lh hin3.m
   have HC3:=Lh hin3.cnt
   have HOl:=Lh hOl
   have HCS:=Lh hcs
   have HFF:=Lh hFF
   have HGO:=Lh hgO
   have HCSL:=Lh hcsl
   have HFL:=Lh hFl
   have HIS:Hid (wo.heap.size≤(q+1)):=Lh (by have:=h12.size;omega)
   have HIM:Hid ((q+1)≠g):=Lh (by omega)
   have hi1:IntKind.i64.wrap ((i:Int)+1)=((i+1:Nat):Int):=by rw[IntKind.wrap_i64];omega
   by_cases hc:codeS wh cs x=0
   ·have HC0:=Lh hc
    have HCC:Hid (Calls Tryz.prog 56 #[fv, .pointer (some ⟨q+1,0,none⟩)] W3 fun e W'=>e= .returned (.int .i64 0)∧∃O',M (cs++ [x]) (FF++sub x) O' W'∧Frm (fun j=>O j∨j=(q+1)) W3 W'∧Grown O O' W3.heap.size∧VarL W' (q+1) (itemL x (.slice wa wl wc) (.slice ka kl kc) g (secS x))):=Lh (hC.mono (by
     rintro e W' ⟨c,rfl,⟨h1,_⟩|⟨_,rfl,h2⟩⟩
     ·exact(h1 hc).elim
     ·exact⟨rfl,h2⟩))
    clear hd1 s1 e0 e1 e2 e3 e4 e5 hw hk hx hxm hKb ek hwl hkl V1 V2 V3 h12 h23 h13 hm hcnt hOl hgl hcsl hFl hgO hin3 hfv hC hcs hFF hc hz3 hz1
    go_wp2_with (first
     |(go_at_call 56;(with_reducible refine(HCC.out).mono ?_);rintro e w4 ⟨rfl,O',hm4,hf4,hg4,hv4⟩;have HM4:=Lh hm4;have HF4:=Lh hf4;have HG4:=Lh hg4;have HV4:=Lh hv4;have HC4:Hid (CntIs w4 g (cntF cs)):=Lh (HC3.out.keep (hf4.keep g HC3.out.lt (fun e=>e.elim (fun h=>HGO.out g h rfl) (fun h=>HIM.out h.symm))));have HCT:=Lh (count_any x cs w4 (q+1) g _ _ HV4.out HC4.out HCSL.out HIM.out);clear hm4 hf4 hg4 hv4)
     |(go_at_call 58;(with_reducible refine(HCT.out).mono ?_);rintro e w5 ⟨rfl,hc5,hf5⟩;have HC5:=Lh hc5;have HF5:=Lh hf5;clear hc5 hf5))
    go_roundw
    case rel=>exact⟨i+1,O',by omega,rfl,EachAt'.good HA.out HD.out (by rw[HN.out];exact hin) HX.out HOW.out (by rw[HCS.out];exact HC0.out) HB3.out HIS.out (by rw[HCS.out,HFF.out];exact HM4.out) HF4.out HG4.out (by rw[HCS.out,HG.out];exact HC5.out) (by rw[HG.out];exact HF5.out)⟩
    case measure=>simp[intOf];omega
   ·obtain⟨cd,hcd⟩: ∃cd,codeS wh cs x=cd:=⟨_,rfl⟩
    have HC0:=Lh hc
    have HCD:=Lh hcd
    have hcb:(cd !=0)=true:=by rw[←hcd];simpa using hc
    have HCC:Hid (Calls Tryz.prog 56 #[fv, .pointer (some ⟨q+1,0,none⟩)] W3 fun e W'=>e= .returned (.int .i64 cd)∧Below W3.heap.size W3 W'):=Lh (hC.mono (by
     rintro e W' ⟨c,rfl,⟨_,rfl,h2⟩|⟨h1,_⟩⟩
     ·rw[hcd];exact⟨rfl,h2⟩
     ·exact(hc h1).elim))
    clear hd1 s1 e0 e1 e2 e3 e4 e5 hw hk hx hxm hKb ek hwl hkl V1 V2 V3 h12 h23 h13 hm hcnt hOl hgl hcsl hFl hgO hin3 hfv hC hcs hFF hc hz3 hz1 hcd
    go_wp2_with (first
     |(go_at_call 56;(with_reducible refine(HCC.out).mono ?_);rintro e w4 ⟨rfl,g4⟩;have HB4:Hid (Below wo.heap.size wo w4):=Lh (HB3.out.trans (g4.mono HB3.out.size));have V4:=((HV2.out.after H23.out).after g4);have p4:=V4.c 4 rfl;have p5:=V4.c 5 rfl;have HM4:Hid (M cs FF O w4):=Lh (HD.out.keep _ _ _ _ _ HM3.out (fun b h=>g4.block b (HD.out.lt _ _ _ _ HM3.out b h)));have HAD:=Lh (HD.out.add cs FF O w4 cd x.a x.b HM4.out (by have:=HFL.out;omega));clear g4 V4)
     |(go_at_call 57;(with_reducible refine(HAD.out).mono ?_);rintro e w5 ⟨rfl,O',hm5,hf5,hg5⟩;have HM5:=Lh hm5;have HF5:=Lh hf5;have HG5:=Lh hg5;clear hm5 hf5 hg5))
    go_roundw
    case rel=>exact⟨i+1,O',by omega,rfl,EachAt'.bad HA.out (by rw[HN.out];exact hin) HX.out HOW.out (by rw[HCS.out];exact HC0.out) HB4.out (by rw[HCS.out,HFF.out,HCD.out];exact HM5.out) HF5.out HG5.out⟩
    case measure=>simp[intOf];omega
  ·have en:n=i:=by omega
   subst en
   go_wp2
   first|go_end0|refine bodyPost_ret (results_none rfl _ _ _) rfl ?_
   have ht:L.take n=L:=by rw[←HN.out,List.take_length]
   have hm:=HA.out.m
   rw[ht]at hm
   exact⟨rfl,O,hm,HA.out.frm,fun b hb=>(HA.out.gr b hb).imp id (fun h=>by omega)⟩
end
end
end Go.Proofs.YtalcagmhdppdjaaGreatDoor
