/-
  What is quoted is unquoted: plain arithmetic. No program in sight.
-/
import Derived.Test.YtiapmjkaappcfaaGreatDoorRows
import Derived.ProofKit
import Derived.OpenShut
import Derived.ChangeArms
import Derived.Lib.SmallJoins
import Derived.Deep.Strs
import Derived.Deep.Slices
import Derived.ChangeOld
import Derived.WalkKit
import Derived.Test.YtiapmjkaappcfaaGreatDoorProg
import Derived.Lib.Hide
import Derived.WalkSmall
import Derived.Laws.AppendOwn
import Derived.Laws.OwnMore
import Derived.WalkSpells
import Derived.Lib.AppendZeros
import Derived.Laws.Append
import Derived.Maps.AppendAt
import Derived.Laws.BytesArg
import Derived.Laws.RangeAny
namespace Go.Proofs.YtiapmjkaappcfaaGreatDoor
theorem k4{α β:Type}{P Q:α→Prop}{T:α→β→Prop}:∀j v,P j→Q j→T j v→T j v:=fun _ _ _ _ h=>h
open Nat renaming zero_add→Ly,le_refl→Mz
open List renaming getD_eq_getElem?_getD→Mk,getElem?_eq_getElem→Kh,length_append→Kq,length_cons→Jq,mem_cons_of_mem→Jy,mem_cons_self→Jz
section
open Go.ChangeShapes Go.WideShapes Go.ChangeAt Go.RowKit Go.Joins Go.Deep
theorem cells_one_int:Tryz.prog.cellsOf 3=1:=by kernel_rfl
theorem cells_one_str:Tryz.prog.cellsOf 9=1:=by kernel_rfl
theorem cells_one_u64:Tryz.prog.cellsOf 64=1:=by kernel_rfl
structure TokWf (k:Int) (s:ByteArray) (n a b:Int):Prop where
 k0:(Lit.int .i64 k).wf=true
 s0:s.size≤maxLen
 n0:(Lit.int .u64 n).wf=true
 a0:(Lit.int .i64 a).wf=true
 b0:(Lit.int .i64 b).wf=true
def tokD {H:Type} (k:Int) (s:ByteArray) (n a b:Int):DataW H:= .agg [.lit (.int .i64 k), .lit (.string s.data.toList), .lit (.int .u64 n), .agg [.lit (.int .i64 a), .lit (.int .i64 b)]]
end
section
open Go.ChangeShapes Go.WideShapes Go.ChangeAt Go.RowKit Go.Joins Go.Deep
structure TokQ where
 k:Int:=0
 s:ByteArray:=⟨#[]⟩
 n:Int:=0
 a:Int:=0
 b:Int:=0
structure TokQ.Ok (x:TokQ):Prop where
 k0: -9223372036854775808≤x.k∧x.k≤9223372036854775807
 n0:0≤x.n∧x.n≤18446744073709551615
 s0:x.s.size≤9223372036854775807
def ToksIs (W:World) (v:Value) (l:List TokQ):Prop:=
 ∃a cap,v= .slice a l.length cap∧l.length≤cap∧∀i,i<l.length→∃b off,a=some ⟨b,off,none⟩∧W.cell? ⟨b,off+i*5,none⟩=some (.int .i64 (l.getD i {}).k)∧W.cell? ⟨b,off+i*5+1,none⟩=some (.string (l.getD i {}).s)∧
  W.cell? ⟨b,off+i*5+2,none⟩=some (.int .u64 (l.getD i {}).n)∧W.cell? ⟨b,off+i*5+3,none⟩=some (.int .i64 (l.getD i {}).a)∧W.cell? ⟨b,off+i*5+4,none⟩=some (.int .i64 (l.getD i {}).b)
theorem add_none5 (a:Addr):a.add 0=a:=by cases a;simp[Addr.add]
theorem add_plain5 (b off n:Nat):(⟨b,off,none⟩:Addr).add n=⟨b,off+n,none⟩:=by unfold Addr.add;split<;>simp_all
def GapsIs (W:World) (v:Value) (l:List Int):Prop:= ∃a cap,v= .slice a l.length cap∧l.length≤cap∧∀i,i<l.length→∃b off,a=some ⟨b,off,none⟩∧W.cell? ⟨b,off+i,none⟩=some (.int .u8 (l.getD i 0))
end
section
open Go.RowKit
theorem below_step {w a b:World} (h:Below w.heap.size w a) (g:Below a.heap.size a b):Below w.heap.size w b:=h.trans (g.mono h.size)
theorem below_more {w a:World} (h:Below w.heap.size w a) (o:Obj):Below w.heap.size w (a.alloc o):=h.alloc h.size o
def Box (W:World) (p:Nat) (h l:Int):Prop:=W.cell? ⟨p,0,none⟩=some (.int .u64 h)∧W.cell? ⟨p,1,none⟩=some (.int .u64 l)∧p<W.heap.size
end
section
open Go.RowKit
structure Var2 (W:World) (p:Nat) (x y:Value):Prop where
 c0:W.cell? ⟨p,0,none⟩=some x
 c1:W.cell? ⟨p,1,none⟩=some y
 q0:W.frozen? ⟨p,0,none⟩=false
 q1:W.frozen? ⟨p,1,none⟩=false
 s:p<W.heap.size
structure Var3 (W:World) (p:Nat) (x y z:Value):Prop where
 c0:W.cell? ⟨p,0,none⟩=some x
 c1:W.cell? ⟨p,1,none⟩=some y
 c2:W.cell? ⟨p,2,none⟩=some z
 q0:W.frozen? ⟨p,0,none⟩=false
 q1:W.frozen? ⟨p,1,none⟩=false
 q2:W.frozen? ⟨p,2,none⟩=false
 s:p<W.heap.size
end
section
open Go.RowKit
abbrev Foot:=Nat→Prop
structure OnlyO (base:Nat) (O:Foot) (w w':World):Prop where
 bel:Below base w w'
 keep: ∀i,i<w.heap.size→¬O i→w'.heap[i]?=w.heap[i]?
theorem OnlyO.size {base:Nat} {O:Foot} {w w':World} (h:OnlyO base O w w'):w.heap.size≤w'.heap.size:=h.bel.size
def Grown (O O':Foot) (n:Nat):Prop:= ∀i,O' i→O i∨n≤i
end
section
open Go.RowKit
def Ints (k:IntKind) (w:World) (v:Value) (l:List Int):Prop:=
 ∃b off cap,v= .slice (some ⟨b,off,none⟩) l.length cap∧l.length≤cap∧b<w.heap.size∧∀i,i<l.length→w.cell? ⟨b,off+i,none⟩=some (.int k (l.getD i 0))
def OwnInts (t:TypeId) (k:IntKind) (w:World) (base:Nat) (v:Value) (l:List Int):Prop:=
 w.ownsRow base t 1 v l.length (l.map (Value.int k))∧v≠ .slice none 0 0
theorem OwnInts.ints {t:TypeId} {k:IntKind} {w:World} {base:Nat} {v:Value} {l:List Int} (h:OwnInts t k w base v l):Ints k w v l:=by
 obtain⟨h,hn⟩:=h
 have hlt:=h.lt
 have hcs:= @World.ownsRow.cells _ _ _ _ _ _ _ h
 rcases h.2 with⟨rfl,h0⟩|⟨g,cap,cur,rfl,h1,h2,h3,h4,h5,h6⟩
 ·exact absurd rfl hn
 ·refine⟨g,0,cap,rfl,h3,(hlt g rfl).2,fun i hi=>?_⟩
  have:=hcs (g:=g) rfl i (.int k (l.getD i 0)) (by rw[List.getElem?_map,Kh hi,Mk,Kh hi];rfl)
  rcases i with _|i<;>simpa [Addr.add] using this
theorem OwnInts.fresh (t:TypeId) (k:IntKind) (w:World) (base g:Nat) (hg:g=w.heap.size) (h:base≤g):OwnInts t k (w.alloc (.cells #[] t)) base (.slice (some ⟨g,0,none⟩) 0 0) []:=by
 subst hg
 exact⟨World.ownsRow_made w #[] 0 h (Nat.zero_le _) rfl,by simp⟩
theorem OwnInts.append {t:TypeId} {k:IntKind} {w':World} {base:Nat} {v':Value} {l:List Int} {m:Nat} {news:List Int} (h:w'.ownsRow base t 1 v' (l.length+m) (l.map (Value.int k)++news.map (Value.int k))) (hm:news.length=m)
  (hi: ¬v'= .slice none 0 0):OwnInts t k w' base v' (l++news):=by
 refine⟨?_,hi⟩
 rw[List.map_append,Kq,hm]
 exact h
theorem ints_next {t:TypeId} {k:IntKind} {w wr w1:World} {base:Nat} {v v':Value} {x:List Int} {z:Int} (hown:OwnInts t k wr base v x)
  (hown':w1.ownsRow base t 1 v' (x.length+1) (x.map (Value.int k)++ [.int k z])) (hgrow:(wr.alloc (.cells #[.int k z] t)).grownBy w1 v.ownBlock) (hiff: ¬v'= .slice none 0 0)
  (hbel:Below w.heap.size w wr) (hsz:w.heap.size≤base) (hbs:base≤wr.heap.size):
  OwnInts t k w1 base v' (x++ [z])∧Below w.heap.size w w1∧base≤w1.heap.size:=by
 have hlt:=hown.1.lt
 have ha:Below w.heap.size w (wr.alloc (.cells #[.int k z] t)):=hbel.alloc (by omega) _
 refine⟨OwnInts.append (news:= [z]) hown' rfl hiff,ha.grown hgrow (by simp;omega) (fun b hk=>by have:=(hlt _ hk).1;omega),?_⟩
 have:=hgrow.size;simp at this;omega
end
section
open Go.RowKit
structure OwnRow (t:TypeId) (w:World) (base:Nat) (v:Value) (vs:List Value):Prop where
 own:w.ownsRow base t 1 v vs.length vs
 non:v≠ .slice none 0 0
 one: ∀u∈vs,u.oneCell'=true
end
section
open Go.RowKit
theorem addr_add (g k:Nat):(⟨g,0,none⟩:Addr).add k=⟨g,k,none⟩:=by rcases k with _|k<;>simp[Addr.add]
structure RowK (t:TypeId) (sz:Nat) (w:World) (base:Nat) (v:Value) (vs:List (List Value)):Prop where
 own:w.ownsRow base t sz v vs.length vs.flatten
 wid: ∀u∈vs,u.length=sz
 one: ∀u∈vs,∀y∈u,y.oneCell'=true
theorem RowK.size {t:TypeId} {sz:Nat} {w:World} {base:Nat} {v:Value} {vs:List (List Value)} (h:RowK t sz w base v vs): ∃a cap,v= .slice a vs.length cap:=by
 rcases h.own.2 with⟨e,h0⟩|⟨g,cap,_,e,_⟩
 ·exact⟨none,0,by rw[e,h0]⟩
 ·exact⟨_,cap,e⟩
theorem RowK.form {t:TypeId} {sz:Nat} {w:World} {base:Nat} {v:Value} {vs:List (List Value)} (h:RowK t sz w base v vs) (hne:0<vs.length): ∃g cap,v= .slice (some ⟨g,0,none⟩) vs.length cap∧base≤g∧g<w.heap.size∧vs.length≤cap:=by
 have hlt:=h.own.lt
 rcases h.own.2 with⟨_,h0⟩|⟨g,cap,_,e,hb,_,hc,_⟩
 ·omega
 ·exact⟨g,cap,e,hb,(hlt g (by rw[e];rfl)).2,hc⟩
theorem RowK.lt {t:TypeId} {sz:Nat} {w:World} {base:Nat} {v:Value} {vs:List (List Value)} (h:RowK t sz w base v vs) {b:Nat} (hb:v.ownBlock=some b):base≤b∧b<w.heap.size:=h.own.lt b hb
theorem RowK.kept {t:TypeId} {sz:Nat} {w w':World} {base:Nat} {v:Value} {vs:List (List Value)} (h:RowK t sz w base v vs) (hk: ∀b,v.ownBlock=some b→w'.heap[b]?=w.heap[b]?):RowK t sz w' base v vs:=by
 obtain⟨⟨h1,h2⟩,hn,ho⟩:=h
 refine⟨⟨h1,?_⟩,hn,ho⟩
 rcases h2 with hx|⟨g,cap,cur,rfl,hbg,hg,rest⟩
 ·exact Or.inl hx
 ·exact Or.inr ⟨g,cap,cur,rfl,hbg,(hk g rfl).trans hg,rest⟩
theorem RowK.below {t:TypeId} {sz:Nat} {w w':World} {base:Nat} {v:Value} {vs:List (List Value)} (h:RowK t sz w base v vs) (hb:Below w.heap.size w w'):RowK t sz w' base v vs:=
 h.kept fun b e=>hb.block b (h.lt e).2
theorem getD_flatten {sz:Nat} : ∀(vs:List (List Value)) (i j:Nat),(∀u∈vs,u.length=sz)→i<vs.length→j<sz→vs.flatten[i*sz+j]?=some ((vs.getD i []).getD j undef)
 | [],i,j,_,h,_=>by cases h
 |u::vs,0,j,hl,_,hj=>by
  have h1:=hl u (Jz ..)
  rw[List.flatten_cons,Nat.zero_mul,Ly,List.getElem?_append_left (by omega),Kh (by omega)]
  simp[Mk,Kh (show j<u.length by omega)]
 |u::vs,i+1,j,hl,h,hj=>by
  have h1:=hl u (Jz ..)
  have ih:=getD_flatten vs i j (fun x hx=>hl x (Jy _ hx)) (by simpa using h) hj
  have e:(i+1)*sz+j=u.length+(i*sz+j):=by rw[Nat.add_mul,h1];omega
  rw[List.flatten_cons,e,List.getElem?_append_right (by omega),show u.length+(i*sz+j)-u.length=i*sz+j by omega,ih]
  rfl
theorem RowK.at {t:TypeId} {sz:Nat} {w:World} {base g n cap:Nat} {vs:List (List Value)} (h:RowK t sz w base (.slice (some ⟨g,0,none⟩) n cap) vs) (i j:Nat) (hi:i<vs.length) (hj:j<sz):w.cell? ⟨g,i*sz+j,none⟩=some ((vs.getD i []).getD j undef):=by
 have hcs:= @World.ownsRow.cells _ _ _ _ _ _ _ h.own
 have:=hcs (g:=g) rfl (i*sz+j) _ (getD_flatten vs i j h.wid hi hj)
 rw[addr_add]at this
 exact this
theorem run_rowK {w:World} {T t:TypeId} {z:Value} {sz bts:Nat} (hT:Tryz.prog.underlying T=some (.slice t)) (hinf:(Tryz.prog.info? t).map (fun i=>(i.zero,i.size,i.bytes))=some (some z,sz,bts)) (hzs:z.cells.size=sz) (hsz:0<sz) (hbt:bts≤128)
  (base:Nat) (v:Value) (vs:List (List Value)) (hown:RowK t sz w base v vs) (g:Nat) (y:List Value) (hyl:y.length=sz) (hcell: ∀j,j<sz→w.cell? ⟨g,j,none⟩=some (y.getD j undef)) (hy: ∀u∈y,u.oneCell'=true) (hlen:vs.length≤1000000) (hbase:base≤w.heap.size) (ty:TypeId):
  ∃v' w',(Builtin.append_ #[T,T] ty #[v, .slice (some ⟨g,0,none⟩) 1 1]).run Tryz.prog w= .ok v' w'∧RowK t sz w' base v' (vs++ [y])∧OnlyO base (fun i=>some i=v.ownBlock) w w'∧(v'.ownBlock=v.ownBlock∨v'.ownBlock=some w.heap.size):=by
 obtain⟨i0,hi,hz0,hz1,hz2⟩:=info_parts hinf
 have hnews: ∀j u,y[j]?=some u→w.cell? ((⟨g,0,none⟩:Addr).add j)=some u:=by
  intro j u hj
  have hj2:j<y.length:=(List.getElem?_eq_some_iff.1 hj).1
  have:=hcell j (by omega)
  rw[Mk,hj]at this
  rw[addr_add]
  exact this
 have hby:(vs.length+1)*bts≤1000001*128:=Nat.mul_le_mul (by omega) hbt
 obtain⟨v',w',hr,h2,h3,h4,h5⟩:=run_append_own_at (P:=Tryz.prog) w base T ty t i0 z sz bts hT hi hz0 hz1 hz2 hzs hsz v vs.length vs.flatten hown.own ⟨g,0,none⟩ 1 1 y (by omega) hnews hy (by unfold maxLen;omega) (by omega) hbase
 refine⟨v',w',hr,⟨?_,fun u hm=>?_,fun u hm=>?_⟩,⟨(Below.refl base w).grown h3 hbase (fun b hk=>(hown.lt hk).1),fun i hi hne=>h3.block i hi hne⟩,h5⟩
 ·rw[Kq,List.flatten_append]
  simpa using h2
 ·rcases List.mem_append.mp hm with hm|hm
  ·exact hown.wid u hm
  ·rw[List.mem_singleton.mp hm];exact hyl
 ·rcases List.mem_append.mp hm with hm|hm
  ·exact hown.one u hm
  ·rw[List.mem_singleton.mp hm];exact hy
theorem wp_rowK {w:World} {ops:Array Oper} {rest:List Oper} {o:Oper} {a:Act} {Q:Exit→Act→World→Prop} {T t:TypeId} {z:Value} {sz bts:Nat} (hgd:o.guard=none) (s x:Operand)
  (ho:o.op= .call { callee:= .builtin .append,args:= #[s,x],argTypes:= #[T,T] }) (hT:Tryz.prog.underlying T=some (.slice t)) (hinf:(Tryz.prog.info? t).map (fun i=>(i.zero,i.size,i.bytes))=some (some z,sz,bts)) (hzs:z.cells.size=sz) (hsz:0<sz) (hbt:bts≤128)
  (base:Nat) (v:Value) (vs:List (List Value)) (hs:a.eval s=v) (hown:RowK t sz w base v vs) (g:Nat) (y:List Value) (hx:a.eval x= .slice (some ⟨g,0,none⟩) 1 1) (hyl:y.length=sz) (hcell: ∀j,j<sz→w.cell? ⟨g,j,none⟩=some (y.getD j undef)) (hy: ∀u∈y,u.oneCell'=true)
  (hlen:vs.length≤1000000) (hbase:base≤w.heap.size)
  (h: ∀v' w',RowK t sz w' base v' (vs++ [y])→OnlyO base (fun i=>some i=v.ownBlock) w w'→(v'.ownBlock=v.ownBlock∨v'.ownBlock=some w.heap.size)→wpList Tryz.prog ops Q rest (a.put o.dst v') w'):wpList Tryz.prog ops Q (o::rest) a w:=by
 obtain⟨v',w',hr,h1,h2,h3⟩:=run_rowK hT hinf hzs hsz hbt base v vs hown g y hyl hcell hy hlen hbase o.type
 exact Lib.wpList_append_run w hgd s x _ _ ho v _ hs hx _ w' hr (h v' w' h1 h2 h3)
end
section
open Go.RowKit
def put3 (W:World) (p:Nat) (x y z:Value):World:=((W.setCell ⟨p,0,none⟩ x).setCell ⟨p,1,none⟩ y).setCell ⟨p,2,none⟩ z
def put2 (W:World) (p:Nat) (x y:Value):World:=(W.setCell ⟨p,0,none⟩ x).setCell ⟨p,1,none⟩ y
end
section
def W64 (n:Nat):Prop:=n<18446744073709551616
def W128 (n:Nat):Prop:=n<340282366920938463463374607431768211456
def wide (h l:Nat):Nat:=h*18446744073709551616+l
def b2n (b:Bool):Nat:=if b then 1 else 0
def val:List Bool→Nat
 | []=>0
 |b::l=>b2n b+2*val l
def bitN (l:List Bool) (i:Nat):Nat:=b2n (l.getD i false)
def lo (l:List Bool) (k:Nat):Nat:=val (l.take k)
def hi (l:List Bool) (k:Nat):Nat:=val (l.drop k)
def cmpI (x y:Nat):Int:=if x<y then-1 else if y<x then 1 else 0
def LowOf (x:List Bool) (N:Nat):Prop:=val x=N%2^x.length
end
section
structure IsW (h l:Int) (N:Nat):Prop where
 h0:0≤h
 h1:h≤18446744073709551615
 l0:0≤l
 l1:l≤18446744073709551615
 n:h*18446744073709551616+l=(N:Int)
theorem IsW.lt {h l:Int} {N:Nat} (w:IsW h l N):W128 N:=by
 obtain⟨a,b,c,d,e⟩:=w;unfold W128;omega
theorem IsW.unique {h l h' l':Int} {N:Nat} (w:IsW h l N) (w':IsW h' l' N):h=h'∧l=l':=by
 obtain⟨a,b,c,d,e⟩:=w;obtain⟨a',b',c',d',e'⟩:=w';omega
theorem IsW.zero:IsW 0 0 0:=⟨by decide,by decide,by decide,by decide,rfl⟩
theorem IsW.small {l:Int} (l0:0≤l) (l1:l≤18446744073709551615):IsW 0 l l.toNat:=⟨by decide,by decide,l0,l1,by omega⟩
def capN (n:Nat):Nat:=if n<340282366920938463463374607431768211456 then n else 0
def capC (n:Nat):Int:=if n<340282366920938463463374607431768211456 then 0 else 3
end
section
def dec (n:Nat):List Int:=if n<10 then [48+(n:Int)]else dec (n/10)++ [48+((n%10:Nat):Int)]
termination_by n
decreasing_by omega
theorem dec_small {n:Nat} (h:n<10):dec n= [48+(n:Int)]:=by rw[dec,if_pos h]
theorem dec_big {n:Nat} (h: ¬n<10):dec n=dec (n/10)++ [48+((n%10:Nat):Int)]:=by rw[dec,if_neg h]
theorem dec_pos (n:Nat):1≤(dec n).length:=by
 rw[dec];split<;>simp
theorem dec_byte (n:Nat): ∀x∈dec n,48≤x∧x≤57:=by
 induction n using Nat.strongRecOn with
 |_ n ih=>
  intro x hx
  by_cases h:n<10
  ·rw[dec_small h]at hx
   simp at hx;omega
  ·rw[dec_big h]at hx
   rcases List.mem_append.mp hx with hx|hx
   ·exact ih (n/10) (by omega) x hx
   ·simp at hx;omega
structure PrintAt (A a:Nat) (xs:List Int):Prop where
 all:dec A=dec a++xs
 some:xs= []∨1≤a
 le:a*10^xs.length≤A
theorem PrintAt.start (A:Nat):PrintAt A A []:=⟨by simp,Or.inl rfl,by simp⟩
theorem PrintAt.next {A a:Nat} {xs:List Int} (h:PrintAt A a xs) (ha: ¬a<10):PrintAt A (a/10) ((48+((a%10:Nat):Int))::xs):=by
 obtain⟨h1,h2,h3⟩:=h
 refine⟨by rw[h1,dec_big ha];simp,Or.inr (by omega),?_⟩
 have:a/10*10^(xs.length+1)=(a/10*10)*10^xs.length:=by rw[Nat.pow_succ];grind
 have h4:(a/10*10)*10^xs.length≤a*10^xs.length:=Nat.mul_le_mul_right _ (by omega)
 simp only[Jq];omega
theorem PrintAt.last {A a:Nat} {xs:List Int} (h:PrintAt A a xs) (ha:a<10):dec A=(48+((a%10:Nat):Int))::xs:=by
 rw[h.all,dec_small ha,Nat.mod_eq_of_lt ha];rfl
theorem PrintAt.room {A a:Nat} {xs:List Int} (h:PrintAt A a xs) (hA:W128 A):xs.length<39:=by
 obtain⟨h1,h2,h3⟩:=h
 rcases h2 with rfl|h2
 ·simp
 ·have: ¬39≤xs.length:=fun hc=>by
   have h4:10^39≤10^xs.length:=Nat.pow_le_pow_right (by decide) hc
   have h5:1*10^xs.length≤a*10^xs.length:=Nat.mul_le_mul_right _ h2
   unfold W128 at hA
   omega
  omega
end
section
def nums (s:ByteArray):List Int:=s.data.toList.map fun b=>(b.toNat:Int)
structure Dg (zs:List Int):Prop where
 some:zs≠ []
 head:zs.getD 0 0=48→zs.length=1
 all: ∀i,i<zs.length→48≤zs.getD i 0∧zs.getD i 0≤57
def numOf (zs:List Int):Nat:=zs.foldl (fun a z=>10*a+(z-48).toNat) 0
theorem nums_length (s:ByteArray):(nums s).length=s.size:=by simp[nums]
theorem nums_at (s:ByteArray) (i:Nat) (h:i<s.size):(nums s).getD i 0=(s[i].toNat:Int):=by
 rw[Mk,nums,List.getElem?_map,Kh (by simpa using h)]
 rfl
theorem nums_byte (s:ByteArray): ∀z∈nums s,0≤z∧z≤255:=by
 intro z hz
 obtain⟨b,_,rfl⟩:=List.mem_map.mp hz
 have:=b.toNat_lt
 omega
theorem strOfNums_nums (s:ByteArray):strOfNums (nums s)=s:=by
 unfold strOfNums nums
 apply ByteArray.ext
 simp only[List.map_map]
 have:(fun n:Int=>UInt8.ofNat n.toNat)∘(fun b:UInt8=>(b.toNat:Int))=id:=by
  funext b;simp
 rw[this];simp
theorem numOf_snoc (zs:List Int) (z:Int):numOf (zs++ [z])=10*numOf zs+(z-48).toNat:=by simp[numOf]
theorem numOf_nil:numOf []=0:=rfl
theorem numOf_step (zs:List Int) (k:Nat) (h:k<zs.length):numOf (zs.take (k+1))=10*numOf (zs.take k)+(zs.getD k 0-48).toNat:=by
 rw[List.take_succ_eq_append_getElem h,numOf_snoc,Mk,Kh h];rfl
theorem numOf_pow (zs:List Int) (hd:49≤zs.getD 0 0) (j:Nat) (h:j+1≤zs.length):10^j≤numOf (zs.take (j+1)):=by
 induction j with
 |zero=>
  rw[numOf_step zs 0 (by omega),List.take_zero,numOf_nil]
  have e:(10:Nat)^0=1:=rfl
  omega
 |succ j ih=>
  have:=ih (by omega)
  rw[numOf_step zs (j+1) (by omega),Nat.pow_succ];omega
theorem numOf_dec (n:Nat):numOf (dec n)=n:=by
 induction n using Nat.strongRecOn with
 |_ n ih=>
  by_cases h:n<10
  ·rw[dec_small h,show [48+(n:Int)]= []++ [48+(n:Int)] from rfl,numOf_snoc,numOf_nil];omega
  ·rw[dec_big h,numOf_snoc,ih (n/10) (by omega)];omega
theorem dec_head (n:Nat) (h:1≤n):49≤(dec n).getD 0 0:=by
 induction n using Nat.strongRecOn with
 |_ n ih=>
  by_cases hs:n<10
  ·rw[dec_small hs];simp;omega
  ·have h1:=ih (n/10) (by omega) (by omega)
   have h2:=dec_pos (n/10)
   rw[dec_big hs]
   rw[Mk,List.getElem?_append_left (by omega),←Mk]
   exact h1
theorem dec_len {n:Nat} (h:W128 n):(dec n).length≤39:=by
 by_cases h0:n=0
 ·subst h0;rw[dec_small (by decide)];decide
 ·have h1:=dec_head n (by omega)
  have h2:=dec_pos n
  have h3:=numOf_pow (dec n) h1 ((dec n).length-1) (by omega)
  rw[show(dec n).length-1+1=(dec n).length by omega,List.take_length,numOf_dec]at h3
  have h4: ¬39≤(dec n).length-1:=fun hc=>by
   have:10^39≤10^((dec n).length-1):=Nat.pow_le_pow_right (by decide) hc
   unfold W128 at h;omega
  omega
theorem strOfNums_append (a b:List Int):strOfNums a++strOfNums b=strOfNums (a++b):=by
 apply ByteArray.ext
 simp[strOfNums]
end
section
def clsN (b:Int):Nat:=if 192≤b∧b<224 then 1 else if 224≤b∧b<240 then 2 else if 240≤b∧b<248 then 3 else 0
def clsB (b:Int):Int:=if 192≤b∧b<224 then b-192 else if 224≤b∧b<240 then b-224 else if 240≤b∧b<248 then b-240 else b
def clsL (b:Int):Int:=if 192≤b∧b<224 then 128 else if 224≤b∧b<240 then 2048 else if 240≤b∧b<248 then 65536 else 0
def contB (zs:List Int) (j:Nat):Bool:=decide (j<zs.length)&&decide (128≤zs.getD j 0)&&decide (zs.getD j 0≤191)
def allB (zs:List Int) (i:Nat):Nat→Bool
 |0=>true
 |k+1=>allB zs i k&&contB zs (i+(k+1))
def cAt (zs:List Int) (i:Nat):Nat→Int
 |0=>clsB (zs.getD i 0)
 |k+1=>64*cAt zs i k+zs.getD (i+(k+1)) 0-128
def wholeB (zs:List Int) (i:Nat):Bool:=
 decide (0<clsN (zs.getD i 0))&&allB zs i (clsN (zs.getD i 0))&&decide (clsL (zs.getD i 0)≤cAt zs i (clsN (zs.getD i 0)))&&decide (cAt zs i (clsN (zs.getD i 0))≤1114111)&& !(decide (55296≤cAt zs i (clsN (zs.getD i 0)))&&decide (cAt zs i (clsN (zs.getD i 0))<57344))
def runeA (zs:List Int) (i:Nat):Int:=if zs.getD i 0<128 then zs.getD i 0 else if wholeB zs i=true then cAt zs i (clsN (zs.getD i 0))else-1
def widA (zs:List Int) (i:Nat):Nat:=if zs.getD i 0<128 then 1 else if wholeB zs i=true then clsN (zs.getD i 0)+1 else 1
theorem widA_pos (zs:List Int) (i:Nat):1≤widA zs i:=by
 unfold widA
 split
 ·exact Mz _
 ·split<;>omega
def rfrom (zs:List Int) (i:Nat):List Int:=if i<zs.length then runeA zs i::rfrom zs (i+widA zs i)else []
termination_by zs.length-i
decreasing_by have:=widA_pos zs i;omega
theorem rfrom_in {zs:List Int} {i:Nat} (h:i<zs.length):rfrom zs i=runeA zs i::rfrom zs (i+widA zs i):=by rw[rfrom,if_pos h]
theorem rfrom_out {zs:List Int} {i:Nat} (h: ¬i<zs.length):rfrom zs i= []:=by rw[rfrom,if_neg h]
def runesOf (zs:List Int):List Int:=rfrom zs 0
theorem clsN_le (b : Int) : clsN b ≤ 3 := by unfold clsN; repeat' split
                                             all_goals omega
theorem contB_iff {zs:List Int} {j:Nat} :contB zs j=true↔j<zs.length∧128≤zs.getD j 0∧zs.getD j 0≤191:=by
 unfold contB;simp[and_assoc]
theorem allB_in {zs:List Int} {i k:Nat} (h:allB zs i k=true) {j:Nat} (h1:1≤j) (h2:j≤k):contB zs (i+j)=true:=by
 induction k with
 |zero=>omega
 |succ k ih=>
  simp only[allB,Bool.and_eq_true]at h
  by_cases e:j=k+1
  ·subst e;exact h.2
  ·exact ih h.1 (by omega)
theorem allB_less {zs:List Int} {i k:Nat} (h:allB zs i k=false) {n:Nat} (hn:k≤n):allB zs i n=false:=by
 induction n with
 | zero => obtain rfl : k = 0 := by omega
           exact h
 |succ n ih=>
  by_cases e:k=n+1
  ·subst e;exact h
  ·simp only[allB,ih (by omega),Bool.false_and]
theorem wholeB_end {zs:List Int} {i:Nat} (h:wholeB zs i=true):i+clsN (zs.getD i 0)<zs.length:=by
 unfold wholeB at h
 simp only[Bool.and_eq_true,decide_eq_true_eq]at h
 have:=allB_in h.1.1.1.2 (j:=clsN (zs.getD i 0)) (by omega) (Mz _)
 exact(contB_iff.mp this).1
theorem widA_in {zs:List Int} {i:Nat} (h:i<zs.length):i+widA zs i≤zs.length:=by
 unfold widA
 split
 ·omega
 ·split
  ·rename_i hw;have:=wholeB_end hw;omega
  ·omega
theorem runeA_le (zs:List Int) (i:Nat) (h0:0≤zs.getD i 0): -1≤runeA zs i∧runeA zs i≤1114111:=by
 unfold runeA
 split
 ·omega
 ·split
  ·rename_i hw
   unfold wholeB at hw
   simp only[Bool.and_eq_true,decide_eq_true_eq]at hw
   have h1:=hw.1.2
   have h2:=hw.1.1.2
   have h3 : 0 ≤ clsL (zs.getD i 0) := by unfold clsL; repeat' split
                                          all_goals omega
   omega
  ·omega
theorem runeA_bad {zs:List Int} {i:Nat} (h1: ¬zs.getD i 0<128) (h2:wholeB zs i=false):runeA zs i= -1∧widA zs i=1:=by
 unfold runeA widA
 rw[if_neg h1,if_neg h1,h2]
 exact⟨rfl,rfl⟩
theorem runeA_good {zs:List Int} {i:Nat} (h1: ¬zs.getD i 0<128) (h2:wholeB zs i=true):runeA zs i=cAt zs i (clsN (zs.getD i 0))∧widA zs i=clsN (zs.getD i 0)+1:=by
 unfold runeA widA
 rw[if_neg h1,if_neg h1,if_pos h2,if_pos h2]
 exact⟨rfl,rfl⟩
theorem runeA_low {zs:List Int} {i:Nat} (h1:zs.getD i 0<128):runeA zs i=zs.getD i 0∧widA zs i=1:=by
 unfold runeA widA
 rw[if_pos h1,if_pos h1]
 exact⟨rfl,rfl⟩
theorem nums_get (s:ByteArray) (k:Nat):(((s.get! k).toNat:Nat):Int)=(nums s).getD k 0:=by
 by_cases h:k<s.size
 ·rw[nums_at s k h]
  congr 2
  simp[ByteArray.get!,h]
  rfl
 ·rw[Mk,List.getElem?_eq_none (by rw[nums_length];omega)]
  have:s.get! k=0:=by
   simp[ByteArray.get!,h]
   rfl
  rw[this];rfl
theorem cont_get (s:ByteArray) (k:Nat):(decide (k<s.size)&&(s.get! k).toNat/64==2)=contB (nums s) k:=by
 have hg:=nums_get s k
 obtain⟨a,ha⟩: ∃a,(s.get! k).toNat=a:=⟨_,rfl⟩
 rw[ha]at hg ⊢
 unfold contB
 rw[nums_length,←hg]
 by_cases hk:k<s.size
 ·have e:(a/64==2)=(decide ((128:Int)≤a)&&decide ((a:Int)≤191)):=by
   rw[Bool.eq_iff_iff]
   simp only[beq_iff_eq,Bool.and_eq_true,decide_eq_true_eq]
   omega
  rw[e,Bool.and_assoc]
 ·simp[hk]
theorem decode_rune (s:ByteArray) (pos:Nat) (_h:pos<s.size):
  (runeA (nums s) pos= -1∧widA (nums s) pos=1∧Utf8.decode s pos=(65533,1))∨(0≤runeA (nums s) pos∧Utf8.decode s pos=((runeA (nums s) pos).toNat,widA (nums s) pos)):=by
 have g0:=nums_get s pos
 have g1:=nums_get s (pos+1)
 have g2:=nums_get s (pos+2)
 have g3:=nums_get s (pos+3)
 have c1:=cont_get s (pos+1)
 have c2:=cont_get s (pos+2)
 have c3:=cont_get s (pos+3)
 obtain⟨a0,e0⟩: ∃a,(s.get! pos).toNat=a:=⟨_,rfl⟩
 obtain⟨a1,e1⟩: ∃a,(s.get! (pos+1)).toNat=a:=⟨_,rfl⟩
 obtain⟨a2,e2⟩: ∃a,(s.get! (pos+2)).toNat=a:=⟨_,rfl⟩
 obtain⟨a3,e3⟩: ∃a,(s.get! (pos+3)).toNat=a:=⟨_,rfl⟩
 have b0:a0<256:=by rw[←e0];exact(s.get! pos).toNat_lt
 have b1:a1<256:=by rw[←e1];exact(s.get! (pos+1)).toNat_lt
 have b2:a2<256:=by rw[←e2];exact(s.get! (pos+2)).toNat_lt
 have b3:a3<256:=by rw[←e3];exact(s.get! (pos+3)).toNat_lt
 rw[e0]at g0
 rw[e1]at g1 c1
 rw[e2]at g2 c2
 rw[e3]at g3 c3
 simp only[Utf8.decode,Nat.add_zero,e0,e1,e2,e3,c1,c2,c3]
 generalize hzs:nums s=zs at*
 by_cases k0:a0<128
 ·rw[if_pos k0]
  obtain⟨r1,r2⟩:=runeA_low (zs:=zs) (i:=pos) (by omega)
  rw[r1,r2,←g0]
  exact Or.inr ⟨by omega,by simp⟩
 rw[if_neg k0]
 have kk: ¬zs.getD pos 0<128:=by omega
 have q1:allB zs pos 1=contB zs (pos+1):=by simp[allB]
 have q2:allB zs pos 2=(contB zs (pos+1)&&contB zs (pos+2)):=by simp[allB]
 have q3:allB zs pos 3=(contB zs (pos+1)&&contB zs (pos+2)&&contB zs (pos+3)):=by simp[allB]
 have none:wholeB zs pos=false→(runeA zs pos= -1∧widA zs pos=1∧(Utf8.runeError,1)=(65533,1)):=fun h=>⟨(runeA_bad kk h).1,(runeA_bad kk h).2,rfl⟩
 have some: ∀n c,wholeB zs pos=true→clsN (zs.getD pos 0)=n→cAt zs pos n=((c:Nat):Int)→(0≤runeA zs pos∧((c,n+1):Nat×Nat)=((runeA zs pos).toNat,widA zs pos)):=fun n c h hn hc=>by
  obtain⟨h1,h2⟩:=runeA_good kk h
  rw[h1,h2,hn,hc]
  exact⟨by omega,by simp⟩
 by_cases k2:192≤a0∧a0<224
 ·have n1:clsN (zs.getD pos 0)=1:=by unfold clsN;rw[if_pos (by omega)]
  have l1:clsL (zs.getD pos 0)=128:=by unfold clsL;rw[if_pos (by omega)]
  have v1:cAt zs pos 1=((a0:Int)-192)*64+a1-128:=by simp only[cAt,clsB];rw[if_pos (by omega),←g0,←g1];omega
  have t1:(a0/32==6)=true:=by simp;omega
  have t2:(a0/16==14)=false:=by simp;omega
  have t3:(a0/8==30)=false:=by simp;omega
  rw[t1,t2,t3]
  simp only[Bool.true_and,Bool.false_and,Bool.false_eq_true,if_false]
  cases hc1:contB zs (pos+1)with
  |false=>
   left
   simp only[Bool.false_eq_true,if_false]
   exact none (by unfold wholeB;rw[n1,q1,hc1];rfl)
  |true=>
   have:=contB_iff.mp hc1
   simp only[if_true]
   by_cases hv:a0%32*64+a1%64≥128
   ·rw[if_pos hv]
    right
    exact some 1 _ (by unfold wholeB;rw[n1,q1,hc1,l1,v1];simp;omega) n1 (by rw[v1];omega)
   ·rw[if_neg hv]
    left
    exact none (by unfold wholeB;rw[n1,q1,hc1,l1,v1];simp;omega)
 by_cases k3:224≤a0∧a0<240
 ·have n1:clsN (zs.getD pos 0)=2:=by unfold clsN;rw[if_neg (by omega),if_pos (by omega)]
  have l1:clsL (zs.getD pos 0)=2048:=by unfold clsL;rw[if_neg (by omega),if_pos (by omega)]
  have v1:cAt zs pos 2=64*(((a0:Int)-224)*64+a1-128)+a2-128:=by simp only[cAt,clsB];rw[if_neg (by omega),if_pos (by omega),←g0,←g1,←g2];omega
  have t1:(a0/32==6)=false:=by simp;omega
  have t2:(a0/16==14)=true:=by simp;omega
  have t3:(a0/8==30)=false:=by simp;omega
  rw[t1,t2,t3]
  simp only[Bool.true_and,Bool.false_and,Bool.false_eq_true,if_false]
  cases hc:(contB zs (pos+1)&&contB zs (pos+2))with
  |false=>
   left
   simp only[Bool.false_eq_true,if_false]
   exact none (by unfold wholeB;rw[n1,q2,hc];rfl)
  |true=>
   have hcc:=hc
   rw[Bool.and_eq_true,contB_iff,contB_iff]at hcc
   simp only[if_true]
   obtain⟨c,hcv⟩: ∃c,a0%16*4096+a1%64*64+a2%64=c:=⟨_,rfl⟩
   rw[hcv]
   have hcx:(c:Int)=cAt zs pos 2:=by rw[v1];omega
   by_cases hv:(decide (c≥2048)&&Utf8.valid (c:Int))=true
   ·rw[if_pos hv]
    right
    refine some 2 _ ?_ n1 hcx.symm
    unfold wholeB Utf8.valid at*
    rw[n1,q2,hc,l1,←hcx]
    simp at hv ⊢;omega
   ·rw[if_neg hv]
    left
    refine none ?_
    unfold wholeB Utf8.valid at*
    rw[n1,q2,hc,l1,←hcx]
    simp at hv ⊢;omega
 by_cases k4:240≤a0∧a0<248
 ·have n1:clsN (zs.getD pos 0)=3:=by unfold clsN;rw[if_neg (by omega),if_neg (by omega),if_pos (by omega)]
  have l1:clsL (zs.getD pos 0)=65536:=by unfold clsL;rw[if_neg (by omega),if_neg (by omega),if_pos (by omega)]
  have v1:cAt zs pos 3=64*(64*(((a0:Int)-240)*64+a1-128)+a2-128)+a3-128:=by simp only[cAt,clsB];rw[if_neg (by omega),if_neg (by omega),if_pos (by omega),←g0,←g1,←g2,←g3];omega
  have t1:(a0/32==6)=false:=by simp;omega
  have t2:(a0/16==14)=false:=by simp;omega
  have t3:(a0/8==30)=true:=by simp;omega
  rw[t1,t2,t3]
  simp only[Bool.true_and,Bool.false_and,Bool.false_eq_true,if_false]
  cases hc:(contB zs (pos+1)&&contB zs (pos+2)&&contB zs (pos+3))with
  |false=>
   left
   simp only[Bool.false_eq_true,if_false]
   exact none (by unfold wholeB;rw[n1,q3,hc];rfl)
  |true=>
   have hcc:=hc
   rw[Bool.and_eq_true,Bool.and_eq_true,contB_iff,contB_iff,contB_iff]at hcc
   simp only[if_true]
   obtain⟨c,hcv⟩: ∃c,a0%8*262144+a1%64*4096+a2%64*64+a3%64=c:=⟨_,rfl⟩
   rw[hcv]
   have hcx:(c:Int)=cAt zs pos 3:=by rw[v1];omega
   by_cases hv:(decide (c≥65536)&&Utf8.valid (c:Int))=true
   ·rw[if_pos hv]
    right
    refine some 3 _ ?_ n1 hcx.symm
    unfold wholeB Utf8.valid at*
    rw[n1,q3,hc,l1,←hcx]
    simp at hv ⊢;omega
   ·rw[if_neg hv]
    left
    refine none ?_
    unfold wholeB Utf8.valid at*
    rw[n1,q3,hc,l1,←hcx]
    simp at hv ⊢;omega
 ·have n1:clsN (zs.getD pos 0)=0:=by unfold clsN;rw[if_neg (by omega),if_neg (by omega),if_neg (by omega)]
  have t1:(a0/32==6)=false:=by simp;omega
  have t2:(a0/16==14)=false:=by simp;omega
  have t3:(a0/8==30)=false:=by simp;omega
  rw[t1,t2,t3]
  simp only[Bool.false_and,Bool.false_eq_true,if_false]
  left
  exact none (by unfold wholeB;rw[n1];rfl)
end
section
def letterB (r:Int):Bool:=(decide (97≤r)&&decide (r≤122))||(decide (65≤r)&&decide (r≤90))||(decide (192≤r)&&decide (r≤591)&&decide (r≠215)&&decide (r≠247))||(decide (880≤r)&&decide (r≤1279))
def digitB (r:Int):Bool:=decide (48≤r)&&decide (r≤57)
def GoodL (l:List Int):Prop:= ∀i,i<l.length→0≤l.getD i 0
def nameOk (l:List Int) (i:Nat):Bool:=letterB (l.getD i 0)||digitB (l.getD i 0)||(decide (i+1≠l.length)&&(decide (l.getD i 0=95)||decide (l.getD i 0=45)))
def NameL (l:List Int):Prop:=1≤l.length∧l.length≤24∧letterB (l.getD 0 0)=true∧∀i,i<l.length→nameOk l i=true
def encL (r:Int):List Int:=
 if r<128 then [r]else if r<2048 then [192+r/64,128+r%64]else if r<65536 then [224+r/4096,128+r/64%64,128+r%64]else [240+r/262144,128+r/4096%64,128+r/64%64,128+r%64]
theorem encL_len (r : Int) : (encL r).length ≤ 4 := by unfold encL; repeat' split
                                                       all_goals simp
theorem encL_byte {r:Int} (h0:0≤r) (h1:r≤1114111): ∀z∈encL r,0≤z∧z≤255:=by
 intro z hz
 unfold encL at hz
 repeat' split at hz
 all_goals
  simp only[List.mem_cons,List.not_mem_nil,or_false]at hz
  omega
def hexD (n:Nat):Int:=if n<10 then 48+(n:Int)else 87+(n:Int)
def hexL (n:Nat):List Int:=if n<16 then [hexD n]else hexL (n/16)++ [hexD (n%16)]
termination_by n
decreasing_by omega
theorem hexL_small {n:Nat} (h:n<16):hexL n= [hexD n]:=by rw[hexL,if_pos h]
theorem hexL_big {n:Nat} (h: ¬n<16):hexL n=hexL (n/16)++ [hexD (n%16)]:=by rw[hexL,if_neg h]
theorem hexL_len (n:Nat) (k:Nat) (h:n<16^(k+1)):(hexL n).length≤k+1:=by
 induction k generalizing n with
 |zero=>rw[hexL_small (by omega)];simp
 |succ k ih=>
  by_cases hs:n<16
  ·rw[hexL_small hs];simp
  ·rw[hexL_big hs,Kq]
   have:=ih (n/16) (by rw[Nat.pow_succ]at h;omega)
   simp;omega
def quoteR (r:Int):List Int:=
 if r=34 then [92,34]else if r=92 then [92,92]else if r=10 then [92,110]else if r=9 then [92,116]else if r<32∨r=127 then [92,117,123]++hexL r.toNat++ [125]else encL r
def quoteB (l:List Int):List Int:=l.flatMap quoteR
def quoteL (l:List Int):List Int:= [34]++quoteB l++ [34]
theorem quoteR_len {r:Int} (h:r≤1114111):(quoteR r).length≤9:=by
 have:=encL_len r
 unfold quoteR
 repeat' split
 all_goals try (simp;done)
 ·rename_i hr
  have:(hexL r.toNat).length≤2:=hexL_len r.toNat 1 (by omega)
  simp only[Kq,Jq,List.length_nil];omega
 ·omega
theorem quoteB_snoc (l:List Int) (z:Int):quoteB (l++ [z])=quoteB l++quoteR z:=by simp[quoteB]
theorem take_snoc {l:List Int} {i:Nat} (h:i<l.length):l.take (i+1)=l.take i++ [l.getD i 0]:=by
 rw[List.take_succ_eq_append_getElem h,Mk,Kh h];rfl
theorem GoodL.of_not {l:List Int} {i:Nat} (hi:i<l.length) (h:l.getD i 0<0): ¬GoodL l:=fun g=>by have:=g i hi;omega
end
section
inductive Qs where
 |start|norm (xs:List Int)|esc (xs:List Int)|uni (xs:List Int)|hex (xs:List Int) (k:Nat) (x:Int)|done (xs:List Int)|dead
def hexV (r:Int):Int:=if 48≤r∧r≤57 then r-48 else if 97≤r∧r≤102 then r-87 else-1
def ustep:Qs→Int→Qs
 | .start,r=>if r=34 then .norm []else .dead
 | .norm xs,r=>if r=34 then .done xs else if r<32∨r=127 then .dead else if r=92 then .esc xs else .norm (xs++ [r])
 | .esc xs,r=>if r=34∨r=92 then .norm (xs++ [r])else if r=110 then .norm (xs++ [10])else if r=116 then .norm (xs++ [9])else if r=117 then .uni xs else .dead
 | .uni xs,r=>if r=123 then .hex xs 0 0 else .dead
 | .hex xs k x,r=>if 0≤hexV r∧k<6 then .hex xs (k+1) (16*x+hexV r)else if r=125∧k≠0∧x≤1114111∧¬(55296≤x∧x<57344)then .norm (xs++ [x])else .dead
 | .done _,_=> .dead
 | .dead,_=> .dead
def ut (l:List Int) (i:Nat):Qs:=(l.take i).foldl ustep .start
def uf (l:List Int):Qs:=l.foldl ustep .start
def NoQ (l:List Int):Prop:= ∀xs,uf l≠ .done xs
def UnqL (l:List Int) (t:List Int) (c:Int):Prop:=
 (NoQ l∧t= []∧c=5)∨∃xs,uf l= .done xs∧((120<xs.length∧t= []∧c=9)∨(xs.length≤120∧t=xs.flatMap encL∧c=0))
end
section
def unitOf (c:Int):Nat:=if c=119 then 604800 else if c=100 then 86400 else if c=104 then 3600 else if c=109 then 60 else if c=115 then 1 else 0
def MaxT:Nat:=253402300799
theorem unitOf_digit {c:Int} (h:48≤c∧c≤57):unitOf c=0:=by
 unfold unitOf
 rw[if_neg (by omega),if_neg (by omega),if_neg (by omega),if_neg (by omega),if_neg (by omega)]
theorem unitOf_letter {c:Int} (h:unitOf c≠0): ¬(48≤c∧c≤57):=fun hd=>h (unitOf_digit hd)
theorem unitOf_high {c:Int} (h:128≤c):unitOf c=0:=by
 unfold unitOf
 rw[if_neg (by omega),if_neg (by omega),if_neg (by omega),if_neg (by omega),if_neg (by omega)]
structure St where
 acc:Nat
 last:Nat
 num:Option Nat
def stp (s:St) (z:Int):Option St:=
 if 48≤z∧z≤57 then some ⟨s.acc,s.last,some (10*s.num.getD 0+(z-48).toNat)⟩
 else match s.num with
  |none=>none
  |some n=>if unitOf z=0∨s.last≤unitOf z then none else some ⟨s.acc+n*unitOf z,unitOf z,none⟩
def runs:St→List Int→Option St
 |s,[]=>some s
 |s,z::r=>(stp s z).bind fun t=>runs t r
theorem runs_nil (s:St):runs s []=some s:=rfl
theorem runs_append (s:St) (a b:List Int):runs s (a++b)=(runs s a).bind fun t=>runs t b:=by
 induction a generalizing s with
 |nil=>rfl
 |cons z a ih=>
  simp only[List.cons_append,runs]
  cases h:stp s z with
  |none=>rfl
  |some t=>exact ih t
theorem runs_snoc (s:St) (a:List Int) (z:Int):runs s (a++ [z])=(runs s a).bind fun t=>stp t z:=by
 rw[runs_append]
 congr 1;funext t
 simp only[runs]
 cases stp t z<;>rfl
def St0:St:=⟨0,1000000,none⟩
def Tells (zs:List Int) (N:Nat):Prop:=zs≠ []∧∃last,runs St0 zs=some ⟨N,last,none⟩
theorem stp_digit {s:St} {z:Int} (h:48≤z∧z≤57):stp s z=some ⟨s.acc,s.last,some (10*s.num.getD 0+(z-48).toNat)⟩:=by rw[stp,if_pos h]
theorem stp_unit {a l n:Nat} {z:Int} (h:unitOf z≠0) (hl:unitOf z<l):stp ⟨a,l,some n⟩ z=some ⟨a+n*unitOf z,unitOf z,none⟩:=by
 rw[stp,if_neg (unitOf_letter h)]
 simp only
 rw[if_neg (by omega)]
theorem stp_bare {a l:Nat} {z:Int} (h: ¬(48≤z∧z≤57)):stp ⟨a,l,none⟩ z=none:=by rw[stp,if_neg h]
theorem stp_none {a l n:Nat} {z:Int} (h: ¬(48≤z∧z≤57)) (hu:unitOf z=0∨l≤unitOf z):stp ⟨a,l,some n⟩ z=none:=by
 rw[stp,if_neg h]
 simp only
 rw[if_pos hu]
theorem runs_digits (ds:List Int) (hd: ∀z∈ds,48≤z∧z≤57) (a l:Nat) (n:Option Nat) (hne:ds≠ []):runs ⟨a,l,n⟩ ds=some ⟨a,l,some (ds.foldl (fun x z=>10*x+(z-48).toNat) (n.getD 0))⟩:=by
 induction ds generalizing n with
 |nil=>exact(hne rfl).elim
 |cons z r ih=>
  simp only[runs]
  rw[stp_digit (hd z Jz)]
  simp only[Option.bind_some,List.foldl_cons]
  cases r with
  |nil=>rfl
  |cons y r=>
   rw[ih (fun x hx=>hd x (Jy _ hx)) (some (10*n.getD 0+(z-48).toNat)) (by simp)]
   rfl
theorem runs_dec (m a l:Nat):runs ⟨a,l,none⟩ (dec m)=some ⟨a,l,some m⟩:=by
 rw[runs_digits (dec m) (dec_byte m) a l none (fun e=>by have:=dec_pos m;rw[e]at this;simp at this)]
 have:=numOf_dec m
 unfold numOf at this
 simp only[Option.getD_none]
 rw[this]
theorem runs_piece (m a l:Nat) (c:Int) (hu:unitOf c≠0) (hl:unitOf c<l):runs ⟨a,l,none⟩ (dec m++ [c])=some ⟨a+m*unitOf c,unitOf c,none⟩:=by
 rw[runs_snoc,runs_dec]
 exact stp_unit hu hl
def sp:List Int→Nat→List Int
 | [],_=> []
 |c::r,n=>if unitOf c≤n then dec (n/unitOf c)++ [c]++sp r (n%unitOf c)else sp r n
def units:List Int:= [119,100,104,109,115]
def spn (n:Nat):List Int:=if n=0 then [48,115]else sp units n
theorem sp_last (n a l:Nat) (h:1<l): ∃l',runs ⟨a,l,none⟩ (sp [115] n)=some ⟨a+n,l',none⟩:=by
 have hu:unitOf 115=1:=rfl
 simp only[sp,hu,List.append_nil]
 by_cases h0:1≤n
 ·rw[if_pos h0,runs_piece _ _ _ _ (by rw[hu];decide) (by rw[hu];exact h),hu]
  exact⟨1,by simp⟩
 ·rw[if_neg h0]
  obtain rfl:n=0:=by omega
  exact⟨l,rfl⟩
theorem sp_step (c:Int) (r:List Int) (v:Nat) (hu:unitOf c≠0) (ih: ∀n a l,v<l→∃l',runs ⟨a,l,none⟩ (sp r n)=some ⟨a+n,l',none⟩) (hvl:v<unitOf c) (n a l:Nat) (h:unitOf c<l):
  ∃l',runs ⟨a,l,none⟩ (sp (c::r) n)=some ⟨a+n,l',none⟩:=by
 simp only[sp]
 by_cases hn:unitOf c≤n
 ·rw[if_pos hn,runs_append,runs_piece _ _ _ _ hu h]
  simp only[Option.bind_some]
  obtain⟨l',h'⟩:=ih (n%unitOf c) (a+n/unitOf c*unitOf c) (unitOf c) hvl
  refine⟨l',?_⟩
  rw[h']
  have:=Nat.div_add_mod n (unitOf c)
  have e:n/unitOf c*unitOf c=unitOf c*(n/unitOf c):=Nat.mul_comm _ _
  rw[show a+n/unitOf c*unitOf c+n%unitOf c=a+n by omega]
 ·rw[if_neg hn]
  exact ih n a l (by omega)
theorem sp_all (n a:Nat): ∃l',runs ⟨a,1000000,none⟩ (sp units n)=some ⟨a+n,l',none⟩:=by
 have h4:=sp_last
 have h3:=fun n a l h=>sp_step 109 [115] 1 (by decide) (fun n a l h=>h4 n a l h) (by decide) n a l h
 have h2:=fun n a l h=>sp_step 104 [109,115] 60 (by decide) (fun n a l h=>h3 n a l h) (by decide) n a l h
 have h1:=fun n a l h=>sp_step 100 [104,109,115] 3600 (by decide) (fun n a l h=>h2 n a l h) (by decide) n a l h
 exact sp_step 119 [100,104,109,115] 86400 (by decide) (fun n a l h=>h1 n a l h) (by decide) n a 1000000 (by decide)
theorem sp_some {n:Nat} (h:n≠0):sp units n≠ []:=by
 intro e
 obtain⟨l,hl⟩:=sp_all n 0
 rw[e,runs_nil]at hl
 simp only[Option.some.injEq,St.mk.injEq]at hl
 omega
theorem spn_tells (n:Nat):Tells (spn n) n:=by
 unfold spn
 by_cases h:n=0
 ·subst h
  exact⟨by simp,1,by rw[if_pos rfl];rfl⟩
 ·rw[if_neg h]
  obtain⟨l,hl⟩:=sp_all n 0
  exact⟨sp_some h,l,by rw[Ly]at hl;exact hl⟩
end
section
def withinB (r:Int):Bool:=letterB r||digitB r||decide (r=95)||decide (r=45)||decide (r=46)||decide (r=37)
def byteR (r:Int):List Int:=if r<0 then [255]else encL r
def textR (l:List Int):List Int:=l.flatMap byteR
def AllD (zs:List Int):Prop:=zs≠ []∧∀i,i<zs.length→48≤zs.getD i 0∧zs.getD i 0≤57
noncomputable def numF (zs:List Int):Nat×Int:=open Classical in if Dg zs then(if numOf zs≤18446744073709551615 then(numOf zs,0)else(0,8))else(0,5)
def t3 (B:List Int):Nat:=numOf ((B++List.replicate (3-B.length) 48).take 3)
noncomputable def facF (A B:List Int):Nat×Int:=
 open Classical in
 if AllD B∧B.length≤3 then
  (if(numF A).2=0 then(if(18446744073709551615-t3 B)/1000<(numF A).1 then(0,8)else(1000*(numF A).1+t3 B,0))else(0,(numF A).2))
 else(0,5)
end
section
structure DigAt (u u1 v1 v0 Q q r:Int):Prop where
 hu:q*v1+r=u
 hq:Q≤q
 hr0:0≤r
 hr:r<4294967296
theorem dig_exit {u u1 v1 v0 Q q r:Int} (h:DigAt u u1 v1 v0 Q q r) (hv:0<v1*4294967296+v0)
  (hQ:u*4294967296+u1<(Q+1)*(v1*4294967296+v0)) (hle:q*v0≤4294967296*r+u1):q=Q:=by
 obtain⟨h1,hq,_,_⟩:=h
 have e:q*(v1*4294967296+v0)≤u*4294967296+u1:=by
  subst h1;grind
 have: ¬Q+1≤q:=fun hc=>by
  have:=Int.mul_le_mul_of_nonneg_right hc (Int.le_of_lt hv)
  omega
 omega
theorem dig_less {u u1 v1 v0 Q q r:Int} (h:DigAt u u1 v1 v0 Q q r) (hv:0<v1*4294967296+v0) (h0:0≤u1) (h1:u1<4294967296)
  (hQ:Q*(v1*4294967296+v0)≤u*4294967296+u1) (hu:u<v1*4294967296+v0)
  (hc:4294967296≤q∨4294967296*r+u1<q*v0):Q≤q-1:=by
 obtain⟨e1,hq,_,_⟩:=h
 have hlt:Q<q:=by
  rcases hc with hc|hc
  ·have: ¬4294967296≤Q:=fun hb=>by
    have:=Int.mul_le_mul_of_nonneg_right hb (Int.le_of_lt hv)
    omega
   omega
  ·have e:u*4294967296+u1<q*(v1*4294967296+v0):=by
    subst e1;grind
   have: ¬q≤Q:=fun hb=>by
    have:=Int.mul_le_mul_of_nonneg_right hb (Int.le_of_lt hv)
    omega
   omega
 omega
theorem dig_next {u u1 v1 v0 Q q r:Int} (h:DigAt u u1 v1 v0 Q q r) (hv1:0≤v1) (hQ:Q≤q-1) (hb:r+v1<4294967296):DigAt u u1 v1 v0 Q (q-1) (r+v1):=by
 obtain⟨e1,_,h2,_⟩:=h
 exact⟨by grind,hQ,by omega,hb⟩
theorem dig_break {u u1 v1 v0 Q q r:Int} (h:DigAt u u1 v1 v0 Q q r) (hv1:0<v1) (hv0:0≤v0) (hv0':v0<4294967296) (h0:0≤u1)
  (hQ:Q≤q-1) (hQ0:0≤Q) (hQ':u*4294967296+u1<(Q+1)*(v1*4294967296+v0)) (hu:u<v1*4294967296+v0) (hb:4294967296≤r+v1):q-1=Q:=by
 obtain⟨e1,_,h2,_⟩:=h
 have e2:(q-1)*v1+(r+v1)=u:=by grind
 have hlt:q-1<4294967296:=by
  have: ¬4294967296≤q-1:=fun hc=>by
   have:=Int.mul_le_mul_of_nonneg_right hc (Int.le_of_lt hv1)
   omega
  omega
 have hm:(q-1)*v0≤4294967296*(r+v1)+u1:=by
  have a1:(q-1)*v0≤(q-1)*4294967296:=Int.mul_le_mul_of_nonneg_left (by omega) (by omega)
  omega
 have e:(q-1)*(v1*4294967296+v0)≤u*4294967296+u1:=by
  rw[←e2];grind
 have: ¬Q+1≤q-1:=fun hc=>by
  have:=Int.mul_le_mul_of_nonneg_right hc (by omega:0≤v1*4294967296+v0)
  omega
 omega
theorem dig_first (u u1 v1 v0:Int) (hv1:0<v1) (hv1':v1<4294967296) (hv0:0≤v0) (hu0:0≤u) (h0:0≤u1) (h1:u1<4294967296):
  DigAt u u1 v1 v0 ((u*4294967296+u1)/(v1*4294967296+v0)) (u/v1) (u-u/v1*v1):=by
 have e:=Int.emod_add_mul_ediv u v1
 have l:=Int.emod_nonneg u (by omega:v1≠0)
 have g:=Int.emod_lt_of_pos u hv1
 have e':u/v1*v1=v1*(u/v1):=Int.mul_comm _ _
 refine⟨by omega,?_,by omega,by omega⟩
 have hpos:0<v1*4294967296+v0:=by omega
 have hlt:(u*4294967296+u1)/(v1*4294967296+v0)<u/v1+1:=by
  refine(Int.ediv_lt_iff_lt_mul hpos).mpr ?_
  have hq0:0≤u/v1:=Int.ediv_nonneg hu0 (by omega)
  have h2:0≤(u/v1+1)*v0:=Int.mul_nonneg (by omega) hv0
  have h3:(u/v1+1)*(v1*4294967296+v0)=(v1*(u/v1)+v1)*4294967296+(u/v1+1)*v0:=by grind
  omega
 omega
theorem quo_facts (a b:Int) (hb:0<b):a/b*b≤a∧a<(a/b+1)*b:=by
 have e:=Int.emod_add_mul_ediv a b
 have l:=Int.emod_nonneg a (by omega:b≠0)
 have g:=Int.emod_lt_of_pos a hb
 have e':a/b*b=b*(a/b):=Int.mul_comm _ _
 have e2:(a/b+1)*b=b*(a/b)+b:=by grind
 omega
theorem quo_small (u u1 v:Int) (hv:0<v) (hu:u<v) (h1:u1<4294967296):(u*4294967296+u1)/v<4294967296:=
 (Int.ediv_lt_iff_lt_mul hv).mpr (by omega)
theorem two_digits (u u1 u0 v:Int) (hv:0<v):
  let q1:=(u*4294967296+u1)/v
  let r1:=u*4294967296+u1-q1*v
  let q0:=(r1*4294967296+u0)/v
  q1*4294967296+q0=(u*18446744073709551616+u1*4294967296+u0)/v∧r1*4294967296+u0-q0*v=(u*18446744073709551616+u1*4294967296+u0)%v:=by
 intro q1 r1 q0
 have hN:u*18446744073709551616+u1*4294967296+u0=(r1*4294967296+u0)+(q1*4294967296)*v:=by
  show _=(u*4294967296+u1-q1*v)*4294967296+u0+(q1*4294967296)*v
  grind
 have e1:(u*18446744073709551616+u1*4294967296+u0)/v=q0+q1*4294967296:=by
  rw[hN,Int.add_mul_ediv_right _ _ (by omega)]
 refine⟨by omega,?_⟩
 rw[Int.emod_def,e1,hN]
 grind
end
section
def RuneOk (r:Int):Prop:=0≤r∧r≤1114111∧¬(55296≤r∧r<57344)
theorem getD_right (a b:List Int) (i:Nat):(a++b).getD (a.length+i) 0=b.getD i 0:=by
 simp only[Mk]
 rw[List.getElem?_append_right (by omega)]
 congr 2
 omega
theorem contB_right (a b:List Int) (i:Nat):contB (a++b) (a.length+i)=contB b i:=by
 unfold contB
 rw[getD_right,Kq]
 congr 2
 simp
theorem allB_right (a b:List Int) (i k:Nat):allB (a++b) (a.length+i) k=allB b i k:=by
 induction k with
 |zero=>rfl
 |succ k ih=>simp only[allB];rw[ih,Nat.add_assoc,contB_right]
theorem cAt_right (a b:List Int) (i k:Nat):cAt (a++b) (a.length+i) k=cAt b i k:=by
 induction k with
 |zero=>simp only[cAt];rw[getD_right]
 |succ k ih=>simp only[cAt];rw[ih,Nat.add_assoc,getD_right]
theorem wholeB_right (a b:List Int) (i:Nat):wholeB (a++b) (a.length+i)=wholeB b i:=by
 unfold wholeB
 rw[getD_right,allB_right,cAt_right]
theorem runeA_right (a b:List Int) (i:Nat):runeA (a++b) (a.length+i)=runeA b i:=by
 unfold runeA
 rw[getD_right,wholeB_right,cAt_right]
theorem widA_right (a b:List Int) (i:Nat):widA (a++b) (a.length+i)=widA b i:=by
 unfold widA
 rw[getD_right,wholeB_right]
theorem rfrom_right (a b:List Int): ∀(n i:Nat),b.length-i≤n→rfrom (a++b) (a.length+i)=rfrom b i:=by
 intro n
 induction n with
 |zero=>intro i hi;rw[rfrom_out (by rw[Kq];omega),rfrom_out (by omega)]
 |succ n ih=>
  intro i hi
  by_cases h:i<b.length
  ·rw[rfrom_in (by rw[Kq];omega),rfrom_in h,runeA_right,widA_right,Nat.add_assoc,ih (i+widA b i) (by have:=widA_pos b i;omega)]
  ·rw[rfrom_out (by rw[Kq];omega),rfrom_out h]
theorem runes_right (a b:List Int):rfrom (a++b) a.length=runesOf b:=rfrom_right a b b.length 0 (by omega)
theorem runes_nil:runesOf []= []:=rfrom_out (by simp)
theorem runes_enc {r:Int} (h:RuneOk r) (ys:List Int):runesOf (encL r++ys)=r::runesOf ys:=by
 obtain⟨h0,h1,h2⟩:=h
 have key: ∀a:List Int,0<a.length→runeA (a++ys) 0=r→widA (a++ys) 0=a.length→runesOf (a++ys)=r::runesOf ys:=fun a ha hr hw=>by
  have e:=rfrom_in (zs:=a++ys) (i:=0) (by rw[Kq];omega)
  rw[hr,hw,Ly,runes_right]at e
  exact e
 unfold encL
 split
 ·rename_i h3
  exact key [r] (by simp) (runeA_low (by simpa using h3)).1 (runeA_low (by simpa using h3)).2
 split
 ·rename_i h3 h4
  refine key _ (by simp) ?_ ?_
  all_goals
   have hb:([192+r/64,128+r%64]++ys).getD 0 0=192+r/64:=rfl
   have hc:([192+r/64,128+r%64]++ys).getD 1 0=128+r%64:=rfl
   have hn:clsN (([192+r/64,128+r%64]++ys).getD 0 0)=1:=by rw[hb];unfold clsN;rw[if_pos (by omega)]
   have hv:cAt ([192+r/64,128+r%64]++ys) 0 1=r:=by simp only[cAt,Ly];rw[hb,hc];unfold clsB;rw[if_pos (by omega)];omega
   have hw:wholeB ([192+r/64,128+r%64]++ys) 0=true:=by
    unfold wholeB
    rw[hn,hv,hb]
    have:allB ([192+r/64,128+r%64]++ys) 0 1=true:=by simp only[allB,Bool.true_and,Ly];exact contB_iff.mpr ⟨by simp,by rw[hc];omega,by rw[hc];omega⟩
    rw[this];unfold clsL;rw[if_pos (by omega)];simp;omega
   have:=runeA_good (by rw[hb];omega) hw
   rw[hn,hv]at this
   first|exact this.1|exact this.2
 split
 ·rename_i h3 h4 h5
  refine key _ (by simp) ?_ ?_
  all_goals
   have hb:([224+r/4096,128+r/64%64,128+r%64]++ys).getD 0 0=224+r/4096:=rfl
   have hc:([224+r/4096,128+r/64%64,128+r%64]++ys).getD 1 0=128+r/64%64:=rfl
   have hd:([224+r/4096,128+r/64%64,128+r%64]++ys).getD 2 0=128+r%64:=rfl
   have hn:clsN (([224+r/4096,128+r/64%64,128+r%64]++ys).getD 0 0)=2:=by rw[hb];unfold clsN;rw[if_neg (by omega),if_pos (by omega)]
   have hv:cAt ([224+r/4096,128+r/64%64,128+r%64]++ys) 0 2=r:=by simp only[cAt,Ly];rw[hb,hc,hd];unfold clsB;rw[if_neg (by omega),if_pos (by omega)];omega
   have hw:wholeB ([224+r/4096,128+r/64%64,128+r%64]++ys) 0=true:=by
    unfold wholeB
    rw[hn,hv,hb]
    have:allB ([224+r/4096,128+r/64%64,128+r%64]++ys) 0 2=true:=by
     simp only[allB,Bool.true_and,Ly,Bool.and_eq_true]
     exact⟨contB_iff.mpr ⟨by simp,by rw[hc];omega,by rw[hc];omega⟩,contB_iff.mpr ⟨by simp,by rw[hd];omega,by rw[hd];omega⟩⟩
    rw[this];unfold clsL;rw[if_neg (by omega),if_pos (by omega)];simp;omega
   have:=runeA_good (by rw[hb];omega) hw
   rw[hn,hv]at this
   first|exact this.1|exact this.2
 ·rename_i h3 h4 h5
  refine key _ (by simp) ?_ ?_
  all_goals
   have hb:([240+r/262144,128+r/4096%64,128+r/64%64,128+r%64]++ys).getD 0 0=240+r/262144:=rfl
   have hc:([240+r/262144,128+r/4096%64,128+r/64%64,128+r%64]++ys).getD 1 0=128+r/4096%64:=rfl
   have hd:([240+r/262144,128+r/4096%64,128+r/64%64,128+r%64]++ys).getD 2 0=128+r/64%64:=rfl
   have he:([240+r/262144,128+r/4096%64,128+r/64%64,128+r%64]++ys).getD 3 0=128+r%64:=rfl
   have hn:clsN (([240+r/262144,128+r/4096%64,128+r/64%64,128+r%64]++ys).getD 0 0)=3:=by rw[hb];unfold clsN;rw[if_neg (by omega),if_neg (by omega),if_pos (by omega)]
   have hv:cAt ([240+r/262144,128+r/4096%64,128+r/64%64,128+r%64]++ys) 0 3=r:=by simp only[cAt,Ly];rw[hb,hc,hd,he];unfold clsB;rw[if_neg (by omega),if_neg (by omega),if_pos (by omega)];omega
   have hw:wholeB ([240+r/262144,128+r/4096%64,128+r/64%64,128+r%64]++ys) 0=true:=by
    unfold wholeB
    rw[hn,hv,hb]
    have:allB ([240+r/262144,128+r/4096%64,128+r/64%64,128+r%64]++ys) 0 3=true:=by
     simp only[allB,Bool.true_and,Ly,Bool.and_eq_true]
     exact⟨⟨contB_iff.mpr ⟨by simp,by rw[hc];omega,by rw[hc];omega⟩,contB_iff.mpr ⟨by simp,by rw[hd];omega,by rw[hd];omega⟩⟩,contB_iff.mpr ⟨by simp,by rw[he];omega,by rw[he];omega⟩⟩
    rw[this];unfold clsL;rw[if_neg (by omega),if_neg (by omega),if_pos (by omega)];simp;omega
   have:=runeA_good (by rw[hb];omega) hw
   rw[hn,hv]at this
   first|exact this.1|exact this.2
theorem runes_low {r:Int} (h0:0≤r) (h:r<128) (ys:List Int):runesOf (r::ys)=r::runesOf ys:=by
 have:=runes_enc (r:=r) ⟨h0,by omega,by omega⟩ ys
 unfold encL at this
 rw[if_pos h]at this
 exact this
end
section
theorem take_two {zs:List Int} {i:Nat} (h:i+1<zs.length):(zs.drop i).take 2= [zs.getD i 0,zs.getD (i+1) 0]:=by
 apply List.ext_getElem
 ·simp;omega
 ·intro j h1 h2
  have:j=0∨j=1:=by simp at h2;omega
  rcases this with rfl|rfl<;>simp[Mk,h,show i<zs.length by omega]
theorem take_three {zs:List Int} {i:Nat} (h:i+2<zs.length):(zs.drop i).take 3= [zs.getD i 0,zs.getD (i+1) 0,zs.getD (i+2) 0]:=by
 apply List.ext_getElem
 ·simp;omega
 ·intro j h1 h2
  have:j=0∨j=1∨j=2:=by simp at h2;omega
  rcases this with rfl|rfl|rfl<;>simp[Mk,h,show i<zs.length by omega,show i+1<zs.length by omega]
theorem take_four {zs:List Int} {i:Nat} (h:i+3<zs.length):(zs.drop i).take 4= [zs.getD i 0,zs.getD (i+1) 0,zs.getD (i+2) 0,zs.getD (i+3) 0]:=by
 apply List.ext_getElem
 ·simp;omega
 ·intro j h1 h2
  have:j=0∨j=1∨j=2∨j=3:=by simp at h2;omega
  rcases this with rfl|rfl|rfl|rfl<;>simp[Mk,h,show i<zs.length by omega,show i+1<zs.length by omega,show i+2<zs.length by omega]
theorem take_one {zs:List Int} {i:Nat} (h:i<zs.length):(zs.drop i).take 1= [zs.getD i 0]:=by
 apply List.ext_getElem
 ·simp;omega
 ·intro j h1 h2
  have:j=0:=by simp at h2;omega
  subst this
  simp[Mk,h]
theorem clsN_is {b:Int} {n:Nat} (h:clsN b=n):(n=1→192≤b∧b<224)∧(n=2→224≤b∧b<240)∧(n=3→240≤b∧b<248):=by
 unfold clsN at h
 split at h
 ·omega
 ·split at h
  ·omega
  ·split at h<;>omega
theorem enc_back {zs:List Int} {i:Nat} (hi:i<zs.length) (hb: ∀z∈zs,0≤z∧z≤255) (h:0≤runeA zs i):RuneOk (runeA zs i)∧encL (runeA zs i)=(zs.drop i).take (widA zs i):=by
 have hbd: ∀j,j<zs.length→0≤zs.getD j 0∧zs.getD j 0≤255:=fun j hj=>by
  rw[Mk,Kh hj]
  exact hb _ (List.getElem_mem hj)
 by_cases k0:zs.getD i 0<128
 ·obtain⟨h1,h2⟩:=runeA_low k0
  rw[h1,h2,take_one hi]
  have:=hbd i hi
  exact⟨⟨by omega,by omega,by omega⟩,by unfold encL;rw[if_pos k0]⟩
 ·cases hw:wholeB zs i with
  |false=>rw[(runeA_bad k0 hw).1]at h;omega
  |true=>
   obtain⟨h1,h2⟩:=runeA_good k0 hw
   have hend:=wholeB_end hw
   have hw2:=hw
   unfold wholeB at hw2
   simp only[Bool.and_eq_true,decide_eq_true_eq,Bool.not_eq_true',Bool.and_eq_false_iff,decide_eq_false_iff_not]at hw2
   obtain⟨⟨⟨⟨n0,hall⟩,hL⟩,hM⟩,hS⟩:=hw2
   have hb0:=hbd i hi
   have n3:=clsN_le (zs.getD i 0)
   have hn:clsN (zs.getD i 0)=1∨clsN (zs.getD i 0)=2∨clsN (zs.getD i 0)=3:=by omega
   rcases hn with hn|hn|hn
   ·rw[hn]at h1 h2 hend hall hL hM hS
    have hc:=contB_iff.mp (allB_in hall (j:=1) (by omega) (by omega))
    rw[h1,h2,take_two hend]
    have hcl:192≤zs.getD i 0∧zs.getD i 0<224:=(clsN_is hn).1 rfl
    have hv:cAt zs i 1=64*(zs.getD i 0-192)+zs.getD (i+1) 0-128:=by simp only[cAt,clsB];rw[if_pos hcl]
    have hLL:clsL (zs.getD i 0)=128:=by unfold clsL;rw[if_pos hcl]
    rw[hLL]at hL
    refine⟨⟨by omega,by omega,by omega⟩,?_⟩
    unfold encL
    rw[if_neg (by omega),if_pos (by omega)]
    simp only[List.cons.injEq,and_true]
    omega
   ·rw[hn]at h1 h2 hend hall hL hM hS
    have hc:=contB_iff.mp (allB_in hall (j:=1) (by omega) (by omega))
    have hd:=contB_iff.mp (allB_in hall (j:=2) (by omega) (by omega))
    rw[h1,h2,take_three hend]
    have hcl:224≤zs.getD i 0∧zs.getD i 0<240:=(clsN_is hn).2.1 rfl
    have hno: ¬(192≤zs.getD i 0∧zs.getD i 0<224):=by omega
    have hv:cAt zs i 2=64*(64*(zs.getD i 0-224)+zs.getD (i+1) 0-128)+zs.getD (i+2) 0-128:=by simp only[cAt,clsB];rw[if_neg hno,if_pos hcl]
    have hLL:clsL (zs.getD i 0)=2048:=by unfold clsL;rw[if_neg hno,if_pos hcl]
    rw[hLL]at hL
    generalize zs.getD i 0=a at*
    generalize zs.getD (i+1) 0=b at*
    generalize zs.getD (i+2) 0=c at*
    generalize cAt zs i 2=v at*
    refine⟨⟨by omega,by omega,by omega⟩,?_⟩
    unfold encL
    rw[if_neg (by omega),if_neg (by omega),if_pos (by omega)]
    simp only[List.cons.injEq,and_true]
    omega
   ·rw[hn]at h1 h2 hend hall hL hM hS
    have hc:=contB_iff.mp (allB_in hall (j:=1) (by omega) (by omega))
    have hd:=contB_iff.mp (allB_in hall (j:=2) (by omega) (by omega))
    have he:=contB_iff.mp (allB_in hall (j:=3) (by omega) (by omega))
    rw[h1,h2,take_four hend]
    have hcl:240≤zs.getD i 0∧zs.getD i 0<248:=(clsN_is hn).2.2 rfl
    have hno: ¬(192≤zs.getD i 0∧zs.getD i 0<224):=by omega
    have hno2: ¬(224≤zs.getD i 0∧zs.getD i 0<240):=by omega
    have hv:cAt zs i 3=64*(64*(64*(zs.getD i 0-240)+zs.getD (i+1) 0-128)+zs.getD (i+2) 0-128)+zs.getD (i+3) 0-128:=by simp only[cAt,clsB];rw[if_neg hno,if_neg hno2,if_pos hcl]
    have hLL:clsL (zs.getD i 0)=65536:=by unfold clsL;rw[if_neg hno,if_neg hno2,if_pos hcl]
    rw[hLL]at hL
    generalize zs.getD i 0=a at*
    generalize zs.getD (i+1) 0=b at*
    generalize zs.getD (i+2) 0=c at*
    generalize zs.getD (i+3) 0=d at*
    generalize cAt zs i 3=v at*
    refine⟨⟨by omega,by omega,by omega⟩,?_⟩
    unfold encL
    rw[if_neg (by omega),if_neg (by omega),if_neg (by omega)]
    simp only[List.cons.injEq,and_true]
    refine⟨?_,?_,?_,?_⟩<;>omega
theorem good_back {zs:List Int} (hb: ∀z∈zs,0≤z∧z≤255) (hg: ∀r∈runesOf zs,0≤r):(∀r∈runesOf zs,RuneOk r)∧(runesOf zs).flatMap encL=zs:=by
 have key: ∀n i,zs.length-i≤n→(∀r∈rfrom zs i,0≤r)→(∀r∈rfrom zs i,RuneOk r)∧(rfrom zs i).flatMap encL=zs.drop i:=by
  intro n
  induction n with
  |zero=>intro i hi _;rw[rfrom_out (by omega),List.drop_eq_nil_of_le (by omega)];exact⟨fun r hr=>(by cases hr),rfl⟩
  |succ n ih=>
   intro i hi hr
   by_cases h:i<zs.length
   ·rw[rfrom_in h]at hr ⊢
    have hp:=widA_pos zs i
    obtain⟨e1,e2⟩:=enc_back h hb (hr _ Jz)
    obtain⟨i1,i2⟩:=ih (i+widA zs i) (by omega) (fun r hm=>hr r (Jy _ hm))
    refine⟨fun r hm=>?_,?_⟩
    ·rcases List.mem_cons.mp hm with rfl|hm
     ·exact e1
     ·exact i1 r hm
    ·rw[List.flatMap_cons,i2,e2,←List.drop_drop]
     exact List.take_append_drop _ _
   ·rw[rfrom_out h,List.drop_eq_nil_of_le (by omega)];exact⟨fun r hr=>(by cases hr),rfl⟩
 exact key zs.length 0 (by omega) hg
theorem good_mem {l:List Int} (h:GoodL l): ∀r∈l,0≤r:=fun r hr=>by
 obtain⟨i,hi,rfl⟩:=List.getElem_of_mem hr
 have:=h i hi
 rw[Mk,Kh hi]at this
 exact this
def quoteU (r:Int):List Int:=
 if r=34 then [92,34]else if r=92 then [92,92]else if r=10 then [92,110]else if r=9 then [92,116]else if r<32∨r=127 then [92,117,123]++hexL r.toNat++ [125]else [r]
theorem runes_ascii (a:List Int) (h: ∀z∈a,0≤z∧z<128) (ys:List Int):runesOf (a++ys)=a++runesOf ys:=by
 induction a with
 |nil=>rfl
 |cons z a ih=>
  have:=h z Jz
  rw[List.cons_append,runes_low this.1 this.2,ih (fun x hx=>h x (Jy _ hx))];rfl
theorem hexD_bd {n:Nat} (h:n<16):48≤hexD n∧hexD n≤102:=by unfold hexD;split<;>omega
theorem hexL_bd (n:Nat): ∀z∈hexL n,48≤z∧z≤102:=by
 induction n using Nat.strongRecOn with
 |_ n ih=>
  intro z hz
  by_cases h:n<16
  ·rw[hexL_small h]at hz
   have:z=hexD n:=by simpa using hz
   subst this
   exact hexD_bd h
  ·rw[hexL_big h]at hz
   rcases List.mem_append.mp hz with hz|hz
   ·exact ih (n/16) (by omega) z hz
   ·have:z=hexD (n%16):=by simpa using hz
    subst this
    exact hexD_bd (by omega)
theorem runes_quoteR {r:Int} (h:RuneOk r) (ys:List Int):runesOf (quoteR r++ys)=quoteU r++runesOf ys:=by
 unfold quoteR quoteU
 split
 ·exact runes_ascii _ (by decide) ys
 split
 ·exact runes_ascii _ (by decide) ys
 split
 ·exact runes_ascii _ (by decide) ys
 split
 ·exact runes_ascii _ (by decide) ys
 split
 ·refine runes_ascii _ (fun z hz=>?_) ys
  simp only[List.mem_append,List.mem_cons,List.not_mem_nil,or_false]at hz
  rcases hz with(hz|hz)|hz
  ·omega
  ·have:=hexL_bd _ z hz;omega
  ·omega
 ·exact runes_enc h ys
theorem runes_quoteL {l:List Int} (h: ∀r∈l,RuneOk r):runesOf (quoteL l)= [34]++l.flatMap quoteU++ [34]:=by
 have key: ∀l:List Int,(∀r∈l,RuneOk r)→runesOf (quoteB l++ [34])=l.flatMap quoteU++ [34]:=by
  intro l
  induction l with
  |nil=>
   intro _
   have:=runes_low (r:=34) (by decide) (by decide) []
   rw[runes_nil]at this
   exact this
  |cons r l ih=>
   intro h
   have hq:quoteB (r::l)=quoteR r++quoteB l:=by simp[quoteB]
   rw[hq,List.append_assoc,runes_quoteR (h r Jz),ih (fun x hx=>h x (Jy _ hx)),List.flatMap_cons,List.append_assoc]
 unfold quoteL
 rw[List.append_assoc]
 show runesOf (34::(quoteB l++ [34]))=_
 rw[runes_low (by decide) (by decide),key l h]
 simp
end
end Go.Proofs.YtiapmjkaappcfaaGreatDoor
