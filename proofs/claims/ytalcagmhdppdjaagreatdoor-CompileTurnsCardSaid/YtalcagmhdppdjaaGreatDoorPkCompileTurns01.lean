/-
  As MixJ, but that the relation J also sees the values that have come up (u): so new variables that are stored to while other operations still come can be told by their pointers. No program in sight.
-/
import Derived.Test.YtalcagmhdppdjaaGreatDoorPkCompileTurns00
import Derived.WalkKit
import Derived.Test.YtalcagmhdppdjaaGreatDoorProg
import Derived.WalkSmall
import Derived.Lib.Hide
import Derived.Laws.AppendOwn
import Derived.Laws.OwnMore
import Derived.WalkSpells
import Derived.Lib.AppendZeros
import Derived.Laws.Append
import Derived.Maps.AppendAt
import Derived.Shelf.Strings.Builder1
import Derived.Shelf.Small.Utf8
import Derived.Shelf.Small.Wraps
import Derived.Shelf.Strings.BuilderF
import Derived.Shelf.Strings.BuilderK
import Derived.Shelf.Strings.BuilderRune
import Derived.Shelf.Utf8.AppendRune
import Derived.Shelf.Utf8.RuneCount
import Derived.Shelf.Strings.Search1
import Derived.Shelf.Strings.Search2
import Derived.Shelf.Strings.Search3
import Derived.Shelf.Strings.Cut
import Derived.Shelf.LaysM
import Derived.Shelf.Strings.Shaped
import Derived.Shelf.Strings.Prefix
import Derived.Shelf.Bits.Mul64
import Derived.Shelf.Unicode.DecodeSlow
import Derived.Shelf.Unicode.DecodeAny
import Derived.Shelf.Unicode.ValidAny
import Derived.Lib.LaidU8T
import Derived.StillTail
namespace Go.Proofs.YtalcagmhdppdjaaGreatDoor
open Nat renaming zero_add→Ly,le_refl→Mz,lt_of_lt_of_le→Kx
open List renaming getD_eq_getElem?_getD→Mk,getElem?_eq_getElem→Kh,mem_cons_self→Jz
section
theorem split_at {zs:List Int} {i:Nat} (hi:i<zs.length):zs=zs.take i++(zs.getD i 0::zs.drop (i+1)):=by
 rw[Mk,Kh hi];simp
theorem Tells.last {zs:List Int} {N l:Nat} (hne:zs≠ []) (h:runs St0 zs=some ⟨N,l,none⟩):l=unitOf (zs.getD (zs.length-1) 0)∧l≠0∧l<1000000:=by
 have hl:zs.length-1<zs.length:=by cases zs with|nil=>exact(hne rfl).elim|cons a r=>simp
 have e:=split_at hl
 rw[show zs.length-1+1=zs.length by omega,List.drop_length]at e
 rw[e,runs_snoc]at h
 cases hp:runs St0 (zs.take (zs.length-1))with
 |none=>rw[hp]at h;cases h
 |some t=>
  rw[hp]at h
  simp only[Option.bind_some]at h
  obtain⟨a,m,k⟩:=t
  by_cases hz:48≤zs.getD (zs.length-1) 0∧zs.getD (zs.length-1) 0≤57
  ·rw[stp_digit hz]at h;simp at h
  ·cases k with
   |none=>rw[stp_bare hz]at h;cases h
   |some k=>
    by_cases hu:unitOf (zs.getD (zs.length-1) 0)=0∨m≤unitOf (zs.getD (zs.length-1) 0)
    ·rw[stp_none hz hu]at h;cases h
    ·rw[stp_unit (by omega) (by omega)]at h
     simp only[Option.some.injEq,St.mk.injEq]at h
     have:=unitOf_le (zs.getD (zs.length-1) 0)
     omega
end
section
open Go.RowKit
theorem below_step {w a b:World} (h:Below w.heap.size w a) (g:Below a.heap.size a b):Below w.heap.size w b:=h.trans (g.mono h.size)
theorem below_more {w a:World} (h:Below w.heap.size w a) (o:Obj):Below w.heap.size w (a.alloc o):=h.alloc h.size o
def Box (W:World) (p:Nat) (h l:Int):Prop:=W.cell? ⟨p,0,none⟩=some (.int .u64 h)∧W.cell? ⟨p,1,none⟩=some (.int .u64 l)∧p<W.heap.size
theorem Box.after {W W1:World} {p:Nat} {h l:Int} (k:Box W p h l) (hb:Below W.heap.size W W1):Box W1 p h l:=by
 obtain⟨c0,c1,s⟩:=k
 exact⟨(hb.cell (p:=⟨p,0,none⟩) s).trans c0,(hb.cell (p:=⟨p,1,none⟩) s).trans c1,Kx s hb.size⟩
theorem Box.fresh (W:World) (h l:Int) (p:Nat) (hp:p=W.heap.size):Box (W.alloc (.cells #[.int .u64 h, .int .u64 l] 194)) p h l:=by
 subst hp;exact⟨by simp,by simp,by simp⟩
end
section
open Go.RowKit
def Ints (k:IntKind) (w:World) (v:Value) (l:List Int):Prop:=
 ∃b off cap,v= .slice (some ⟨b,off,none⟩) l.length cap∧l.length≤cap∧b<w.heap.size∧∀i,i<l.length→w.cell? ⟨b,off+i,none⟩=some (.int k (l.getD i 0))
def OwnInts (t:TypeId) (k:IntKind) (w:World) (base:Nat) (v:Value) (l:List Int):Prop:=
 w.ownsRow base t 1 v l.length (l.map (Value.int k))∧v≠ .slice none 0 0
end
section
open Go.RowKit
theorem below_frozen {w w':World} {n p i:Nat} (h:Below n w w') (hp:p<n):w'.frozen? ⟨p,i,none⟩=w.frozen? ⟨p,i,none⟩:=h.frozen hp
structure Var2 (W:World) (p:Nat) (x y:Value):Prop where
 c0:W.cell? ⟨p,0,none⟩=some x
 c1:W.cell? ⟨p,1,none⟩=some y
 q0:W.frozen? ⟨p,0,none⟩=false
 q1:W.frozen? ⟨p,1,none⟩=false
 s:p<W.heap.size
theorem Var2.after {W W1:World} {p:Nat} {x y:Value} (k:Var2 W p x y) (hb:Below W.heap.size W W1):Var2 W1 p x y:=
 ⟨(hb.cell (p:=⟨p,0,none⟩) k.s).trans k.c0,(hb.cell (p:=⟨p,1,none⟩) k.s).trans k.c1,(below_frozen hb k.s).trans k.q0,(below_frozen hb k.s).trans k.q1,Kx k.s hb.size⟩
theorem Var2.fresh (W:World) (x y:Value) (t:TypeId) (p:Nat) (hp:p=W.heap.size):Var2 (W.alloc (.cells #[x,y] t)) p x y:=by
 subst hp;exact⟨by simp,by simp,by simp[go_sem],by simp[go_sem],by simp⟩
theorem Var2.alloc {W:World} {p:Nat} {x y:Value} (k:Var2 W p x y) (o:Obj):Var2 (W.alloc o) p x y:=k.after ((Below.refl _ _).alloc (Mz _) o)
structure Var3 (W:World) (p:Nat) (x y z:Value):Prop where
 c0:W.cell? ⟨p,0,none⟩=some x
 c1:W.cell? ⟨p,1,none⟩=some y
 c2:W.cell? ⟨p,2,none⟩=some z
 q0:W.frozen? ⟨p,0,none⟩=false
 q1:W.frozen? ⟨p,1,none⟩=false
 q2:W.frozen? ⟨p,2,none⟩=false
 s:p<W.heap.size
theorem Var3.after {W W1:World} {p:Nat} {x y z:Value} (k:Var3 W p x y z) (hb:Below W.heap.size W W1):Var3 W1 p x y z:=
 ⟨(hb.cell (p:=⟨p,0,none⟩) k.s).trans k.c0,(hb.cell (p:=⟨p,1,none⟩) k.s).trans k.c1,(hb.cell (p:=⟨p,2,none⟩) k.s).trans k.c2,(below_frozen hb k.s).trans k.q0,(below_frozen hb k.s).trans k.q1,(below_frozen hb k.s).trans k.q2,Kx k.s hb.size⟩
theorem Var3.fresh (W:World) (x y z:Value) (t:TypeId) (p:Nat) (hp:p=W.heap.size):Var3 (W.alloc (.cells #[x,y,z] t)) p x y z:=by
 subst hp;exact⟨by simp,by simp,by simp,by simp[go_sem],by simp[go_sem],by simp[go_sem],by simp⟩
theorem Var3.alloc {W:World} {p:Nat} {x y z:Value} (k:Var3 W p x y z) (o:Obj):Var3 (W.alloc o) p x y z:=k.after ((Below.refl _ _).alloc (Mz _) o)
end
section
open Go.RowKit
abbrev Foot:=Nat→Prop
structure OnlyO (base:Nat) (O:Foot) (w w':World):Prop where
 bel:Below base w w'
 keep: ∀i,i<w.heap.size→¬O i→w'.heap[i]?=w.heap[i]?
theorem OnlyO.size {base:Nat} {O:Foot} {w w':World} (h:OnlyO base O w w'):w.heap.size≤w'.heap.size:=h.bel.size
theorem OnlyO.of {base:Nat} {O:Foot} {w w':World} (h:Below w.heap.size w w') (hb:base≤w.heap.size):OnlyO base O w w':=⟨h.mono hb,fun i hi _=>h.block i hi⟩
def Grown (O O':Foot) (n:Nat):Prop:= ∀i,O' i→O i∨n≤i
theorem Grown.refl (O:Foot) (n:Nat):Grown O O n:=fun _ h=>Or.inl h
theorem OnlyO.trans {base:Nat} {O O':Foot} {a b c:World} (h:OnlyO base O a b) (g:OnlyO base O' b c) (hg:Grown O O' a.heap.size):OnlyO base O a c:=
 ⟨h.bel.trans g.bel,fun i hi hne=>(g.keep i (Kx hi h.size) (fun ho=>by rcases hg i ho with ho|ho;exact hne ho;omega)).trans (h.keep i hi hne)⟩
theorem OnlyO.cell {base:Nat} {O:Foot} {w w':World} (h:OnlyO base O w w') {b o:Nat} (hb:b<w.heap.size) (hne: ¬O b):w'.cell? ⟨b,o,none⟩=w.cell? ⟨b,o,none⟩:=World.cell?_of_block (h.keep b hb hne)
theorem OnlyO.set {base:Nat} {O:Foot} {a b:World} (h:OnlyO base O a b) {r:Nat} (hr:O r) (hb:base≤r) (i:Nat) (v:Value):OnlyO base O a (b.setCell ⟨r,i,none⟩ v):=
 ⟨h.bel.setCell hb v,fun j hj hne=>(Below.heap_setCell b ⟨r,i,none⟩ v j (fun e=>by cases e;exact hne hr)).trans (h.keep j hj hne)⟩
end
section
open Go.RowKit
structure OwnRow (t:TypeId) (w:World) (base:Nat) (v:Value) (vs:List Value):Prop where
 own:w.ownsRow base t 1 v vs.length vs
 non:v≠ .slice none 0 0
 one: ∀u∈vs,u.oneCell'=true
end
section
open Go.RowKit
theorem addr_add (g k:Nat):(⟨g,0,none⟩:Addr).add k=⟨g,k,none⟩:=by rcases k with _|k<;>simp[Addr.add]
structure RowK (t:TypeId) (sz:Nat) (w:World) (base:Nat) (v:Value) (vs:List (List Value)):Prop where
 own:w.ownsRow base t sz v vs.length vs.flatten
 wid: ∀u∈vs,u.length=sz
 one: ∀u∈vs,∀y∈u,y.oneCell'=true
theorem RowK.nil (t:TypeId) (sz:Nat) (w:World) (base:Nat):RowK t sz w base (.slice none 0 0) []:=⟨World.ownsRow_nil w base _ _,fun u hu=>(by cases hu),fun u hu=>(by cases hu)⟩
theorem RowK.fresh (t:TypeId) (sz:Nat) (w:World) (base g:Nat) (hg:g=w.heap.size) (h:base≤g):RowK t sz (w.alloc (.cells #[] t)) base (.slice (some ⟨g,0,none⟩) 0 0) []:=by
 subst hg
 exact⟨World.ownsRow_made w #[] 0 h (Nat.zero_le _) (by simp),fun u hu=>(by cases hu),fun u hu=>(by cases hu)⟩
theorem RowK.size {t:TypeId} {sz:Nat} {w:World} {base:Nat} {v:Value} {vs:List (List Value)} (h:RowK t sz w base v vs): ∃a cap,v= .slice a vs.length cap:=by
 rcases h.own.2 with⟨e,h0⟩|⟨g,cap,_,e,_⟩
 ·exact⟨none,0,by rw[e,h0]⟩
 ·exact⟨_,cap,e⟩
theorem RowK.form {t:TypeId} {sz:Nat} {w:World} {base:Nat} {v:Value} {vs:List (List Value)} (h:RowK t sz w base v vs) (hne:0<vs.length): ∃g cap,v= .slice (some ⟨g,0,none⟩) vs.length cap∧base≤g∧g<w.heap.size∧vs.length≤cap:=by
 have hlt:=h.own.lt
 rcases h.own.2 with⟨_,h0⟩|⟨g,cap,_,e,hb,_,hc,_⟩
 ·omega
 ·exact⟨g,cap,e,hb,(hlt g (by rw[e];rfl)).2,hc⟩
theorem RowK.lt {t:TypeId} {sz:Nat} {w:World} {base:Nat} {v:Value} {vs:List (List Value)} (h:RowK t sz w base v vs) {b:Nat} (hb:v.ownBlock=some b):base≤b∧b<w.heap.size:=h.own.lt b hb
theorem RowK.kept {t:TypeId} {sz:Nat} {w w':World} {base:Nat} {v:Value} {vs:List (List Value)} (h:RowK t sz w base v vs) (hk: ∀b,v.ownBlock=some b→w'.heap[b]?=w.heap[b]?):RowK t sz w' base v vs:=by
 obtain⟨⟨h1,h2⟩,hn,ho⟩:=h
 refine⟨⟨h1,?_⟩,hn,ho⟩
 rcases h2 with hx|⟨g,cap,cur,rfl,hbg,hg,rest⟩
 ·exact Or.inl hx
 ·exact Or.inr ⟨g,cap,cur,rfl,hbg,(hk g rfl).trans hg,rest⟩
theorem RowK.below {t:TypeId} {sz:Nat} {w w':World} {base:Nat} {v:Value} {vs:List (List Value)} (h:RowK t sz w base v vs) (hb:Below w.heap.size w w'):RowK t sz w' base v vs:=
 h.kept fun b e=>hb.block b (h.lt e).2
theorem RowK.weaken {t:TypeId} {sz:Nat} {w:World} {base base':Nat} {v:Value} {vs:List (List Value)} (h:RowK t sz w base v vs) (hb:base'≤base):RowK t sz w base' v vs:=by
 obtain⟨⟨h1,h2⟩,hn,ho⟩:=h
 refine⟨⟨h1,?_⟩,hn,ho⟩
 rcases h2 with hx|⟨g,cap,cur,rfl,hbg,rest⟩
 ·exact Or.inl hx
 ·exact Or.inr ⟨g,cap,cur,rfl,Nat.le_trans hb hbg,rest⟩
theorem getD_flatten {sz:Nat} : ∀(vs:List (List Value)) (i j:Nat),(∀u∈vs,u.length=sz)→i<vs.length→j<sz→vs.flatten[i*sz+j]?=some ((vs.getD i []).getD j undef)
 | [],i,j,_,h,_=>by cases h
 |u::vs,0,j,hl,_,hj=>by
  have h1:=hl u (Jz ..)
  rw[List.flatten_cons,Nat.zero_mul,Ly,List.getElem?_append_left (by omega),Kh (by omega)]
  simp[Mk,Kh (show j<u.length by omega)]
 |u::vs,i+1,j,hl,h,hj=>by
  have h1:=hl u (Jz ..)
  have ih:=getD_flatten vs i j (fun x hx=>hl x (List.mem_cons_of_mem _ hx)) (by simpa using h) hj
  have e:(i+1)*sz+j=u.length+(i*sz+j):=by rw[Nat.add_mul,h1];omega
  rw[List.flatten_cons,e,List.getElem?_append_right (by omega),show u.length+(i*sz+j)-u.length=i*sz+j by omega,ih]
  rfl
theorem RowK.at {t:TypeId} {sz:Nat} {w:World} {base g n cap:Nat} {vs:List (List Value)} (h:RowK t sz w base (.slice (some ⟨g,0,none⟩) n cap) vs) (i j:Nat) (hi:i<vs.length) (hj:j<sz):w.cell? ⟨g,i*sz+j,none⟩=some ((vs.getD i []).getD j undef):=by
 have hcs:= @World.ownsRow.cells _ _ _ _ _ _ _ h.own
 have:=hcs (g:=g) rfl (i*sz+j) _ (getD_flatten vs i j h.wid hi hj)
 rw[addr_add]at this
 exact this
theorem run_rowK {w:World} {T t:TypeId} {z:Value} {sz bts:Nat} (hT:Tryz.prog.underlying T=some (.slice t)) (hinf:(Tryz.prog.info? t).map (fun i=>(i.zero,i.size,i.bytes))=some (some z,sz,bts)) (hzs:z.cells.size=sz) (hsz:0<sz) (hbt:bts≤128)
  (base:Nat) (v:Value) (vs:List (List Value)) (hown:RowK t sz w base v vs) (g:Nat) (y:List Value) (hyl:y.length=sz) (hcell: ∀j,j<sz→w.cell? ⟨g,j,none⟩=some (y.getD j undef)) (hy: ∀u∈y,u.oneCell'=true) (hlen:vs.length≤1000000) (hbase:base≤w.heap.size) (ty:TypeId):
  ∃v' w',(Builtin.append_ #[T,T] ty #[v, .slice (some ⟨g,0,none⟩) 1 1]).run Tryz.prog w= .ok v' w'∧RowK t sz w' base v' (vs++ [y])∧OnlyO base (fun i=>some i=v.ownBlock) w w'∧(v'.ownBlock=v.ownBlock∨v'.ownBlock=some w.heap.size):=by
 obtain⟨i0,hi,hz0,hz1,hz2⟩:=info_parts hinf
 have hnews: ∀j u,y[j]?=some u→w.cell? ((⟨g,0,none⟩:Addr).add j)=some u:=by
  intro j u hj
  have hj2:j<y.length:=(List.getElem?_eq_some_iff.1 hj).1
  have:=hcell j (by omega)
  rw[Mk,hj]at this
  rw[addr_add]
  exact this
 have hby:(vs.length+1)*bts≤1000001*128:=Nat.mul_le_mul (by omega) hbt
 obtain⟨v',w',hr,h2,h3,h4,h5⟩:=run_append_own_at (P:=Tryz.prog) w base T ty t i0 z sz bts hT hi hz0 hz1 hz2 hzs hsz v vs.length vs.flatten hown.own ⟨g,0,none⟩ 1 1 y (by omega) hnews hy (by unfold maxLen;omega) (by omega) hbase
 refine⟨v',w',hr,⟨?_,fun u hm=>?_,fun u hm=>?_⟩,⟨(Below.refl base w).grown h3 hbase (fun b hk=>(hown.lt hk).1),fun i hi hne=>h3.block i hi hne⟩,h5⟩
 ·rw[List.length_append,List.flatten_append]
  simpa using h2
 ·rcases List.mem_append.mp hm with hm|hm
  ·exact hown.wid u hm
  ·rw[List.mem_singleton.mp hm];exact hyl
 ·rcases List.mem_append.mp hm with hm|hm
  ·exact hown.one u hm
  ·rw[List.mem_singleton.mp hm];exact hy
theorem wp_rowK {w:World} {ops:Array Oper} {rest:List Oper} {o:Oper} {a:Act} {Q:Exit→Act→World→Prop} {T t:TypeId} {z:Value} {sz bts:Nat} (hgd:o.guard=none) (s x:Operand)
  (ho:o.op= .call { callee:= .builtin .append,args:= #[s,x],argTypes:= #[T,T] }) (hT:Tryz.prog.underlying T=some (.slice t)) (hinf:(Tryz.prog.info? t).map (fun i=>(i.zero,i.size,i.bytes))=some (some z,sz,bts)) (hzs:z.cells.size=sz) (hsz:0<sz) (hbt:bts≤128)
  (base:Nat) (v:Value) (vs:List (List Value)) (hs:a.eval s=v) (hown:RowK t sz w base v vs) (g:Nat) (y:List Value) (hx:a.eval x= .slice (some ⟨g,0,none⟩) 1 1) (hyl:y.length=sz) (hcell: ∀j,j<sz→w.cell? ⟨g,j,none⟩=some (y.getD j undef)) (hy: ∀u∈y,u.oneCell'=true)
  (hlen:vs.length≤1000000) (hbase:base≤w.heap.size)
  (h: ∀v' w',RowK t sz w' base v' (vs++ [y])→OnlyO base (fun i=>some i=v.ownBlock) w w'→(v'.ownBlock=v.ownBlock∨v'.ownBlock=some w.heap.size)→wpList Tryz.prog ops Q rest (a.put o.dst v') w'):wpList Tryz.prog ops Q (o::rest) a w:=by
 obtain⟨v',w',hr,h1,h2,h3⟩:=run_rowK hT hinf hzs hsz hbt base v vs hown g y hyl hcell hy hlen hbase o.type
 exact Lib.wpList_append_run w hgd s x _ _ ho v _ hs hx _ w' hr (h v' w' h1 h2 h3)
end
section
open Go.RowKit
def put3 (W:World) (p:Nat) (x y z:Value):World:=((W.setCell ⟨p,0,none⟩ x).setCell ⟨p,1,none⟩ y).setCell ⟨p,2,none⟩ z
def put2 (W:World) (p:Nat) (x y:Value):World:=(W.setCell ⟨p,0,none⟩ x).setCell ⟨p,1,none⟩ y
theorem Var3.put {W:World} {p:Nat} {x y z:Value} (k:Var3 W p x y z) (x' y' z':Value):Var3 (put3 W p x' y' z') p x' y' z':=by
 obtain⟨c0,c1,c2,q0,q1,q2,s⟩:=k
 unfold put3
 refine⟨?_,?_,?_,?_,?_,?_,?_⟩<;>simp[go_sem, *]
theorem Var2.put {W:World} {p:Nat} {x y:Value} (k:Var2 W p x y) (x' y':Value):Var2 (put2 W p x' y') p x' y':=by
 obtain⟨c0,c1,q0,q1,s⟩:=k
 unfold put2
 refine⟨?_,?_,?_,?_,?_⟩<;>simp[go_sem, *]
theorem below_put3 {B:Nat} {w W:World} (h:Below B w W) {p:Nat} (hp:B≤p) (x y z:Value):Below B w (put3 W p x y z):=((h.setCell hp _).setCell hp _).setCell hp _
theorem below_put2 {B:Nat} {w W:World} (h:Below B w W) {p:Nat} (hp:B≤p) (x y:Value):Below B w (put2 W p x y):=(h.setCell hp _).setCell hp _
end
end Go.Proofs.YtalcagmhdppdjaaGreatDoor
section
namespace Go.Proofs
open Go.Shelf
def Tryz.lays169_ren:Go.Shelf.Ren:=⟨fun|169=>127|n=>n,fun|70=>185|9=>9|0=>0|72=>188|37=>186|127=>200|3=>3|5=>5|n=>n,fun|n=>n⟩
def Tryz.lays119_ren:Go.Shelf.Ren:=⟨fun|119=>166|n=>n,fun|21=>21|4=>4|n=>n,fun|n=>n⟩
theorem Tryz.lays119:Go.Proofs.Lays.n119 Tryz.prog Tryz.lays119_ren:= {
 mixed:=by kernel_rfl
 f119:=Tryz.func166.trans (congrArg some (by kernel_rfl))
 t4:=Tryz.underlying4
 a4:=Tryz.isAgg4
 z4:=Tryz.sizeOf4
 v4:=Tryz.zeroValue4
 t21:=Tryz.underlying21
 a21:=Tryz.isAgg21
 z21:=Tryz.sizeOf21
 v21:=Tryz.zeroValue21 }
theorem Tryz.utf8_ValidRune (r:Int) (w:World):
  Calls Tryz.prog 166 #[.int .i32 r] w fun e w'=>e= .returned (.bool (Lib.validRune r))∧w'=w:=Any.utf8_ValidRune Tryz.lays119 r w
def Tryz.lays211_ren:Go.Shelf.Ren:=⟨fun|211=>170|207=>143|n=>n,fun|9=>9|4=>4|3=>3|n=>n,fun|n=>n⟩
def Tryz.lays104_ren:Go.Shelf.Ren:=⟨fun|104=>148|211=>170|207=>143|n=>n,fun|9=>9|4=>4|24=>204|3=>3|n=>n,fun|n=>n⟩
theorem Tryz.lays104:Go.Proofs.Lays.n104 Tryz.prog Tryz.lays104_ren:= {
 mixed:=by kernel_rfl
 f104:=Tryz.func148.trans (congrArg some (by kernel_rfl))
 f207:=Tryz.func143.trans (congrArg some (by kernel_rfl))
 f211:=Tryz.func170.trans (congrArg some (by kernel_rfl))
 t3:=Tryz.underlying3
 a3:=Tryz.isAgg3
 z3:=Tryz.sizeOf3
 v3:=Tryz.zeroValue3
 t4:=Tryz.underlying4
 a4:=Tryz.isAgg4
 z4:=Tryz.sizeOf4
 v4:=Tryz.zeroValue4
 t9:=Tryz.underlying9
 a9:=Tryz.isAgg9
 z9:=Tryz.sizeOf9
 v9:=Tryz.zeroValue9
 t24:=Tryz.underlying204
 a24:=Tryz.isAgg204
 z24:=Tryz.sizeOf204
 v24:=Tryz.zeroValue204 }
open Go.RowKit in
theorem Tryz.strings_CutSuffix (s p:ByteArray) (w:World) (hs:s.size≤9223372036854775807):
  Calls Tryz.prog 148 #[.string s, .string p] w fun e w'=>e= .returned (.tuple #[.string ⟨(Lib.trimSuffix s.data.toList p.data.toList).toArray⟩, .bool (Lib.hasSuffix s.data.toList p.data.toList)])∧w'=w:=Any.strings_CutSuffix Tryz.lays104 s p w hs
def Tryz.lays278_ren:Go.Shelf.Ren:=⟨fun|278=>182|n=>n,fun|37=>186|21=>21|51=>50|4=>4|46=>180|5=>5|n=>n,fun|n=>n⟩
def Tryz.lays242_ren:Go.Shelf.Ren:=⟨fun|242=>176|278=>182|n=>n,fun|37=>186|21=>21|51=>50|4=>4|5=>5|46=>180|n=>n,fun|n=>n⟩
theorem Tryz.lays242:Go.Proofs.Lays.n242 Tryz.prog Tryz.lays242_ren:= {
 mixed:=by kernel_rfl
 f242:=Tryz.func176.trans (congrArg some (by kernel_rfl))
 f278:=Tryz.func182.trans (congrArg some (by kernel_rfl))
 t4:=Tryz.underlying4
 a4:=Tryz.isAgg4
 z4:=Tryz.sizeOf4
 v4:=Tryz.zeroValue4
 t5:=Tryz.underlying5
 a5:=Tryz.isAgg5
 z5:=Tryz.sizeOf5
 v5:=Tryz.zeroValue5
 t21:=Tryz.underlying21
 a21:=Tryz.isAgg21
 z21:=Tryz.sizeOf21
 v21:=Tryz.zeroValue21
 t37:=Tryz.underlying186
 a37:=Tryz.isAgg186
 z37:=Tryz.sizeOf186
 v37:=Tryz.zeroValue186
 t46:=Tryz.underlying180
 a46:=Tryz.isAgg180
 z46:=Tryz.sizeOf180
 v46:=Tryz.zeroValue180
 t51:=Tryz.underlying50
 a51:=Tryz.isAgg50
 z51:=Tryz.sizeOf50
 v51:=Tryz.zeroValue50 }
open Go.RowKit in
theorem Tryz.utf8_AppendRune_row (B:Nat) (v:Value) (n:Nat) (xs:List Value) (r:Int) (hr0: -2147483648≤r) (hr1:r≤2147483647) (w:World) (hown:w.ownsRowF B 5 1 v n xs) (hlen:n+4≤140737488355328) (hBw:B≤w.heap.size):
  Calls Tryz.prog 176 #[v, .int .i32 r] w fun e w'=> ∃v',e= .returned v'∧w'.ownsRowF B 5 1 v' (n+(Lib.runeCells r).length) (xs++Lib.runeCells r)∧∃o,(w.alloc o).grownBy w' v.ownBlock:=Any.utf8_AppendRune_row Tryz.lays242 (by kernel_rfl) B v n xs r hr0 hr1 w hown hlen hBw
def Tryz.lays195_ren:Go.Shelf.Ren:=⟨fun|195=>139|n=>n,fun|9=>9|3=>3|0=>0|4=>4|n=>n,fun|n=>n⟩
theorem Tryz.lays195:Go.Proofs.Lays.n195 Tryz.prog Tryz.lays195_ren:= {
 mixed:=by kernel_rfl
 f195:=Tryz.func139.trans (congrArg some (by kernel_rfl))
 t0:=Tryz.underlying0
 a0:=Tryz.isAgg0
 z0:=Tryz.sizeOf0
 v0:=Tryz.zeroValue0
 t3:=Tryz.underlying3
 a3:=Tryz.isAgg3
 z3:=Tryz.sizeOf3
 v3:=Tryz.zeroValue3
 t4:=Tryz.underlying4
 a4:=Tryz.isAgg4
 z4:=Tryz.sizeOf4
 v4:=Tryz.zeroValue4
 t9:=Tryz.underlying9
 a9:=Tryz.isAgg9
 z9:=Tryz.sizeOf9
 v9:=Tryz.zeroValue9 }
open Go.RowKit in
theorem Tryz.utf8_RuneCountInString (s:ByteArray) (w:World) (hs:s.size<9223372036854775807):
  Calls Tryz.prog 139 #[.string s] w fun e w'=>e= .returned (.int .i64 (Lib.runeCount s))∧∃pos,w'=w.iter s pos:=Any.utf8_RuneCountInString Tryz.lays195 s w hs
def Tryz.lays217_ren:Go.Shelf.Ren:=⟨fun|217=>177|266=>183|n=>n,fun|9=>9|5=>5|3=>3|n=>n,fun|n=>n⟩
def Tryz.lays224_ren:Go.Shelf.Ren:=⟨fun|224=>179|n=>n,fun|3=>3|n=>n,fun|n=>n⟩
def Tryz.lays314_ren:Go.Shelf.Ren:=⟨fun|314=>184|n=>n,fun|9=>9|51=>50|3=>3|4=>4|5=>5|46=>180|n=>n,fun|n=>n⟩
def Tryz.lays267_ren:Go.Shelf.Ren:=⟨fun|267=>180|314=>184|n=>n,fun|9=>9|3=>3|146=>238|51=>50|4=>4|5=>5|46=>180|n=>n,fun|n=>n⟩
def Tryz.lays219_ren:Go.Shelf.Ren:=⟨fun|219=>168|217=>177|225=>178|224=>179|267=>180|266=>183|314=>184|n=>n,fun|9=>9|3=>3|4=>4|5=>5|46=>180|146=>238|51=>50|n=>n,fun|1=>2|n=>n⟩
theorem Tryz.lays219:Go.Proofs.Lays.n219 Tryz.prog Tryz.lays219_ren:= {
 mixed:=by kernel_rfl
 f217:=Tryz.func177.trans (congrArg some (by kernel_rfl))
 f219:=Tryz.func168.trans (congrArg some (by kernel_rfl))
 f224:=Tryz.func179.trans (congrArg some (by kernel_rfl))
 f225:=Tryz.func178.trans (congrArg some (by kernel_rfl))
 f266:=Tryz.func183.trans (congrArg some (by kernel_rfl))
 f267:=Tryz.func180.trans (congrArg some (by kernel_rfl))
 f314:=Tryz.func184.trans (congrArg some (by kernel_rfl))
 t3:=Tryz.underlying3
 a3:=Tryz.isAgg3
 z3:=Tryz.sizeOf3
 v3:=Tryz.zeroValue3
 t4:=Tryz.underlying4
 a4:=Tryz.isAgg4
 z4:=Tryz.sizeOf4
 v4:=Tryz.zeroValue4
 t5:=Tryz.underlying5
 a5:=Tryz.isAgg5
 z5:=Tryz.sizeOf5
 v5:=Tryz.zeroValue5
 t9:=Tryz.underlying9
 a9:=Tryz.isAgg9
 z9:=Tryz.sizeOf9
 v9:=Tryz.zeroValue9
 t46:=Tryz.underlying180
 a46:=Tryz.isAgg180
 z46:=Tryz.sizeOf180
 v46:=Tryz.zeroValue180
 t51:=Tryz.underlying50
 a51:=Tryz.isAgg50
 z51:=Tryz.sizeOf50
 v51:=Tryz.zeroValue50
 t146:=Tryz.underlying238
 a146:=Tryz.isAgg238
 z146:=Tryz.sizeOf238
 v146:=Tryz.zeroValue238
 g1:=by kernel_rfl }
open Go.RowKit Go.Lib in
theorem Tryz.stringslite_Index_one (s:ByteArray) (c:UInt8) (w:World):
  Calls Tryz.prog 168 #[.string s, .string ⟨#[c]⟩] w fun e w'=>e= .returned (.int .i64 (Lib.indexByte s.data.toList c))∧w'=w:=Any.stringslite_Index_one Tryz.lays219 s c w
def Tryz.lays143_ren:Go.Shelf.Ren:=⟨fun|143=>144|219=>168|217=>177|225=>178|224=>179|267=>180|266=>183|314=>184|n=>n,fun|9=>9|3=>3|4=>4|5=>5|46=>180|146=>238|51=>50|n=>n,fun|1=>2|n=>n⟩
def Tryz.lays144_ren:Go.Shelf.Ren:=⟨fun|144=>130|143=>144|219=>168|217=>177|225=>178|224=>179|267=>180|266=>183|314=>184|n=>n,fun|9=>9|4=>4|3=>3|5=>5|46=>180|146=>238|51=>50|n=>n,fun|1=>2|n=>n⟩
theorem Tryz.lays144:Go.Proofs.Lays.n144 Tryz.prog Tryz.lays144_ren:= {
 mixed:=by kernel_rfl
 f143:=Tryz.func144.trans (congrArg some (by kernel_rfl))
 f144:=Tryz.func130.trans (congrArg some (by kernel_rfl))
 f217:=Tryz.func177.trans (congrArg some (by kernel_rfl))
 f219:=Tryz.func168.trans (congrArg some (by kernel_rfl))
 f224:=Tryz.func179.trans (congrArg some (by kernel_rfl))
 f225:=Tryz.func178.trans (congrArg some (by kernel_rfl))
 f266:=Tryz.func183.trans (congrArg some (by kernel_rfl))
 f267:=Tryz.func180.trans (congrArg some (by kernel_rfl))
 f314:=Tryz.func184.trans (congrArg some (by kernel_rfl))
 t3:=Tryz.underlying3
 a3:=Tryz.isAgg3
 z3:=Tryz.sizeOf3
 v3:=Tryz.zeroValue3
 t4:=Tryz.underlying4
 a4:=Tryz.isAgg4
 z4:=Tryz.sizeOf4
 v4:=Tryz.zeroValue4
 t5:=Tryz.underlying5
 a5:=Tryz.isAgg5
 z5:=Tryz.sizeOf5
 v5:=Tryz.zeroValue5
 t9:=Tryz.underlying9
 a9:=Tryz.isAgg9
 z9:=Tryz.sizeOf9
 v9:=Tryz.zeroValue9
 t46:=Tryz.underlying180
 a46:=Tryz.isAgg180
 z46:=Tryz.sizeOf180
 v46:=Tryz.zeroValue180
 t51:=Tryz.underlying50
 a51:=Tryz.isAgg50
 z51:=Tryz.sizeOf50
 v51:=Tryz.zeroValue50
 t146:=Tryz.underlying238
 a146:=Tryz.isAgg238
 z146:=Tryz.sizeOf238
 v146:=Tryz.zeroValue238
 g1:=by kernel_rfl }
open Go.RowKit Go.Lib in
theorem Tryz.strings_Contains_one (s:ByteArray) (c:UInt8) (w:World):
  Calls Tryz.prog 130 #[.string s, .string ⟨#[c]⟩] w fun e w'=>e= .returned (.bool (decide (0≤Lib.indexByte s.data.toList c)))∧w'=w:=Any.strings_Contains_one Tryz.lays144 s c w
def Tryz.lays220_ren:Go.Shelf.Ren:=⟨fun|220=>171|219=>168|217=>177|225=>178|224=>179|267=>180|266=>183|314=>184|n=>n,fun|9=>9|4=>4|3=>3|5=>5|46=>180|146=>238|51=>50|n=>n,fun|1=>2|n=>n⟩
def Tryz.lays145_ren:Go.Shelf.Ren:=⟨fun|145=>149|220=>171|219=>168|217=>177|225=>178|224=>179|267=>180|266=>183|314=>184|n=>n,fun|9=>9|4=>4|59=>206|3=>3|5=>5|46=>180|146=>238|51=>50|n=>n,fun|1=>2|n=>n⟩
def Tryz.laysM219_ren:Go.Shelf.Ren:=⟨fun|219=>168|217=>177|225=>178|224=>179|267=>180|266=>183|314=>184|n=>n,fun|9=>9|3=>3|4=>4|5=>5|46=>180|146=>238|51=>50|n=>n,fun|1=>2|n=>n⟩
def Tryz.laysM143_ren:Go.Shelf.Ren:=⟨fun|143=>144|219=>168|217=>177|225=>178|224=>179|267=>180|266=>183|314=>184|n=>n,fun|9=>9|3=>3|4=>4|5=>5|46=>180|146=>238|51=>50|n=>n,fun|1=>2|n=>n⟩
def Tryz.laysM144_ren:Go.Shelf.Ren:=⟨fun|144=>130|143=>144|219=>168|217=>177|225=>178|224=>179|267=>180|266=>183|314=>184|n=>n,fun|9=>9|4=>4|3=>3|5=>5|46=>180|146=>238|51=>50|n=>n,fun|1=>2|n=>n⟩
def Tryz.laysM220_ren:Go.Shelf.Ren:=⟨fun|220=>171|219=>168|217=>177|225=>178|224=>179|267=>180|266=>183|314=>184|n=>n,fun|9=>9|4=>4|3=>3|5=>5|46=>180|146=>238|51=>50|n=>n,fun|1=>2|n=>n⟩
def Tryz.laysM145_ren:Go.Shelf.Ren:=⟨fun|145=>149|220=>171|219=>168|217=>177|225=>178|224=>179|267=>180|266=>183|314=>184|n=>n,fun|9=>9|4=>4|59=>206|3=>3|5=>5|46=>180|146=>238|51=>50|n=>n,fun|1=>2|n=>n⟩
def Tryz.lays207_ren:Go.Shelf.Ren:=⟨fun|207=>143|n=>n,fun|9=>9|4=>4|3=>3|n=>n,fun|n=>n⟩
def Tryz.lays100_ren:Go.Shelf.Ren:=⟨fun|100=>129|207=>143|n=>n,fun|9=>9|4=>4|3=>3|n=>n,fun|n=>n⟩
theorem Tryz.lays100:Go.Proofs.Lays.n100 Tryz.prog Tryz.lays100_ren:= {
 mixed:=by kernel_rfl
 f100:=Tryz.func129.trans (congrArg some (by kernel_rfl))
 f207:=Tryz.func143.trans (congrArg some (by kernel_rfl))
 t3:=Tryz.underlying3
 a3:=Tryz.isAgg3
 z3:=Tryz.sizeOf3
 v3:=Tryz.zeroValue3
 t4:=Tryz.underlying4
 a4:=Tryz.isAgg4
 z4:=Tryz.sizeOf4
 v4:=Tryz.zeroValue4
 t9:=Tryz.underlying9
 a9:=Tryz.isAgg9
 z9:=Tryz.sizeOf9
 v9:=Tryz.zeroValue9 }
open Go.RowKit Go.Lib in
theorem Tryz.strings_HasSuffix (s p:ByteArray) (w:World) (hs:s.size≤9223372036854775807):
  Calls Tryz.prog 129 #[.string s, .string p] w fun e w'=>e= .returned (.bool (Lib.hasSuffix s.data.toList p.data.toList))∧w'=w:=Any.strings_HasSuffix Tryz.lays100 s p w hs
def Tryz.lays264_ren:Go.Shelf.Ren:=⟨fun|264=>173|n=>n,fun|53=>56|46=>180|n=>n,fun|n=>n⟩
theorem Tryz.lays264:Go.Proofs.Lays.n264 Tryz.prog Tryz.lays264_ren:= {
 mixed:=by kernel_rfl
 f264:=Tryz.func173.trans (congrArg some (by kernel_rfl))
 t46:=Tryz.underlying180
 a46:=Tryz.isAgg180
 z46:=Tryz.sizeOf180
 v46:=Tryz.zeroValue180
 t53:=Tryz.underlying56
 a53:=Tryz.isAgg56
 z53:=Tryz.sizeOf56
 v53:=Tryz.zeroValue56 }
open Go.RowKit Go.Lib in
theorem Tryz.bits_Mul64 (x y:Nat) (hx:x<18446744073709551616) (hy:y<18446744073709551616) (w:World):
  Calls Tryz.prog 173 #[.int .u64 x, .int .u64 y] w fun e w'=>e= .returned (.tuple #[.int .u64 ((x*y/18446744073709551616:Nat):Int), .int .u64 ((x*y%18446744073709551616:Nat):Int)])∧w'=w:=Any.bits_Mul64 Tryz.lays264 x y hx hy w
def Tryz.lays260_ren:Go.Shelf.Ren:=⟨fun|260=>106|n=>n,fun|9=>9|21=>21|3=>3|4=>4|5=>5|119=>179|0=>0|46=>180|139=>183|138=>182|n=>n,fun|3=>0|4=>1|n=>n⟩
def Tryz.lays197_ren:Go.Shelf.Ren:=⟨fun|197=>71|260=>106|n=>n,fun|9=>9|21=>21|3=>3|4=>4|5=>5|105=>135|119=>179|0=>0|46=>180|139=>183|138=>182|n=>n,fun|3=>0|4=>1|n=>n⟩
theorem Tryz.lays197:Go.Proofs.Lays.n197 Tryz.prog Tryz.lays197_ren:= {
 mixed:=by kernel_rfl
 f197:=Tryz.func71.trans (congrArg some (by kernel_rfl))
 f260:=Tryz.func106.trans (congrArg some (by kernel_rfl))
 t0:=Tryz.underlying0
 a0:=Tryz.isAgg0
 z0:=Tryz.sizeOf0
 v0:=Tryz.zeroValue0
 t3:=Tryz.underlying3
 a3:=Tryz.isAgg3
 z3:=Tryz.sizeOf3
 v3:=Tryz.zeroValue3
 t4:=Tryz.underlying4
 a4:=Tryz.isAgg4
 z4:=Tryz.sizeOf4
 v4:=Tryz.zeroValue4
 t5:=Tryz.underlying5
 a5:=Tryz.isAgg5
 z5:=Tryz.sizeOf5
 v5:=Tryz.zeroValue5
 t9:=Tryz.underlying9
 a9:=Tryz.isAgg9
 z9:=Tryz.sizeOf9
 v9:=Tryz.zeroValue9
 t21:=Tryz.underlying21
 a21:=Tryz.isAgg21
 z21:=Tryz.sizeOf21
 v21:=Tryz.zeroValue21
 t46:=Tryz.underlying180
 a46:=Tryz.isAgg180
 z46:=Tryz.sizeOf180
 v46:=Tryz.zeroValue180
 t105:=Tryz.underlying135
 a105:=Tryz.isAgg135
 z105:=Tryz.sizeOf135
 v105:=Tryz.zeroValue135
 t119:=Tryz.underlying179
 a119:=Tryz.isAgg179
 z119:=Tryz.sizeOf179
 t138:=Tryz.underlying182
 a138:=Tryz.isAgg182
 z138:=Tryz.sizeOf182
 v138:=Tryz.zeroValue182
 t139:=Tryz.underlying183
 a139:=Tryz.isAgg183
 z139:=Tryz.sizeOf183
 v139:=Tryz.zeroValue183
 g3:=by kernel_rfl
 g4:=by kernel_rfl }
open Go.RowKit Go.Lib in
theorem Tryz.utf8_DecodeRuneInString (s:ByteArray) (w:World) (hT:Lib.Utf8Tabs 0 1 w):
  Calls Tryz.prog 71 #[.string s] w fun e w'=>e= .returned (.tuple #[.int .i32 (Lib.decodeGo s).1, .int .i64 (Lib.decodeGo s).2])∧Below w.heap.size w w':=Any.utf8_DecodeRuneInString Tryz.lays197 s w hT
def Tryz.lays196_ren:Go.Shelf.Ren:=⟨fun|196=>138|259=>162|n=>n,fun|9=>9|4=>4|3=>3|5=>5|12=>12|119=>179|0=>0|46=>180|139=>183|138=>182|53=>56|n=>n,fun|3=>0|4=>1|n=>n⟩
theorem Tryz.lays196:Go.Proofs.Lays.n196 Tryz.prog Tryz.lays196_ren:= {
 mixed:=by kernel_rfl
 f196:=Tryz.func138.trans (congrArg some (by kernel_rfl))
 f259:=Tryz.func162.trans (congrArg some (by kernel_rfl))
 t0:=Tryz.underlying0
 a0:=Tryz.isAgg0
 z0:=Tryz.sizeOf0
 v0:=Tryz.zeroValue0
 t3:=Tryz.underlying3
 a3:=Tryz.isAgg3
 z3:=Tryz.sizeOf3
 v3:=Tryz.zeroValue3
 t4:=Tryz.underlying4
 a4:=Tryz.isAgg4
 z4:=Tryz.sizeOf4
 v4:=Tryz.zeroValue4
 t5:=Tryz.underlying5
 a5:=Tryz.isAgg5
 z5:=Tryz.sizeOf5
 v5:=Tryz.zeroValue5
 t9:=Tryz.underlying9
 a9:=Tryz.isAgg9
 z9:=Tryz.sizeOf9
 v9:=Tryz.zeroValue9
 t12:=Tryz.underlying12
 a12:=Tryz.isAgg12
 z12:=Tryz.sizeOf12
 v12:=Tryz.zeroValue12
 t46:=Tryz.underlying180
 a46:=Tryz.isAgg180
 z46:=Tryz.sizeOf180
 v46:=Tryz.zeroValue180
 t53:=Tryz.underlying56
 a53:=Tryz.isAgg56
 z53:=Tryz.sizeOf56
 v53:=Tryz.zeroValue56
 t119:=Tryz.underlying179
 a119:=Tryz.isAgg179
 z119:=Tryz.sizeOf179
 t138:=Tryz.underlying182
 a138:=Tryz.isAgg182
 z138:=Tryz.sizeOf182
 v138:=Tryz.zeroValue182
 t139:=Tryz.underlying183
 a139:=Tryz.isAgg183
 z139:=Tryz.sizeOf183
 v139:=Tryz.zeroValue183
 g3:=by kernel_rfl
 g4:=by kernel_rfl }
theorem Tryz.U8Extra_196:U8Extra Tryz.prog Tryz.lays196_ren:= {
 n3:=by kernel_rfl
 n4:=by kernel_rfl
 y3:=by kernel_rfl
 y4:=by kernel_rfl
 c5:=by kernel_rfl
 c119:=by kernel_rfl
 c138:=by kernel_rfl }
open Go.RowKit in
theorem Tryz.utf8_ValidString (s:ByteArray) (w:World) (hs:s.size≤9223372036854775807) (hT:Lib.Utf8Tabs 0 1 w):
  Calls Tryz.prog 138 #[.string s] w fun e w'=>e= .returned (.bool (Lib.validD s.data.toList))∧Below w.heap.size w w':=Any.utf8_ValidString Tryz.lays196 s w hs hT
theorem Tryz.utf8_tabs {w:World} (h3:Lib.VarReads Tryz.prog w "unicode/utf8.first" Lib.firstData) (h4:Lib.VarReads Tryz.prog w "unicode/utf8.acceptRanges" Lib.acceptData):Lib.Utf8Tabs 0 1 w:=utf8Tabs_of_readsT (U8Types.of196 Tryz.lays196) Tryz.U8Extra_196 h3 h4
end Go.Proofs
end
namespace Go.Proofs.YtalcagmhdppdjaaGreatDoor
open Nat renaming zero_add→Ly,le_refl→Mz,lt_of_lt_of_le→Kx
open List renaming getD_eq_getElem?_getD→Mk,getElem?_eq_getElem→Kh,mem_cons_self→Jz
section
open Go.RowKit
section
variable {P:Program} {Q:Exit→Act→World→Prop} {ops:Array Oper}
def putAll:List Oper→Nat→(Nat→Value)→Act→Act
 | [],_,_,a=>a
 |o::l,k,u,a=>putAll l (k+1) u (a.put o.dst (u k))
def Deps (n:Nat) (T:Nat→Value→World→Prop) (u:Nat→Value) (w:World):List Edge→Prop
 | []=>True
 |e::es=>(Region.binds .any e=true→e.on<n→T e.on (u e.on) w)∧Deps n T u w es
def blk:Value→Nat
 | .pointer (some a)=>a.block
 |_=>0
def StepsAll (P:Program) (ops:Array Oper) (Q:Exit→Act→World→Prop) (n:Nat) (T:Nat→Value→World→Prop) (A:Nat→Bool) (w0:World) (a0:Act) (l0:List Oper):List Oper→Nat→Prop
 | [],_=>True
 |o::l,k=>(∀u w,Below w0.heap.size w0 w→Deps n T u w o.after.toList→
   wpList P ops (Exit.then (fun a' w'=> ∃v,a'=(putAll l0 0 u a0).put o.dst v∧T k v w'∧Below w.heap.size w w'∧(A k=true→w.heap.size≤blk v)) Q) [o] (putAll l0 0 u a0) w)∧StepsAll P ops Q n T A w0 a0 l0 l (k+1)
theorem upon_then {o:Oper} {a:Act} {K K2:Act→World→Prop} {r:Result Next} (h:o.upon P a K (Exit.then K2 Q) r):o.upon P a K Q r:=by
 cases r with
 |ok n w'=>cases n<;>exact h
 |halt x w'=>cases x<;>exact h
theorem wpOp_of_one {i:Nat} {o:Oper} {a:Act} {w:World} {K K':Act→World→Prop} (ho:ops[i]?=some o) (hK: ∀a w,K a w→K' a w) (h:wpList P ops (Exit.then K Q) [o] a w):wpOp P ops Q i K' a w:=by
 refine wpOp_mono hK ?_
 unfold wpOp
 simp only[ho]
 unfold wpList at h
 split
 ·rename_i hw
  rw[if_pos hw]at h
  rcases h with h|h
  ·exact Or.inl (upon_then h)
  ·exact Or.inr h
 ·rename_i hw
  rw[if_neg hw]at h
  exact h
theorem put_put (a:Act) (x:Option Tmp) (v u:Value):(a.put x v).put x u=a.put x u:=by
 cases x with
 |none=>rfl
 |some d=>simp[Act.put]
theorem putAll_comm: ∀(l:List Oper) (k:Nat) (u:Nat→Value) (a:Act) (d:Option Tmp) (v:Value),d∉l.map (·.dst)→(putAll l k u a).put d v=putAll l k u (a.put d v)
 | [],_,_,_,_,_,_=>rfl
 |o::l,k,u,a,d,v,h=>by
  have h1: ¬d=o.dst:=fun e=>h (by simp[e])
  have h2:d∉l.map (·.dst):=fun e=>h (by simp only[List.map_cons,List.mem_cons];exact Or.inr e)
  unfold putAll
  rw[putAll_comm l (k+1) u _ d v h2,Act.put_comm a (x:=o.dst) (y:=d) (u k) v (fun e he hd=>h1 (hd.trans he.symm))]
theorem putAll_congr: ∀(l:List Oper) (k:Nat) (u u':Nat→Value) (a:Act),(∀j,k≤j→u j=u' j)→putAll l k u a=putAll l k u' a
 | [],_,_,_,_,_=>rfl
 |o::l,k,u,u',a,h=>by
  unfold putAll
  rw[h k (Mz _)]
  exact putAll_congr l (k+1) u u' _ fun j hj=>h j (by omega)
def upd (u:Nat→Value) (i:Nat) (v:Value):Nat→Value:=fun j=>if j=i then v else u j
theorem putAll_put: ∀(l:List Oper) (k:Nat) (u:Nat→Value) (a:Act) (i:Nat) (o:Oper) (v:Value),(l.map (·.dst)).Nodup→l[i]?=some o→(putAll l k u a).put o.dst v=putAll l k (upd u (k+i) v) a
 | [],_,_,_,i,_,_,_,hi=>by simp at hi
 |p::l,k,u,a,0,o,v,hd,hi=>by
  obtain rfl:p=o:=by simpa using hi
  rw[List.map_cons,List.nodup_cons]at hd
  unfold putAll
  rw[putAll_comm l (k+1) u _ _ v hd.1,put_put,show upd u (k+0) v k=v by simp[upd]]
  exact putAll_congr l (k+1) u _ _ fun j hj=>by unfold upd;rw[if_neg (by omega)]
 |p::l,k,u,a,i+1,o,v,hd,hi=>by
  rw[List.map_cons,List.nodup_cons]at hd
  unfold putAll
  rw[putAll_put l (k+1) u _ i o v hd.2 (by simpa using hi),show k+1+i=k+(i+1) by omega,show upd u (k+(i+1)) v k=u k by unfold upd;rw[if_neg (by omega)]]
def slot (a:Act):Option Tmp→Value
 |some d=>a.tmps.getD d undef
 |none=>undef
theorem put_slot (a:Act) (d:Option Tmp):a.put d (slot a d)=a:=by
 cases d with
 |none=>rfl
 |some d=>
  unfold Act.put slot
  have:a.tmps.setIfInBounds d (a.tmps.getD d undef)=a.tmps:=by
   apply Array.ext_getElem?
   intro k
   by_cases h:d=k
   ·subst h
    by_cases hs:d<a.tmps.size
    ·simp[hs]
    ·simp[Array.getElem?_eq_none (Nat.le_of_not_lt hs)];exact Nat.le_of_not_lt hs
   ·rw[Array.getElem?_setIfInBounds_ne h]
  simp only[this]
theorem putAll_self: ∀(l:List Oper) (k:Nat) (u:Nat→Value) (a:Act),(∀j o,l[j]?=some o→u (k+j)=slot a o.dst)→putAll l k u a=a
 | [],_,_,_,_=>rfl
 |o::l,k,u,a,h=>by
  unfold putAll
  rw[show u k=slot a o.dst from h 0 o rfl,put_slot]
  exact putAll_self l (k+1) u a fun j p hp=>by rw[show k+1+j=k+(j+1) by omega];exact h (j+1) p (by simpa using hp)
def mu (listed:Array Bool):Nat→Nat
 |0=>0
 |k+1=>mu listed k+if listed.getD k false=true then 0 else 1
theorem mu_zero {listed:Array Bool} : ∀k,mu listed k=0→∀i,i<k→listed.getD i false=true
 |0,_,i,hi=>by omega
 |k+1,h,i,hi=>by
  unfold mu at h
  by_cases hik:i=k
  ·subst hik
   by_cases hl:listed.getD i false=true
   ·exact hl
   ·rw[if_neg hl]at h;omega
  ·exact mu_zero k (by omega) i (by omega)
theorem mu_some {listed:Array Bool} : ∀k,0<mu listed k→∃i,i<k∧¬listed.getD i false=true∧∀j,j<i→listed.getD j false=true
 |0,h=>by simp[mu]at h
 |k+1,h=>by
  by_cases h0:0<mu listed k
  ·obtain⟨i,hi,h1,h2⟩:=mu_some k h0
   exact⟨i,by omega,h1,h2⟩
  ·refine⟨k,by omega,fun hl=>?_,fun j hj=>mu_zero k (by omega) j hj⟩
   unfold mu at h
   rw[if_pos hl]at h;omega
theorem mu_set_le {listed:Array Bool} {i:Nat} : ∀k,mu (listed.setIfInBounds i true) k≤mu listed k
 |0=>Mz _
 |k+1=>by
  have:=mu_set_le (listed:=listed) (i:=i) k
  unfold mu
  by_cases hl:listed.getD k false=true
  ·rw[if_pos hl,if_pos (getD_set_true hl)];omega
  ·rw[if_neg hl];split<;>omega
theorem mu_set {listed:Array Bool} {i:Nat} (hi:i<listed.size) (hu: ¬listed.getD i false=true): ∀k,i<k→mu (listed.setIfInBounds i true) k+1≤mu listed k
 |0,h=>by omega
 |k+1,h=>by
  unfold mu
  by_cases hik:i=k
  ·subst hik
   have:=mu_set_le (listed:=listed) (i:=i) i
   rw[if_neg hu,if_pos (by simp[hi])];omega
  ·have:=mu_set hi hu k (by omega)
   rw[getD_set_ne false hik];omega
theorem wpAny_seq: ∀(l:List Oper) (k:Nat) (listed:Array Bool) (a:Act) (w:World) (f:Nat),l.length≤f→(∀j,l[j]?=ops[k+j]?)→
  Region.seqB .any ops l.length k listed=true→wpList P ops Q l a w→wpAny P .any ops Q f listed a w
 | [],_,_,_,_,0,_,_,hB,h=>⟨by simpa [Region.seqB] using hB,h⟩
 | [],_,listed,_,_,f+1,_,_,hB,h=>by
  have hr:Region.ready .any ops listed= []:=by simpa [Region.seqB] using hB
  exact⟨fun _=>h,fun i hi=>by rw[hr]at hi;cases hi⟩
 |o::l,k,listed,a,w,0,hf,_,_,_=>by simp at hf
 |o::l,k,listed,a,w,f+1,hf,hl,hB,h=>by
  have h0:ops[k]?=some o:=by simpa using(hl 0).symm
  simp only[List.length_cons,Region.seqB,Bool.and_eq_true,decide_eq_true_eq]at hB
  refine⟨fun h1=>(by rw[hB.1]at h1;cases h1),fun i hi=>?_⟩
  rw[hB.1]at hi
  have hik:i=k:=by simpa using hi
  subst hik
  have hw:wpOp P ops Q i (wpList P ops Q l) a w:=by unfold wpOp;simp only[h0];exact h
  exact wpOp_mono (fun a' w' h'=>wpAny_seq l (i+1) _ a' w' f (by simpa using hf) (fun j=>by have:=hl (j+1);simpa [Nat.add_assoc,Nat.add_comm 1 j] using this) hB.2 h') hw
def reaches (l:List Oper) (f:Nat):Nat→Nat→Bool:=
 Nat.rec (motive:=fun _=>Nat→Nat→Bool) (fun k i=>Region.waitsFor .any l.toArray k i) (fun _ r k i=>Region.waitsFor .any l.toArray k i||(List.range k).any fun j=>Region.waitsFor .any l.toArray k j&&r j i) f
theorem reaches_listed {l:List Oper} {n:Nat} {listed:Array Bool} (inv:HeadInv .any l.toArray n listed): ∀(f k i:Nat),reaches l f k i=true→
  (∀o,l.toArray[k]?=some o→∀e∈o.after,Region.binds .any e=true→listed.getD e.on false=true)→listed.getD i false=true
 |0,k,i,h,hk=>by
  obtain⟨o,ho,e,he,hb,hon⟩:=Region.waitsFor_spec (show Region.waitsFor .any l.toArray k i=true from h)
  rw[←hon];exact hk o ho e he hb
 |f+1,k,i,h,hk=>by
  simp only[reaches,Bool.or_eq_true,List.any_eq_true,List.mem_range,Bool.and_eq_true]at h
  rcases h with h|⟨j,_,h1,h2⟩
  ·obtain⟨o,ho,e,he,hb,hon⟩:=Region.waitsFor_spec h
   rw[←hon];exact hk o ho e he hb
  ·obtain⟨o,ho,e,he,hb,hon⟩:=Region.waitsFor_spec h1
   have hj:listed.getD j false=true:=by rw[←hon];exact hk o ho e he hb
   exact reaches_listed inv f j i h2 fun o' ho'=>inv.closed j o' ho' hj
def mixB (l:List Oper) (n:Nat):Bool:=
 decide (n≤l.length)&&decide (((l.take n).map (·.dst)).Nodup)&&
 ((List.range n).all fun i=>match l[i]? with|some o=>o.after.all fun e=> !Region.binds .any e||decide (e.on<i)|none=>false)&&
 ((List.range l.length).all fun k=>decide (k<n)||(List.range n).all fun i=>reaches l n k i)&&
 Region.seqB .any l.toArray (l.length-n) n ((List.range l.length).map fun i=>decide (i<n)).toArray
end
def TLst (l:List Value) (k:Nat) (v:Value) (_w:World):Prop:=v=l.getD k undef
end
section
open Go.RowKit
section
variable {P:Program} {Q:Exit→Act→World→Prop} {ops:Array Oper}
def StepsP (P:Program) (ops:Array Oper) (Q:Exit→Act→World→Prop) (n p:Nat) (T:Nat→Value→World→Prop) (J:Bool→World→Prop) (G:World→World→Prop) (a0:Act) (l0:List Oper):List Oper→Nat→Prop
 | [],_=>True
 |o::l,k=>((k==p)=false→∀u w b,J b w→Deps n T u w o.after.toList→
   wpList P ops (Exit.then (fun a' w'=> ∃v,a'=(putAll l0 0 u a0).put o.dst v∧T k v w'∧Below w.heap.size w w') Q) [o] (putAll l0 0 u a0) w)∧
  ((k==p)=true→∀u w,J false w→Deps n T u w o.after.toList→
   wpList P ops (Exit.then (fun a' w'=> ∃v,a'=(putAll l0 0 u a0).put o.dst v∧T k v w'∧G w w'∧J true w') Q) [o] (putAll l0 0 u a0) w)∧StepsP P ops Q n p T J G a0 l0 l (k+1)
end
end
section
open Go.RowKit
section
variable {P:Program} {Q:Exit→Act→World→Prop} {ops:Array Oper}
def setL (L:Nat→Bool) (k:Nat):Nat→Bool:=fun j=>if j=k then true else L j
theorem setL_self (L:Nat→Bool) (k:Nat):setL L k k=true:=if_pos rfl
theorem setL_ne (L:Nat→Bool) {k j:Nat} (h:j≠k):setL L k j=L j:=if_neg h
def DepsL (n:Nat) (T:Nat→Value→World→Prop) (L:Nat→Bool) (u:Nat→Value) (w:World):List Edge→Prop
 | []=>True
 |e::es=>(Region.binds .any e=true→e.on<n→L e.on=true∧T e.on (u e.on) w)∧DepsL n T L u w es
theorem depsL_of {n:Nat} {T:Nat→Value→World→Prop} {L:Nat→Bool} {u:Nat→Value} {w:World} : ∀(es:List Edge),(∀e∈es,Region.binds .any e=true→e.on<n→L e.on=true∧T e.on (u e.on) w)→DepsL n T L u w es
 | [],_=>trivial
 |e::es,h=>⟨h e (by simp),depsL_of es fun e' he'=>h e' (by simp[he'])⟩
def StepsJ (P:Program) (ops:Array Oper) (Q:Exit→Act→World→Prop) (n:Nat) (T:Nat→Value→World→Prop) (J:(Nat→Bool)→World→Prop) (a0:Act) (l0:List Oper):List Oper→Nat→Prop
 | [],_=>True
 |o::l,k=>(∀u w L,L k=false→J L w→DepsL n T L u w o.after.toList→wpList P ops (Exit.then (fun a' w'=> ∃v,a'=(putAll l0 0 u a0).put o.dst v∧T k v w'∧J (setL L k) w'∧∀j v',j<n→L j=true→T j v' w→T j v' w') Q) [o] (putAll l0 0 u a0) w)∧StepsJ P ops Q n T J a0 l0 l (k+1)
theorem StepsJ.cons {n:Nat} {T:Nat→Value→World→Prop} {J:(Nat→Bool)→World→Prop} {a0:Act} {l0 l:List Oper} {o:Oper} {k:Nat}
  (h: ∀u w L,L k=false→J L w→DepsL n T L u w o.after.toList→wpList P ops (Exit.then (fun a' w'=> ∃v,a'=(putAll l0 0 u a0).put o.dst v∧T k v w'∧J (setL L k) w'∧∀j v',j<n→L j=true→T j v' w→T j v' w') Q) [o] (putAll l0 0 u a0) w) (h2:StepsJ P ops Q n T J a0 l0 l (k+1)):StepsJ P ops Q n T J a0 l0 (o::l) k:=⟨h,h2⟩
theorem StepsJ.nil {n:Nat} {T:Nat→Value→World→Prop} {J:(Nat→Bool)→World→Prop} {a0:Act} {l0:List Oper} {k:Nat} :StepsJ P ops Q n T J a0 l0 [] k:=trivial
theorem stepsJ_at {n:Nat} {T:Nat→Value→World→Prop} {J:(Nat→Bool)→World→Prop} {a0:Act} {l0:List Oper} : ∀(l:List Oper) (k:Nat),StepsJ P ops Q n T J a0 l0 l k→∀j o,l[j]?=some o→
  ∀u w L,L (k+j)=false→J L w→DepsL n T L u w o.after.toList→wpList P ops (Exit.then (fun a' w'=> ∃v,a'=(putAll l0 0 u a0).put o.dst v∧T (k+j) v w'∧J (setL L (k+j)) w'∧∀j v',j<n→L j=true→T j v' w→T j v' w') Q) [o] (putAll l0 0 u a0) w
 | [],_,_,j,o,hj=>by simp at hj
 |q::l,k,h,0,o,hj=>by
  obtain rfl:q=o:=by simpa using hj
  exact h.1
 |q::l,k,h,j+1,o,hj=>by
  have:=stepsJ_at l (k+1) h.2 j o (by simpa using hj)
  rw[show k+(j+1)=k+1+j by omega];exact this
theorem mixj_all {l:List Oper} {n:Nat} {T:Nat→Value→World→Prop} {J:(Nat→Bool)→World→Prop} {a0:Act} (hB:mixB l n=true)
  (hs:StepsJ P l.toArray Q n T J a0 (l.take n) (l.take n) 0)
  (hf: ∀u w L,(∀i,i<n→L i=true)→J L w→(∀i,i<n→T i (u i) w)→wpList P l.toArray Q (l.drop n) (putAll (l.take n) 0 u a0) w):
  ∀(f:Nat) (listed:Array Bool) (u:Nat→Value) (w:World),mu listed n≤f→HeadInv .any l.toArray n listed→J (fun i=>listed.getD i false) w→(∀i,i<n→listed.getD i false=true→T i (u i) w)→
   wpAny P .any l.toArray Q (f+(l.length-n)) listed (putAll (l.take n) 0 u a0) w:=by
 simp only[mixB,Bool.and_eq_true,decide_eq_true_eq,List.all_eq_true,List.mem_range,Bool.or_eq_true]at hB
 obtain⟨⟨⟨⟨hn,hd⟩,h1⟩,h2⟩,h3⟩:=hB
 have done: ∀(f:Nat) (listed:Array Bool) (u:Nat→Value) (w:World),mu listed n=0→HeadInv .any l.toArray n listed→J (fun i=>listed.getD i false) w→(∀i,i<n→listed.getD i false=true→T i (u i) w)→
   wpAny P .any l.toArray Q (f+(l.length-n)) listed (putAll (l.take n) 0 u a0) w:=by
  intro f listed u w hmu inv hb ht
  have hall:=mu_zero n hmu
  have hls:listed.size=l.length:=by rw[inv.size];simp
  have he:listed=((List.range l.length).map fun i=>decide (i<n)).toArray:=by
   apply Array.ext (by simp[hls])
   intro i hi hi2
   simp only[List.getElem_toArray,List.getElem_map,List.getElem_range]
   by_cases hin:i<n
   ·have:=hall i hin
    simp[hi]at this
    simp[this,hin]
   ·have:=inv.tail i (by omega) (by simpa using(by omega:i<l.length))
    simp[hi]at this
    simp[this,hin]
  refine wpAny_seq (l.drop n) n listed _ w _ (by simp) (fun j=>by simp[List.getElem?_drop]) (by rw[he,List.length_drop];exact h3) (hf u w _ hall hb (fun i hi=>ht i hi (hall i hi)))
 intro f
 induction f with
 |zero=>intro listed u w hmu inv hb ht;exact done 0 listed u w (by omega) inv hb ht
 |succ f ih=>
  intro listed u w hmu inv hb ht
  by_cases h0:mu listed n=0
  ·exact done _ listed u w h0 inv hb ht
  ·obtain⟨m,hmn,hmu1,hmu2⟩:=mu_some n (by omega:0<mu listed n)
   have hls:listed.size=l.length:=by rw[inv.size];simp
   rw[show f+1+(l.length-n)=f+(l.length-n)+1 by omega]
   refine⟨fun hr=>?_,fun i hi=>?_⟩
   ·have hm:m∈Region.ready .any l.toArray listed:=by
     rw[mem_ready]
     refine⟨getD_in (by omega) (by simpa using hmu1),?_⟩
     have:=h1 m hmn
     cases ho:l[m]? with
     |none=>rw[ho]at this;simp at this
     |some o=>
      rw[ho]at this
      refine⟨o,by simpa using ho,fun e he hbd=>hmu2 e.on ?_⟩
      simp only[Array.all_eq_true_iff_forall_mem]at this
      have:=this e he
      rw[hbd]at this
      simpa using this
    rw[hr]at hm;cases hm
   ·obtain⟨hun,o,ho,hall⟩:=mem_ready.1 hi
    have hil:i<l.length:=by have:=(Array.getElem?_eq_some_iff.1 ho).1;simpa using this
    have hin:i<n:=by
     rcases h2 i hil with h|h
     ·exact h
     ·refine(hmu1 (reaches_listed inv n i m (h m hmn) fun o' ho'=>?_)).elim
      have:o'=o:=Option.some.inj (ho'.symm.trans ho)
      subst this
      exact hall
    have ho2:(l.take n)[i]?=some o:=by rw[List.getElem?_take_of_lt hin];simpa using ho
    have hun': ¬listed.getD i false=true:=by rw[getD_both hun];simp
    have hunf:listed.getD i false=false:=by simpa using hun'
    have hst:=stepsJ_at (l.take n) 0 hs i o ho2 u w (fun i=>listed.getD i false) (by rw[Ly];exact hunf) hb (depsL_of _ fun e he hbd hen=>⟨hall e (by simpa using he) hbd,ht e.on hen (hall e (by simpa using he) hbd)⟩)
    refine wpOp_of_one ho (fun a' w' hK=>?_) hst
    obtain⟨v,rfl,htv,hJ2,hkeep⟩:=hK
    rw[Ly]at htv hJ2
    rw[putAll_put (l.take n) 0 u a0 i o v hd ho2,Ly]
    refine ih _ _ w' ?_ (inv.set hi hin) ?_ (fun j hj hl=>?_)
    ·have:=mu_set (by omega) hun' n hin;omega
    ·have e:(fun j=>(listed.setIfInBounds i true).getD j false)=setL (fun j=>listed.getD j false) i:=by
      funext j
      by_cases hji:j=i
      ·subst hji
       rw[setL_self]
       simp[hls,hil]
      ·rw[setL_ne _ hji,getD_set_ne false (Ne.symm hji)]
     rw[e];exact hJ2
    ·by_cases hji:j=i
     ·subst hji;simpa [upd] using htv
     ·rw[show upd u i v j=u j by unfold upd;rw[if_neg hji]]
      rw[getD_set_ne false (Ne.symm hji)]at hl
      exact hkeep j _ hj hl (ht j hj hl)
theorem wp_region_mixj {l:List Oper} {id:Nat} {a0:Act} {w0:World} (n:Nat) (T:Nat→Value→World→Prop) (J:(Nat→Bool)→World→Prop) (hm:P.follows .mixedOrders=true) (hB:mixB l n=true)
  (h0:J (fun _=>false) w0.drew)
  (hs:StepsJ P l.toArray Q n T J a0 (l.take n) (l.take n) 0)
  (hf: ∀u w L,(∀i,i<n→L i=true)→J L w→(∀i,i<n→T i (u i) w)→wpList P l.toArray Q (l.drop n) (putAll (l.take n) 0 u a0) w):(Code.region id l.toArray true).wp P Q a0 w0:=by
 refine wp_region_any hm ?_
 have inv0:HeadInv .any l.toArray n (Array.replicate l.toArray.size false):=
  ⟨by simp,fun j oj _ hl=>(by rw[getD_replicate_false]at hl;cases hl),fun t _ ht=>getD_in (by simpa using ht) (getD_replicate_false _ _)⟩
 have hn:n≤l.length:=by simp only[mixB,Bool.and_eq_true,decide_eq_true_eq]at hB;exact hB.1.1.1.1
 have hmu:mu (Array.replicate l.toArray.size false) n≤n:=by
  have: ∀(s:Array Bool) k,mu s k≤k:=fun s k=>by
   induction k with
   |zero=>simp[mu]
   |succ k ih=>unfold mu;split<;>omega
  exact this _ _
 have h:=mixj_all (P:=P) (Q:=Q) hB hs hf n (Array.replicate l.toArray.size false) (fun i=>match (l.take n)[i]? with|some o=>slot a0 o.dst|none=>undef) w0.drew hmu inv0 (by have e:(fun i=>(Array.replicate l.toArray.size false).getD i false)=fun _=>false:=(by funext i;rw[getD_replicate_false]);rw[e];exact h0)
  (fun i _ hl=>by rw[getD_replicate_false]at hl;cases hl)
 rw[putAll_self (l.take n) 0 _ a0 (fun j o hj=>by simp only[Ly,hj])]at h
 rw[show n+(l.length-n)=l.toArray.size by simp;omega]at h
 exact h
end
end
section
open Go.RowKit
section
variable {P:Program} {Q:Exit→Act→World→Prop} {ops:Array Oper}
def StepsU (P:Program) (ops:Array Oper) (Q:Exit→Act→World→Prop) (n:Nat) (T:Nat→Value→World→Prop) (J:(Nat→Value)→(Nat→Bool)→World→Prop) (a0:Act) (l0:List Oper):List Oper→Nat→Prop
 | [],_=>True
 |o::l,k=>(∀u w L,L k=false→J u L w→DepsL n T L u w o.after.toList→wpList P ops (Exit.then (fun a' w'=> ∃v,a'=(putAll l0 0 u a0).put o.dst v∧T k v w'∧J (upd u k v) (setL L k) w'∧∀j v',j<n→L j=true→T j v' w→T j v' w') Q) [o] (putAll l0 0 u a0) w)∧StepsU P ops Q n T J a0 l0 l (k+1)
theorem StepsU.cons {n:Nat} {T:Nat→Value→World→Prop} {J:(Nat→Value)→(Nat→Bool)→World→Prop} {a0:Act} {l0 l:List Oper} {o:Oper} {k:Nat}
  (h: ∀u w L,L k=false→J u L w→DepsL n T L u w o.after.toList→wpList P ops (Exit.then (fun a' w'=> ∃v,a'=(putAll l0 0 u a0).put o.dst v∧T k v w'∧J (upd u k v) (setL L k) w'∧∀j v',j<n→L j=true→T j v' w→T j v' w') Q) [o] (putAll l0 0 u a0) w) (h2:StepsU P ops Q n T J a0 l0 l (k+1)):StepsU P ops Q n T J a0 l0 (o::l) k:=⟨h,h2⟩
theorem StepsU.nil {n:Nat} {T:Nat→Value→World→Prop} {J:(Nat→Value)→(Nat→Bool)→World→Prop} {a0:Act} {l0:List Oper} {k:Nat} :StepsU P ops Q n T J a0 l0 [] k:=trivial
theorem stepsU_at {n:Nat} {T:Nat→Value→World→Prop} {J:(Nat→Value)→(Nat→Bool)→World→Prop} {a0:Act} {l0:List Oper} : ∀(l:List Oper) (k:Nat),StepsU P ops Q n T J a0 l0 l k→∀j o,l[j]?=some o→
  ∀u w L,L (k+j)=false→J u L w→DepsL n T L u w o.after.toList→wpList P ops (Exit.then (fun a' w'=> ∃v,a'=(putAll l0 0 u a0).put o.dst v∧T (k+j) v w'∧J (upd u (k+j) v) (setL L (k+j)) w'∧∀j v',j<n→L j=true→T j v' w→T j v' w') Q) [o] (putAll l0 0 u a0) w
 | [],_,_,j,o,hj=>by simp at hj
 |q::l,k,h,0,o,hj=>by
  obtain rfl:q=o:=by simpa using hj
  exact h.1
 |q::l,k,h,j+1,o,hj=>by
  have:=stepsU_at l (k+1) h.2 j o (by simpa using hj)
  rw[show k+(j+1)=k+1+j by omega];exact this
theorem mixu_all {l:List Oper} {n:Nat} {T:Nat→Value→World→Prop} {J:(Nat→Value)→(Nat→Bool)→World→Prop} {a0:Act} (hB:mixB l n=true)
  (hs:StepsU P l.toArray Q n T J a0 (l.take n) (l.take n) 0)
  (hf: ∀u w L,(∀i,i<n→L i=true)→J u L w→(∀i,i<n→T i (u i) w)→wpList P l.toArray Q (l.drop n) (putAll (l.take n) 0 u a0) w):
  ∀(f:Nat) (listed:Array Bool) (u:Nat→Value) (w:World),mu listed n≤f→HeadInv .any l.toArray n listed→J u (fun i=>listed.getD i false) w→(∀i,i<n→listed.getD i false=true→T i (u i) w)→
   wpAny P .any l.toArray Q (f+(l.length-n)) listed (putAll (l.take n) 0 u a0) w:=by
 simp only[mixB,Bool.and_eq_true,decide_eq_true_eq,List.all_eq_true,List.mem_range,Bool.or_eq_true]at hB
 obtain⟨⟨⟨⟨hn,hd⟩,h1⟩,h2⟩,h3⟩:=hB
 have done: ∀(f:Nat) (listed:Array Bool) (u:Nat→Value) (w:World),mu listed n=0→HeadInv .any l.toArray n listed→J u (fun i=>listed.getD i false) w→(∀i,i<n→listed.getD i false=true→T i (u i) w)→
   wpAny P .any l.toArray Q (f+(l.length-n)) listed (putAll (l.take n) 0 u a0) w:=by
  intro f listed u w hmu inv hb ht
  have hall:=mu_zero n hmu
  have hls:listed.size=l.length:=by rw[inv.size];simp
  have he:listed=((List.range l.length).map fun i=>decide (i<n)).toArray:=by
   apply Array.ext (by simp[hls])
   intro i hi hi2
   simp only[List.getElem_toArray,List.getElem_map,List.getElem_range]
   by_cases hin:i<n
   ·have:=hall i hin
    simp[hi]at this
    simp[this,hin]
   ·have:=inv.tail i (by omega) (by simpa using(by omega:i<l.length))
    simp[hi]at this
    simp[this,hin]
  refine wpAny_seq (l.drop n) n listed _ w _ (by simp) (fun j=>by simp[List.getElem?_drop]) (by rw[he,List.length_drop];exact h3) (hf u w _ hall hb (fun i hi=>ht i hi (hall i hi)))
 intro f
 induction f with
 |zero=>intro listed u w hmu inv hb ht;exact done 0 listed u w (by omega) inv hb ht
 |succ f ih=>
  intro listed u w hmu inv hb ht
  by_cases h0:mu listed n=0
  ·exact done _ listed u w h0 inv hb ht
  ·obtain⟨m,hmn,hmu1,hmu2⟩:=mu_some n (by omega:0<mu listed n)
   have hls:listed.size=l.length:=by rw[inv.size];simp
   rw[show f+1+(l.length-n)=f+(l.length-n)+1 by omega]
   refine⟨fun hr=>?_,fun i hi=>?_⟩
   ·have hm:m∈Region.ready .any l.toArray listed:=by
     rw[mem_ready]
     refine⟨getD_in (by omega) (by simpa using hmu1),?_⟩
     have:=h1 m hmn
     cases ho:l[m]? with
     |none=>rw[ho]at this;simp at this
     |some o=>
      rw[ho]at this
      refine⟨o,by simpa using ho,fun e he hbd=>hmu2 e.on ?_⟩
      simp only[Array.all_eq_true_iff_forall_mem]at this
      have:=this e he
      rw[hbd]at this
      simpa using this
    rw[hr]at hm;cases hm
   ·obtain⟨hun,o,ho,hall⟩:=mem_ready.1 hi
    have hil:i<l.length:=by have:=(Array.getElem?_eq_some_iff.1 ho).1;simpa using this
    have hin:i<n:=by
     rcases h2 i hil with h|h
     ·exact h
     ·refine(hmu1 (reaches_listed inv n i m (h m hmn) fun o' ho'=>?_)).elim
      have:o'=o:=Option.some.inj (ho'.symm.trans ho)
      subst this
      exact hall
    have ho2:(l.take n)[i]?=some o:=by rw[List.getElem?_take_of_lt hin];simpa using ho
    have hun': ¬listed.getD i false=true:=by rw[getD_both hun];simp
    have hunf:listed.getD i false=false:=by simpa using hun'
    have hst:=stepsU_at (l.take n) 0 hs i o ho2 u w (fun i=>listed.getD i false) (by rw[Ly];exact hunf) hb (depsL_of _ fun e he hbd hen=>⟨hall e (by simpa using he) hbd,ht e.on hen (hall e (by simpa using he) hbd)⟩)
    refine wpOp_of_one ho (fun a' w' hK=>?_) hst
    obtain⟨v,rfl,htv,hJ2,hkeep⟩:=hK
    rw[Ly]at htv hJ2
    rw[putAll_put (l.take n) 0 u a0 i o v hd ho2,Ly]
    refine ih _ _ w' ?_ (inv.set hi hin) ?_ (fun j hj hl=>?_)
    ·have:=mu_set (by omega) hun' n hin;omega
    ·have e:(fun j=>(listed.setIfInBounds i true).getD j false)=setL (fun j=>listed.getD j false) i:=by
      funext j
      by_cases hji:j=i
      ·subst hji
       rw[setL_self]
       simp[hls,hil]
      ·rw[setL_ne _ hji,getD_set_ne false (Ne.symm hji)]
     rw[e];exact hJ2
    ·by_cases hji:j=i
     ·subst hji;simpa [upd] using htv
     ·rw[show upd u i v j=u j by unfold upd;rw[if_neg hji]]
      rw[getD_set_ne false (Ne.symm hji)]at hl
      exact hkeep j _ hj hl (ht j hj hl)
theorem wp_region_mixu {l:List Oper} {id:Nat} {a0:Act} {w0:World} (n:Nat) (T:Nat→Value→World→Prop) (J:(Nat→Value)→(Nat→Bool)→World→Prop) (hm:P.follows .mixedOrders=true) (hB:mixB l n=true)
  (h0: ∀u,J u (fun _=>false) w0.drew)
  (hs:StepsU P l.toArray Q n T J a0 (l.take n) (l.take n) 0)
  (hf: ∀u w L,(∀i,i<n→L i=true)→J u L w→(∀i,i<n→T i (u i) w)→wpList P l.toArray Q (l.drop n) (putAll (l.take n) 0 u a0) w):(Code.region id l.toArray true).wp P Q a0 w0:=by
 refine wp_region_any hm ?_
 have inv0:HeadInv .any l.toArray n (Array.replicate l.toArray.size false):=
  ⟨by simp,fun j oj _ hl=>(by rw[getD_replicate_false]at hl;cases hl),fun t _ ht=>getD_in (by simpa using ht) (getD_replicate_false _ _)⟩
 have hn:n≤l.length:=by simp only[mixB,Bool.and_eq_true,decide_eq_true_eq]at hB;exact hB.1.1.1.1
 have hmu:mu (Array.replicate l.toArray.size false) n≤n:=by
  have: ∀(s:Array Bool) k,mu s k≤k:=fun s k=>by
   induction k with
   |zero=>simp[mu]
   |succ k ih=>unfold mu;split<;>omega
  exact this _ _
 have h:=mixu_all (P:=P) (Q:=Q) hB hs hf n (Array.replicate l.toArray.size false) (fun i=>match (l.take n)[i]? with|some o=>slot a0 o.dst|none=>undef) w0.drew hmu inv0 (by have e:(fun i=>(Array.replicate l.toArray.size false).getD i false)=fun _=>false:=(by funext i;rw[getD_replicate_false]);rw[e];exact h0 _)
  (fun i _ hl=>by rw[getD_replicate_false]at hl;cases hl)
 rw[putAll_self (l.take n) 0 _ a0 (fun j o hj=>by simp only[Ly,hj])]at h
 rw[show n+(l.length-n)=l.toArray.size by simp;omega]at h
 exact h
end
end
end Go.Proofs.YtalcagmhdppdjaaGreatDoor
