/-
  Variables of so many cells, as a list; what changes and what stays.
-/
import Derived.StillTail
import Derived.Test.YtgmfkbamfnkbgaaDoorRows
import Derived.ProofKit
import Derived.OpenShut
import Derived.ChangeArms
import Derived.Lib.SmallJoins
import Derived.Deep.Strs
import Derived.Deep.Slices
import Derived.ChangeOld
import Derived.Test.YtgmfkbamfnkbgaaDoorPkChangeWindows00
namespace Go.Proofs.YtgmfkbamfnkbgaaDoor
open List renaming length_append→Kq,length_cons→Jq,mem_cons_of_mem→Jx,mem_cons_self→Jy
section
open Go.RowKit
section
variable {P:Program} {Q:Exit→Act→World→Prop} {ops:Array Oper}
def putAll:List Oper→Nat→(Nat→Value)→Act→Act
 | [],_,_,a=>a
 |o::l,k,u,a=>putAll l (k+1) u (a.put o.dst (u k))
def Deps (n:Nat) (T:Nat→Value→World→Prop) (u:Nat→Value) (w:World):List Edge→Prop
 | []=>True
 |e::es=>(Region.binds .any e=true→e.on<n→T e.on (u e.on) w)∧Deps n T u w es
def blk:Value→Nat
 | .pointer (some a)=>a.block
 |_=>0
def StepsAll (P:Program) (ops:Array Oper) (Q:Exit→Act→World→Prop) (n:Nat) (T:Nat→Value→World→Prop) (A:Nat→Bool) (w0:World) (a0:Act) (l0:List Oper):List Oper→Nat→Prop
 | [],_=>True
 |o::l,k=>(∀u w,Below w0.heap.size w0 w→Deps n T u w o.after.toList→
   wpList P ops (Exit.then (fun a' w'=> ∃v,a'=(putAll l0 0 u a0).put o.dst v∧T k v w'∧Below w.heap.size w w'∧(A k=true→w.heap.size≤blk v)) Q) [o] (putAll l0 0 u a0) w)∧StepsAll P ops Q n T A w0 a0 l0 l (k+1)
theorem upon_then {o:Oper} {a:Act} {K K2:Act→World→Prop} {r:Result Next} (h:o.upon P a K (Exit.then K2 Q) r):o.upon P a K Q r:=by
 cases r with
 |ok n w'=>cases n<;>exact h
 |halt x w'=>cases x<;>exact h
theorem wpOp_of_one {i:Nat} {o:Oper} {a:Act} {w:World} {K K':Act→World→Prop} (ho:ops[i]?=some o) (hK: ∀a w,K a w→K' a w) (h:wpList P ops (Exit.then K Q) [o] a w):wpOp P ops Q i K' a w:=by
 refine wpOp_mono hK ?_
 unfold wpOp
 simp only[ho]
 unfold wpList at h
 split
 ·rename_i hw
  rw[if_pos hw]at h
  rcases h with h|h
  ·exact Or.inl (upon_then h)
  ·exact Or.inr h
 ·rename_i hw
  rw[if_neg hw]at h
  exact h
theorem steps_at {n:Nat} {T:Nat→Value→World→Prop} {A:Nat→Bool} {w0:World} {a0:Act} {l0:List Oper} : ∀(l:List Oper) (k:Nat),StepsAll P ops Q n T A w0 a0 l0 l k→∀j o,l[j]?=some o→
  ∀u w,Below w0.heap.size w0 w→Deps n T u w o.after.toList→wpList P ops (Exit.then (fun a' w'=> ∃v,a'=(putAll l0 0 u a0).put o.dst v∧T (k+j) v w'∧Below w.heap.size w w'∧(A (k+j)=true→w.heap.size≤blk v)) Q) [o] (putAll l0 0 u a0) w
 | [],_,_,j,o,hj=>by simp at hj
 |p::l,k,h,0,o,hj=>by
  obtain rfl:p=o:=by simpa using hj
  exact h.1
 |p::l,k,h,j+1,o,hj=>by
  have:=steps_at l (k+1) h.2 j o (by simpa using hj)
  rw[show k+(j+1)=k+1+j by omega];exact this
theorem put_put (a:Act) (x:Option Tmp) (v u:Value):(a.put x v).put x u=a.put x u:=by
 cases x with
 |none=>rfl
 |some d=>simp[Act.put]
theorem putAll_comm: ∀(l:List Oper) (k:Nat) (u:Nat→Value) (a:Act) (d:Option Tmp) (v:Value),d∉l.map (·.dst)→(putAll l k u a).put d v=putAll l k u (a.put d v)
 | [],_,_,_,_,_,_=>rfl
 |o::l,k,u,a,d,v,h=>by
  have h1: ¬d=o.dst:=fun e=>h (by simp[e])
  have h2:d∉l.map (·.dst):=fun e=>h (by simp only[List.map_cons,List.mem_cons];exact Or.inr e)
  unfold putAll
  rw[putAll_comm l (k+1) u _ d v h2,Act.put_comm a (x:=o.dst) (y:=d) (u k) v (fun e he hd=>h1 (hd.trans he.symm))]
theorem putAll_congr: ∀(l:List Oper) (k:Nat) (u u':Nat→Value) (a:Act),(∀j,k≤j→u j=u' j)→putAll l k u a=putAll l k u' a
 | [],_,_,_,_,_=>rfl
 |o::l,k,u,u',a,h=>by
  unfold putAll
  rw[h k (Nat.le_refl _)]
  exact putAll_congr l (k+1) u u' _ fun j hj=>h j (by omega)
def upd (u:Nat→Value) (i:Nat) (v:Value):Nat→Value:=fun j=>if j=i then v else u j
theorem putAll_put: ∀(l:List Oper) (k:Nat) (u:Nat→Value) (a:Act) (i:Nat) (o:Oper) (v:Value),(l.map (·.dst)).Nodup→l[i]?=some o→(putAll l k u a).put o.dst v=putAll l k (upd u (k+i) v) a
 | [],_,_,_,i,_,_,_,hi=>by simp at hi
 |p::l,k,u,a,0,o,v,hd,hi=>by
  obtain rfl:p=o:=by simpa using hi
  rw[List.map_cons,List.nodup_cons]at hd
  unfold putAll
  rw[putAll_comm l (k+1) u _ _ v hd.1,put_put,show upd u (k+0) v k=v by simp[upd]]
  exact putAll_congr l (k+1) u _ _ fun j hj=>by unfold upd;rw[if_neg (by omega)]
 |p::l,k,u,a,i+1,o,v,hd,hi=>by
  rw[List.map_cons,List.nodup_cons]at hd
  unfold putAll
  rw[putAll_put l (k+1) u _ i o v hd.2 (by simpa using hi),show k+1+i=k+(i+1) by omega,show upd u (k+(i+1)) v k=u k by unfold upd;rw[if_neg (by omega)]]
def slot (a:Act):Option Tmp→Value
 |some d=>a.tmps.getD d undef
 |none=>undef
theorem put_slot (a:Act) (d:Option Tmp):a.put d (slot a d)=a:=by
 cases d with
 |none=>rfl
 |some d=>
  unfold Act.put slot
  have:a.tmps.setIfInBounds d (a.tmps.getD d undef)=a.tmps:=by
   apply Array.ext_getElem?
   intro k
   by_cases h:d=k
   ·subst h
    by_cases hs:d<a.tmps.size
    ·simp[hs]
    ·simp[Array.getElem?_eq_none (Nat.le_of_not_lt hs)];exact Nat.le_of_not_lt hs
   ·rw[Array.getElem?_setIfInBounds_ne h]
  simp only[this]
theorem putAll_self: ∀(l:List Oper) (k:Nat) (u:Nat→Value) (a:Act),(∀j o,l[j]?=some o→u (k+j)=slot a o.dst)→putAll l k u a=a
 | [],_,_,_,_=>rfl
 |o::l,k,u,a,h=>by
  unfold putAll
  rw[show u k=slot a o.dst from h 0 o rfl,put_slot]
  exact putAll_self l (k+1) u a fun j p hp=>by rw[show k+1+j=k+(j+1) by omega];exact h (j+1) p (by simpa using hp)
def mu (listed:Array Bool):Nat→Nat
 |0=>0
 |k+1=>mu listed k+if listed.getD k false=true then 0 else 1
theorem mu_zero {listed:Array Bool} : ∀k,mu listed k=0→∀i,i<k→listed.getD i false=true
 |0,_,i,hi=>by omega
 |k+1,h,i,hi=>by
  unfold mu at h
  by_cases hik:i=k
  ·subst hik
   by_cases hl:listed.getD i false=true
   ·exact hl
   ·rw[if_neg hl]at h;omega
  ·exact mu_zero k (by omega) i (by omega)
theorem mu_some {listed:Array Bool} : ∀k,0<mu listed k→∃i,i<k∧¬listed.getD i false=true∧∀j,j<i→listed.getD j false=true
 |0,h=>by simp[mu]at h
 |k+1,h=>by
  by_cases h0:0<mu listed k
  ·obtain⟨i,hi,h1,h2⟩:=mu_some k h0
   exact⟨i,by omega,h1,h2⟩
  ·refine⟨k,by omega,fun hl=>?_,fun j hj=>mu_zero k (by omega) j hj⟩
   unfold mu at h
   rw[if_pos hl]at h;omega
theorem mu_set_le {listed:Array Bool} {i:Nat} : ∀k,mu (listed.setIfInBounds i true) k≤mu listed k
 |0=>Nat.le_refl _
 |k+1=>by
  have:=mu_set_le (listed:=listed) (i:=i) k
  unfold mu
  by_cases hl:listed.getD k false=true
  ·rw[if_pos hl,if_pos (getD_set_true hl)];omega
  ·rw[if_neg hl];split<;>omega
theorem mu_set {listed:Array Bool} {i:Nat} (hi:i<listed.size) (hu: ¬listed.getD i false=true): ∀k,i<k→mu (listed.setIfInBounds i true) k+1≤mu listed k
 |0,h=>by omega
 |k+1,h=>by
  unfold mu
  by_cases hik:i=k
  ·subst hik
   have:=mu_set_le (listed:=listed) (i:=i) i
   rw[if_neg hu,if_pos (by simp[hi])];omega
  ·have:=mu_set hi hu k (by omega)
   rw[getD_set_ne false hik];omega
theorem wpAny_seq: ∀(l:List Oper) (k:Nat) (listed:Array Bool) (a:Act) (w:World) (f:Nat),l.length≤f→(∀j,l[j]?=ops[k+j]?)→
  Region.seqB .any ops l.length k listed=true→wpList P ops Q l a w→wpAny P .any ops Q f listed a w
 | [],_,_,_,_,0,_,_,hB,h=>⟨by simpa [Region.seqB] using hB,h⟩
 | [],_,listed,_,_,f+1,_,_,hB,h=>by
  have hr:Region.ready .any ops listed= []:=by simpa [Region.seqB] using hB
  exact⟨fun _=>h,fun i hi=>by rw[hr]at hi;cases hi⟩
 |o::l,k,listed,a,w,0,hf,_,_,_=>by simp at hf
 |o::l,k,listed,a,w,f+1,hf,hl,hB,h=>by
  have h0:ops[k]?=some o:=by simpa using(hl 0).symm
  simp only[Jq,Region.seqB,Bool.and_eq_true,decide_eq_true_eq]at hB
  refine⟨fun h1=>(by rw[hB.1]at h1;cases h1),fun i hi=>?_⟩
  rw[hB.1]at hi
  have hik:i=k:=by simpa using hi
  subst hik
  have hw:wpOp P ops Q i (wpList P ops Q l) a w:=by unfold wpOp;simp only[h0];exact h
  exact wpOp_mono (fun a' w' h'=>wpAny_seq l (i+1) _ a' w' f (by simpa using hf) (fun j=>by have:=hl (j+1);simpa [Nat.add_assoc,Nat.add_comm 1 j] using this) hB.2 h') hw
def reaches (l:List Oper) (f:Nat):Nat→Nat→Bool:=
 Nat.rec (motive:=fun _=>Nat→Nat→Bool) (fun k i=>Region.waitsFor .any l.toArray k i) (fun _ r k i=>Region.waitsFor .any l.toArray k i||(List.range k).any fun j=>Region.waitsFor .any l.toArray k j&&r j i) f
theorem reaches_listed {l:List Oper} {n:Nat} {listed:Array Bool} (inv:HeadInv .any l.toArray n listed): ∀(f k i:Nat),reaches l f k i=true→
  (∀o,l.toArray[k]?=some o→∀e∈o.after,Region.binds .any e=true→listed.getD e.on false=true)→listed.getD i false=true
 |0,k,i,h,hk=>by
  obtain⟨o,ho,e,he,hb,hon⟩:=Region.waitsFor_spec (show Region.waitsFor .any l.toArray k i=true from h)
  rw[←hon];exact hk o ho e he hb
 |f+1,k,i,h,hk=>by
  simp only[reaches,Bool.or_eq_true,List.any_eq_true,List.mem_range,Bool.and_eq_true]at h
  rcases h with h|⟨j,_,h1,h2⟩
  ·obtain⟨o,ho,e,he,hb,hon⟩:=Region.waitsFor_spec h
   rw[←hon];exact hk o ho e he hb
  ·obtain⟨o,ho,e,he,hb,hon⟩:=Region.waitsFor_spec h1
   have hj:listed.getD j false=true:=by rw[←hon];exact hk o ho e he hb
   exact reaches_listed inv f j i h2 fun o' ho'=>inv.closed j o' ho' hj
def mixB (l:List Oper) (n:Nat):Bool:=
 decide (n≤l.length)&&decide (((l.take n).map (·.dst)).Nodup)&&
 ((List.range n).all fun i=>match l[i]? with|some o=>o.after.all fun e=> !Region.binds .any e||decide (e.on<i)|none=>false)&&
 ((List.range l.length).all fun k=>decide (k<n)||(List.range n).all fun i=>reaches l n k i)&&
 Region.seqB .any l.toArray (l.length-n) n ((List.range l.length).map fun i=>decide (i<n)).toArray
theorem deps_of {n:Nat} {T:Nat→Value→World→Prop} {u:Nat→Value} {w:World} : ∀(es:List Edge),(∀e∈es,Region.binds .any e=true→e.on<n→T e.on (u e.on) w)→Deps n T u w es
 | [],_=>trivial
 |e::es,h=>⟨h e (by simp),deps_of es fun e' he'=>h e' (by simp[he'])⟩
theorem mix_all {l:List Oper} {n:Nat} {T:Nat→Value→World→Prop} {A:Nat→Bool} {w0:World} {a0:Act} (hB:mixB l n=true)
  (hT: ∀i v w w',T i v w→Below w.heap.size w w'→T i v w')
  (hA: ∀i v w,A i=true→T i v w→blk v<w.heap.size)
  (hs:StepsAll P l.toArray Q n T A w0 a0 (l.take n) (l.take n) 0)
  (hf: ∀u w,Below w0.heap.size w0 w→(∀i,i<n→T i (u i) w)→(∀i j,i<n→j<n→A i=true→A j=true→i≠j→blk (u i)≠blk (u j))→wpList P l.toArray Q (l.drop n) (putAll (l.take n) 0 u a0) w):
  ∀(f:Nat) (listed:Array Bool) (u:Nat→Value) (w:World),mu listed n≤f→HeadInv .any l.toArray n listed→Below w0.heap.size w0 w→(∀i,i<n→listed.getD i false=true→T i (u i) w)→(∀i j,i<n→j<n→A i=true→A j=true→listed.getD i false=true→listed.getD j false=true→i≠j→blk (u i)≠blk (u j))→
   wpAny P .any l.toArray Q (f+(l.length-n)) listed (putAll (l.take n) 0 u a0) w:=by
 simp only[mixB,Bool.and_eq_true,decide_eq_true_eq,List.all_eq_true,List.mem_range,Bool.or_eq_true]at hB
 obtain⟨⟨⟨⟨hn,hd⟩,h1⟩,h2⟩,h3⟩:=hB
 have done: ∀(f:Nat) (listed:Array Bool) (u:Nat→Value) (w:World),mu listed n=0→HeadInv .any l.toArray n listed→Below w0.heap.size w0 w→(∀i,i<n→listed.getD i false=true→T i (u i) w)→(∀i j,i<n→j<n→A i=true→A j=true→listed.getD i false=true→listed.getD j false=true→i≠j→blk (u i)≠blk (u j))→
   wpAny P .any l.toArray Q (f+(l.length-n)) listed (putAll (l.take n) 0 u a0) w:=by
  intro f listed u w hmu inv hb ht hdj
  have hall:=mu_zero n hmu
  have hls:listed.size=l.length:=by rw[inv.size];simp
  have he:listed=((List.range l.length).map fun i=>decide (i<n)).toArray:=by
   apply Array.ext (by simp[hls])
   intro i hi hi2
   simp only[List.getElem_toArray,List.getElem_map,List.getElem_range]
   by_cases hin:i<n
   ·have:=hall i hin
    simp[hi]at this
    simp[this,hin]
   ·have:=inv.tail i (by omega) (by simpa using(by omega:i<l.length))
    simp[hi]at this
    simp[this,hin]
  refine wpAny_seq (l.drop n) n listed _ w _ (by simp) (fun j=>by simp[List.getElem?_drop]) (by rw[he,List.length_drop];exact h3) (hf u w hb (fun i hi=>ht i hi (hall i hi)) fun i j hi hj ai aj=>hdj i j hi hj ai aj (hall i hi) (hall j hj))
 intro f
 induction f with
 |zero=>intro listed u w hmu inv hb ht hdj;exact done 0 listed u w (by omega) inv hb ht hdj
 |succ f ih=>
  intro listed u w hmu inv hb ht hdj
  by_cases h0:mu listed n=0
  ·exact done _ listed u w h0 inv hb ht hdj
  ·obtain⟨m,hmn,hmu1,hmu2⟩:=mu_some n (by omega:0<mu listed n)
   have hls:listed.size=l.length:=by rw[inv.size];simp
   rw[show f+1+(l.length-n)=f+(l.length-n)+1 by omega]
   refine⟨fun hr=>?_,fun i hi=>?_⟩
   ·have hm:m∈Region.ready .any l.toArray listed:=by
     rw[mem_ready]
     refine⟨getD_in (by omega) (by simpa using hmu1),?_⟩
     have:=h1 m hmn
     cases ho:l[m]? with
     |none=>rw[ho]at this;simp at this
     |some o=>
      rw[ho]at this
      refine⟨o,by simpa using ho,fun e he hbd=>hmu2 e.on ?_⟩
      simp only[Array.all_eq_true_iff_forall_mem]at this
      have:=this e he
      rw[hbd]at this
      simpa using this
    rw[hr]at hm;cases hm
   ·obtain⟨hun,o,ho,hall⟩:=mem_ready.1 hi
    have hil:i<l.length:=by have:=(Array.getElem?_eq_some_iff.1 ho).1;simpa using this
    have hin:i<n:=by
     rcases h2 i hil with h|h
     ·exact h
     ·refine(hmu1 (reaches_listed inv n i m (h m hmn) fun o' ho'=>?_)).elim
      have:o'=o:=Option.some.inj (ho'.symm.trans ho)
      subst this
      exact hall
    have ho2:(l.take n)[i]?=some o:=by rw[List.getElem?_take_of_lt hin];simpa using ho
    have hst:=steps_at (l.take n) 0 hs i o ho2 u w hb (deps_of _ fun e he hbd hen=>ht e.on hen (hall e (by simpa using he) hbd))
    refine wpOp_of_one ho (fun a' w' hK=>?_) hst
    obtain⟨v,rfl,htv,hbel,hnew⟩:=hK
    rw[Nat.zero_add]at htv hnew
    rw[putAll_put (l.take n) 0 u a0 i o v hd ho2,Nat.zero_add]
    have hun': ¬listed.getD i false=true:=by rw[getD_both hun];simp
    refine ih _ _ w' ?_ (inv.set hi hin) (hb.trans (hbel.mono hb.size)) (fun j hj hl=>?_) (fun j k hj hk aj ak lj lk hjk=>?_)
    ·have:=mu_set (by omega) hun' n hin;omega
    ·by_cases hji:j=i
     ·subst hji;simpa [upd] using htv
     ·rw[show upd u i v j=u j by unfold upd;rw[if_neg hji]]
      rw[getD_set_ne false (Ne.symm hji)]at hl
      exact hT j _ w w' (ht j hj hl) hbel
    ·by_cases hji:j=i
     ·subst hji
      rw[getD_set_ne false hjk]at lk
      rw[show upd u j v j=v by simp[upd],show upd u j v k=u k by unfold upd;rw[if_neg (Ne.symm hjk)]]
      have:=hA k _ w ak (ht k hk lk)
      have:=hnew aj
      omega
     ·rw[getD_set_ne false (Ne.symm hji)]at lj
      by_cases hki:k=i
      ·subst hki
       rw[show upd u k v k=v by simp[upd],show upd u k v j=u j by unfold upd;rw[if_neg hji]]
       have:=hA j _ w aj (ht j hj lj)
       have:=hnew ak
       omega
      ·rw[getD_set_ne false (Ne.symm hki)]at lk
       rw[show upd u i v j=u j by unfold upd;rw[if_neg hji],show upd u i v k=u k by unfold upd;rw[if_neg hki]]
       exact hdj j k hj hk aj ak lj lk hjk
theorem wp_region_mix {l:List Oper} {id:Nat} {a0:Act} {w0:World} (n:Nat) (T:Nat→Value→World→Prop) (A:Nat→Bool) (hm:P.follows .mixedOrders=true) (hB:mixB l n=true)
  (hT: ∀i v w w',T i v w→Below w.heap.size w w'→T i v w')
  (hA: ∀i v w,A i=true→T i v w→blk v<w.heap.size)
  (hs:StepsAll P l.toArray Q n T A w0 a0 (l.take n) (l.take n) 0)
  (hf: ∀u w,Below w0.heap.size w0 w→(∀i,i<n→T i (u i) w)→(∀i j,i<n→j<n→A i=true→A j=true→i≠j→blk (u i)≠blk (u j))→wpList P l.toArray Q (l.drop n) (putAll (l.take n) 0 u a0) w):(Code.region id l.toArray true).wp P Q a0 w0:=by
 refine wp_region_any hm ?_
 have inv0:HeadInv .any l.toArray n (Array.replicate l.toArray.size false):=
  ⟨by simp,fun j oj _ hl=>(by rw[getD_replicate_false]at hl;cases hl),fun t _ ht=>getD_in (by simpa using ht) (getD_replicate_false _ _)⟩
 have hn:n≤l.length:=by simp only[mixB,Bool.and_eq_true,decide_eq_true_eq]at hB;exact hB.1.1.1.1
 have hmu:mu (Array.replicate l.toArray.size false) n≤n:=by
  have: ∀(s:Array Bool) k,mu s k≤k:=fun s k=>by
   induction k with
   |zero=>simp[mu]
   |succ k ih=>unfold mu;split<;>omega
  exact this _ _
 have h:=mix_all (P:=P) (Q:=Q) hB hT hA hs hf n (Array.replicate l.toArray.size false) (fun i=>match (l.take n)[i]? with|some o=>slot a0 o.dst|none=>undef) w0.drew hmu inv0 (Below.refl _ _).drew
  (fun i _ hl=>by rw[getD_replicate_false]at hl;cases hl) (fun i j _ _ _ _ hl=>by rw[getD_replicate_false]at hl;cases hl)
 rw[putAll_self (l.take n) 0 _ a0 (fun j o hj=>by simp only[Nat.zero_add,hj])]at h
 rw[show n+(l.length-n)=l.toArray.size by simp;omega]at h
 exact h
end
def TLst (l:List Value) (k:Nat) (v:Value) (_w:World):Prop:=v=l.getD k undef
end
section
open Go.ChangeShapes Go.WideShapes Go.ChangeAt Go.RowKit Go.Joins Go.Deep
theorem cells_one_int:Tryd.prog.cellsOf 3=1:=by kernel_rfl
theorem cells_one_str:Tryd.prog.cellsOf 9=1:=by kernel_rfl
theorem cells_one_u64:Tryd.prog.cellsOf 50=1:=by kernel_rfl
structure TokWf (k:Int) (s:ByteArray) (n a b:Int):Prop where
 k0:(Lit.int .i64 k).wf=true
 s0:s.size≤maxLen
 n0:(Lit.int .u64 n).wf=true
 a0:(Lit.int .i64 a).wf=true
 b0:(Lit.int .i64 b).wf=true
def tokD {H:Type} (k:Int) (s:ByteArray) (n a b:Int):DataW H:= .agg [.lit (.int .i64 k), .lit (.string s.data.toList), .lit (.int .u64 n), .agg [.lit (.int .i64 a), .lit (.int .i64 b)]]
end
section
open Go.ChangeShapes Go.WideShapes Go.ChangeAt Go.RowKit Go.Joins Go.Deep
structure TokQ where
 k:Int:=0
 s:ByteArray:=⟨#[]⟩
 n:Int:=0
 a:Int:=0
 b:Int:=0
structure TokQ.Ok (x:TokQ):Prop where
 k0: -9223372036854775808≤x.k∧x.k≤9223372036854775807
 n0:0≤x.n∧x.n≤18446744073709551615
 s0:x.s.size≤9223372036854775807
def ToksIs (W:World) (v:Value) (l:List TokQ):Prop:=
 ∃a cap,v= .slice a l.length cap∧l.length≤cap∧∀i,i<l.length→∃b off,a=some ⟨b,off,none⟩∧W.cell? ⟨b,off+i*5,none⟩=some (.int .i64 (l.getD i {}).k)∧W.cell? ⟨b,off+i*5+1,none⟩=some (.string (l.getD i {}).s)∧
  W.cell? ⟨b,off+i*5+2,none⟩=some (.int .u64 (l.getD i {}).n)∧W.cell? ⟨b,off+i*5+3,none⟩=some (.int .i64 (l.getD i {}).a)∧W.cell? ⟨b,off+i*5+4,none⟩=some (.int .i64 (l.getD i {}).b)
theorem add_none5 (a:Addr):a.add 0=a:=by cases a;simp[Addr.add]
theorem add_plain5 (b off n:Nat):(⟨b,off,none⟩:Addr).add n=⟨b,off+n,none⟩:=by unfold Addr.add;split<;>simp_all
def GapsIs (W:World) (v:Value) (l:List Int):Prop:= ∃a cap,v= .slice a l.length cap∧l.length≤cap∧∀i,i<l.length→∃b off,a=some ⟨b,off,none⟩∧W.cell? ⟨b,off+i,none⟩=some (.int .u8 (l.getD i 0))
end
section
open Go.RowKit
def CellsAt (sz:Nat) (w:World) (a:Option Addr) (ys:List (List Value)):Prop:=
 (∀u∈ys,u.length=sz)∧∀i,i<ys.length→∃b off,a=some ⟨b,off,none⟩∧∀j,j<sz→w.cell? ⟨b,off+i*sz+j,none⟩=some ((ys.getD i []).getD j undef)
theorem add_plainK (b off n:Nat):(⟨b,off,none⟩:Addr).add n=⟨b,off+n,none⟩:=by unfold Addr.add;split<;>simp_all
theorem flatten_len {sz:Nat} : ∀(ys:List (List Value)),(∀u∈ys,u.length=sz)→ys.flatten.length=ys.length*sz
 | [],_=>by simp
 |u::ys,h=>by
  rw[List.flatten_cons,Kq,h u (Jy ..),flatten_len ys (fun x hx=>h x (Jx _ hx)),Jq,Nat.add_mul]
  omega
theorem CellsAt.flat {sz:Nat} {w:World} {b off:Nat} {ys:List (List Value)} (h:CellsAt sz w (some ⟨b,off,none⟩) ys) (hsz:0<sz): ∀j u,ys.flatten[j]?=some u→w.cell? ((⟨b,off,none⟩:Addr).add j)=some u:=fun j u hj=>by
 have hlt:=(List.getElem?_eq_some_iff.1 hj).1
 rw[flatten_len ys h.1]at hlt
 have hi:j/sz<ys.length:=Nat.div_lt_of_lt_mul (by rw[Nat.mul_comm];exact hlt)
 have hk:j%sz<sz:=Nat.mod_lt _ hsz
 obtain⟨b',off',e,hc⟩:=h.2 (j/sz) hi
 injection e with e
 injection e with e1 e2
 subst e1 e2
 have hx:=hc (j%sz) hk
 have hg:=getD_flatten ys (j/sz) (j%sz) h.1 hi hk
 have ej:j/sz*sz+j%sz=j:=by rw[Nat.mul_comm];exact Nat.div_add_mod j sz
 rw[ej]at hg
 rw[hg]at hj
 injection hj with hj
 have e2:off+j/sz*sz+j%sz=off+j:=by omega
 rw[e2]at hx
 rw[add_plainK,←hj]
 exact hx
theorem run_rowKs {w:World} {T t:TypeId} {z:Value} {sz bts:Nat} (hT:Tryd.prog.underlying T=some (.slice t)) (hinf:(Tryd.prog.info? t).map (fun i=>(i.zero,i.size,i.bytes))=some (some z,sz,bts)) (hzs:z.cells.size=sz) (hsz:0<sz) (hbt:bts≤128)
  (base:Nat) (v:Value) (vs:List (List Value)) (hown:RowK t sz w base v vs) (a:Option Addr) (c:Nat) (ys:List (List Value)) (hcell:CellsAt sz w a ys) (hy: ∀u∈ys,∀x∈u,x.oneCell'=true) (hlen:vs.length+ys.length≤1000000) (hbase:base≤w.heap.size) (ty:TypeId):
  ∃v' w',(Builtin.append_ #[T,T] ty #[v, .slice a ys.length c]).run Tryd.prog w= .ok v' w'∧RowK t sz w' base v' (vs++ys)∧OnlyO base (fun i=>some i=v.ownBlock) w w'∧(v'.ownBlock=v.ownBlock∨v'.ownBlock=some w.heap.size):=by
 obtain⟨i0,hi,hz0,hz1,hz2⟩:=info_parts hinf
 cases a with
 |some ad=>
  obtain⟨b,off,sp⟩:=ad
  have hby:(vs.length+ys.length)*bts≤1000000*128:=Nat.mul_le_mul hlen hbt
  have hnews: ∀j u,ys.flatten[j]?=some u→w.cell? ((⟨b,off,sp⟩:Addr).add j)=some u:=by
   cases ys with
   |nil=>intro j u hj;simp at hj
   |cons y ys=>
    obtain⟨b',off',e,_⟩:=hcell.2 0 (by simp)
    injection e with e
    injection e with e1 e2 e3
    subst e3
    exact hcell.flat hsz
  obtain⟨v',w',hr,h2,h3,h4,h5⟩:=run_append_own_at (P:=Tryd.prog) w base T ty t i0 z sz bts hT hi hz0 hz1 hz2 hzs hsz v vs.length vs.flatten hown.own ⟨b,off,sp⟩ ys.length c ys.flatten (flatten_len ys hcell.1) hnews
   (fun u hu=>by obtain⟨y,hy1,hy2⟩:=List.mem_flatten.mp hu;exact hy y hy1 u hy2) (by unfold maxLen;omega) (by omega) hbase
  refine⟨v',w',hr,⟨?_,fun u hm=>?_,fun u hm=>?_⟩,⟨(Below.refl base w).grown h3 hbase (fun b hk=>(hown.lt hk).1),fun i hi hne=>h3.block i hi hne⟩,h5⟩
  ·rw[Kq,List.flatten_append]
   exact h2
  ·rcases List.mem_append.mp hm with hm|hm
   ·exact hown.wid u hm
   ·exact hcell.1 u hm
  ·rcases List.mem_append.mp hm with hm|hm
   ·exact hown.one u hm
   ·exact hy u hm
 |none=>
  have h0:ys= []:=by
   cases ys with
   |nil=>rfl
   |cons y ys=>obtain⟨b',off',e,_⟩:=hcell.2 0 (by simp);cases e
  subst h0
  refine⟨v,w,?_,by rw[List.append_nil];exact hown,⟨Below.refl _ _,fun _ _ _=>rfl⟩,Or.inl rfl⟩
  rcases hown.own.2 with⟨rfl,hn⟩|⟨g,cap,cur,rfl,_,hg,hnc,_,_,_⟩
  ·simp[Builtin.append_,run_underlying hT,sizeOf,typeInfo,hi,Builtin.lenOf,Builtin.firstCells]
  ·simp[Builtin.append_,run_underlying hT,sizeOf,typeInfo,hi,Builtin.lenOf,hnc,Builtin.firstCells,loadCells,storeCells]
theorem wp_rowKs {w:World} {ops:Array Oper} {rest:List Oper} {o:Oper} {a:Act} {Q:Exit→Act→World→Prop} {T t:TypeId} {z:Value} {sz bts:Nat} (hgd:o.guard=none) (s x:Operand)
  (ho:o.op= .call { callee:= .builtin .append,args:= #[s,x],argTypes:= #[T,T] }) (hT:Tryd.prog.underlying T=some (.slice t)) (hinf:(Tryd.prog.info? t).map (fun i=>(i.zero,i.size,i.bytes))=some (some z,sz,bts)) (hzs:z.cells.size=sz) (hsz:0<sz) (hbt:bts≤128)
  (base:Nat) (v:Value) (vs:List (List Value)) (hs:a.eval s=v) (hown:RowK t sz w base v vs) (ad:Option Addr) (n c:Nat) (ys:List (List Value)) (hx:a.eval x= .slice ad n c) (hn:n=ys.length) (hcell:CellsAt sz w ad ys) (hy: ∀u∈ys,∀x∈u,x.oneCell'=true)
  (hlen:vs.length+ys.length≤1000000) (hbase:base≤w.heap.size)
  (h: ∀v' w',RowK t sz w' base v' (vs++ys)→OnlyO base (fun i=>some i=v.ownBlock) w w'→(v'.ownBlock=v.ownBlock∨v'.ownBlock=some w.heap.size)→wpList Tryd.prog ops Q rest (a.put o.dst v') w'):wpList Tryd.prog ops Q (o::rest) a w:=by
 subst hn
 obtain⟨v',w',hr,h1,h2,h3⟩:=run_rowKs hT hinf hzs hsz hbt base v vs hown ad c ys hcell hy hlen hbase o.type
 exact Lib.wpList_append_run w hgd s x _ _ ho v _ hs hx _ w' hr (h v' w' h1 h2 h3)
end
section
open Go.RowKit
theorem flatten_take {sz:Nat} : ∀(vs:List (List Value)) (m:Nat),(∀u∈vs,u.length=sz)→(vs.take m).flatten=vs.flatten.take (m*sz)
 | [],m,_=>by simp
 |u::vs,0,_=>by simp
 |u::vs,m+1,h=>by
  have h1:=h u (Jy ..)
  rw[List.take_succ_cons,List.flatten_cons,List.flatten_cons,flatten_take vs m (fun x hx=>h x (Jx _ hx)),List.take_append]
  have e1:(m+1)*sz=u.length+m*sz:=by rw[Nat.add_mul,h1];omega
  rw[e1,List.take_of_length_le (l:=u) (by omega),Nat.add_sub_cancel_left]
theorem RowK.take {t:TypeId} {sz:Nat} {w:World} {base g n cap:Nat} {vs:List (List Value)} (h:RowK t sz w base (.slice (some ⟨g,0,none⟩) n cap) vs) (m:Nat) (hm:m≤vs.length):RowK t sz w base (.slice (some ⟨g,0,none⟩) m cap) (vs.take m):=by
 obtain⟨⟨h1,h2⟩,hw,ho⟩:=h
 have hml:(vs.take m).length=m:=by rw[List.length_take];omega
 refine⟨⟨?_,?_⟩,fun u hu=>hw u (List.mem_of_mem_take hu),fun u hu=>ho u (List.mem_of_mem_take hu)⟩
 ·rw[flatten_take vs m hw,List.length_take,h1,hml]
  have:m*sz≤vs.length*sz:=Nat.mul_le_mul_right _ hm
  omega
 ·rcases h2 with⟨e,_⟩|⟨g',cap',cur,e,hb,hg,hnc,hcm,hcs,ht⟩
  ·cases e
  ·simp only[Value.slice.injEq,Option.some.injEq,Addr.mk.injEq,and_true]at e
   obtain⟨rfl,rfl,rfl⟩:=e
   refine Or.inr ⟨g,cap,cur,by rw[hml],hb,hg,by omega,hcm,hcs,?_⟩
   rw[flatten_take vs m hw,←ht,List.take_take,hml]
   have:m*sz≤vs.length*sz:=Nat.mul_le_mul_right _ hm
   rw[Nat.min_eq_left this]
end
section
open Go.RowKit
structure VarL (w:World) (p:Nat) (l:List Value):Prop where
 at': ∀i v,l[i]?=some v→w.cell? ⟨p,i,none⟩=some v∧w.frozen? ⟨p,i,none⟩=false
 s:p<w.heap.size
theorem VarL.c {w:World} {p:Nat} {l:List Value} (h:VarL w p l) (i:Nat) {v:Value} (e:l[i]?=some v):w.cell? ⟨p,i,none⟩=some v:=(h.at' i v e).1
theorem VarL.q {w:World} {p:Nat} {l:List Value} (h:VarL w p l) (i:Nat) {v:Value} (e:l[i]?=some v):w.frozen? ⟨p,i,none⟩=false:=(h.at' i v e).2
theorem VarL.stay {w w':World} {p:Nat} {l:List Value} (h:VarL w p l) (e:w'.heap[p]?=w.heap[p]?):VarL w' p l:=
 ⟨fun i v hi=>⟨(World.cell?_of_block (a:=⟨p,i,none⟩) e).trans (h.c i hi),(World.frozen?_of_block (a:=⟨p,i,none⟩) e).trans (h.q i hi)⟩,by
  have h1:=(Array.getElem?_eq_some_iff (xs:=w.heap) (i:=p) (b:=w.heap[p]'h.s)).mpr ⟨h.s,rfl⟩
  rw[←e]at h1
  exact(Array.getElem?_eq_some_iff.1 h1).1⟩
theorem VarL.after {w w':World} {p:Nat} {l:List Value} (h:VarL w p l) (hb:Below w.heap.size w w'):VarL w' p l:=h.stay (hb.block p h.s)
theorem VarL.set {w:World} {p:Nat} {l:List Value} (h:VarL w p l) (i:Nat) (x:Value) (hi:i<l.length):VarL (w.setCell ⟨p,i,none⟩ x) p (l.set i x):=by
 refine⟨fun j v hj=>?_,by simpa using h.s⟩
 rw[World.frozen?_setCell]
 by_cases hij:i=j
 ·subst hij
  rw[List.getElem?_set_self hi]at hj
  injection hj with hj
  subst hj
  have e:=h.c i (List.getElem?_eq_getElem hi)
  exact⟨World.cell?_setCell_same' _ _ _ (by rw[e];rfl),h.q i (List.getElem?_eq_getElem hi)⟩
 ·rw[List.getElem?_set_ne hij]at hj
  refine⟨?_,h.q j hj⟩
  have hne:(⟨p,i,none⟩:Addr)≠⟨p,j,none⟩:=fun e=>hij (by injection e)
  exact(World.cell?_setCell_other w _ _ _ hne).trans (h.c j hj)
theorem VarL.fresh (w:World) (l:List Value) (t:TypeId):VarL (w.alloc (.cells l.toArray t)) w.heap.size l:=by
 refine⟨fun i v hi=>⟨?_,by simp[go_sem]⟩,by simp⟩
 rw[World.cell?_alloc_new]
 simpa using hi
def putL (p:Nat):Nat→List Value→World→World
 |_,[],w=>w
 |i,x::xs,w=>putL p (i+1) xs (w.setCell ⟨p,i,none⟩ x)
theorem putL_below (p:Nat) {n:Nat} (hn:n≤p): ∀(xs:List Value) (i:Nat) {w w':World},Below n w w'→Below n w (putL p i xs w')
 | [],_,_,_,h=>h
 |x::xs,i,_,_,h=>putL_below p hn xs (i+1) (h.setCell (p:=⟨p,i,none⟩) hn x)
theorem putL_var {p:Nat} : ∀(xs ys zs:List Value) (w:World),VarL w p (ys++zs)→zs.length=xs.length→VarL (putL p ys.length xs w) p (ys++xs)
 | [],ys,zs,w,h,hl=>by
  obtain rfl:zs= []:=List.eq_nil_of_length_eq_zero (by simpa using hl)
  exact h
 |x::xs,ys,z::zs,w,h,hl=>by
  rw[putL]
  have h1:=h.set ys.length x (by simp)
  have e:(ys++z::zs).set ys.length x=(ys++ [x])++zs:=by rw[List.set_append_right _ _ (Nat.le_refl _)];simp
  rw[e]at h1
  have:=putL_var xs (ys++ [x]) zs _ h1 (by simpa using hl)
  rw[Kq,List.length_singleton,List.append_assoc]at this
  exact this
 |_::_,_,[],_,_,hl=>by cases hl
theorem boxL (w:World) (xs:List Value) (t:TypeId): ∃g W,w.heap.size=g∧w.alloc (.cells xs.toArray t)=W∧VarL W g xs∧Below w.heap.size w W∧W.heap.size=g+1:=
 ⟨w.heap.size,_,rfl,rfl,VarL.fresh w xs t,(Below.refl _ _).alloc (Nat.le_refl _) _,by simp⟩
structure Frm (O:Foot) (w w':World):Prop where
 os:w'.os=w.os
 tape:w'.tape=w.tape
 output:w'.output=w.output
 size:w.heap.size≤w'.heap.size
 keep: ∀i,i<w.heap.size→¬O i→w'.heap[i]?=w.heap[i]?
end
end Go.Proofs.YtgmfkbamfnkbgaaDoor
