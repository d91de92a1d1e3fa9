/-
  Package ppm, walked: Right, Print, Rest, Part, Cut, Share: each by what its numbers are.
-/
import Derived.Test.YtalcagmhdppdjaaGreatDoorPkCompileTurns01
import Derived.Test.YtalcagmhdppdjaaGreatDoorRows
import Derived.ProofKit
import Derived.OpenShut
import Derived.ChangeArms
import Derived.Lib.SmallJoins
import Derived.Deep.Strs
import Derived.Deep.Slices
import Derived.ChangeOld
import Derived.WalkLawsBesides
import Derived.Lib.OthersKept
import Derived.KernelRfl
import Derived.Deep.OwnRows
import Derived.Deep.LoopGhost
import Derived.Laws.Externs
import Derived.Shelf.Spec.BitsCarry
import Derived.Deep.QuietTactic
import Derived.BigQuiet
import Derived.Deep.Cut
import Derived.Deep.CutRange
import Derived.Deep.DeepCutAuto
import Derived.Deep.CutBlock
import Derived.Lib.ItoaNum
import Derived.Laws.BitsAllLaws
import Derived.Deep.RegionHeld3
import Derived.StillTactics
import Derived.Laws.Pointers
import Derived.Test.YtalcagmhdppdjaaGreatDoorChecked
import Derived.Lib.AppendIntMem
import Derived.Lib.LaidTab
import Derived.Stop.LaidErr
set_option maxRecDepth 100000
set_option maxHeartbeats 2000000
namespace Go.Proofs.YtalcagmhdppdjaaGreatDoor
open Lib renaming hid→Lh
open Nat renaming zero_add→Ly,le_refl→Mz
open Go.RowKit.Below renaming refl→Mj
section
open Go.RowKit
theorem putAll_none: ∀(l:List Oper) (k:Nat) (u:Nat→Value) (a:Act) (i:Nat) (o:Oper) (v:Value),l[i]?=some o→o.dst=none→putAll l k (upd u (k+i) v) a=putAll l k u a
 | [],_,_,_,i,_,_,hi,_=>by simp at hi
 |p::l,k,u,a,0,o,v,hi,ho=>by
  obtain rfl:p=o:=by simpa using hi
  unfold putAll
  rw[ho]
  show putAll l (k+1) (upd u (k+0) v) a=putAll l (k+1) u a
  exact putAll_congr l (k+1) _ _ _ fun j hj=>by unfold upd;rw[if_neg (by omega)]
 |p::l,k,u,a,i+1,o,v,hi,ho=>by
  unfold putAll
  rw[show upd u (k+(i+1)) v k=u k by unfold upd;rw[if_neg (by omega)],show k+(i+1)=k+1+i by omega]
  exact putAll_none l (k+1) u _ i o v (by simpa using hi) ho
theorem putAll_some: ∀(l:List Oper) (k:Nat) (u:Nat→Value) (a:Act) (i:Nat) (o:Oper) (d:Tmp) (v:Value),(l.filterMap (·.dst)).Nodup→l[i]?=some o→o.dst=some d→(putAll l k u a).put (some d) v=putAll l k (upd u (k+i) v) a
 | [],_,_,_,i,_,_,_,_,hi,_=>by simp at hi
 |p::l,k,u,a,0,o,d,v,hd,hi,ho=>by
  obtain rfl:p=o:=by simpa using hi
  rw[List.filterMap_cons_some ho,List.nodup_cons]at hd
  unfold putAll
  rw[putAll_comm l (k+1) u _ (some d) v (fun hm=>hd.1 (by obtain⟨q,hq,e⟩:=List.mem_map.mp hm;exact List.mem_filterMap.mpr ⟨q,hq,e⟩)),ho,put_put,show upd u (k+0) v k=v by simp[upd]]
  exact putAll_congr l (k+1) u _ _ fun j hj=>by unfold upd;rw[if_neg (by omega)]
 |p::l,k,u,a,i+1,o,d,v,hd,hi,ho=>by
  unfold putAll
  rw[putAll_some l (k+1) u _ i o d v (List.Nodup.sublist ((List.sublist_cons_self p l).filterMap _) hd) (by simpa using hi) ho,show k+1+i=k+(i+1) by omega,show upd u (k+(i+1)) v k=u k by unfold upd;rw[if_neg (by omega)]]
theorem putAll_put2 (l:List Oper) (k:Nat) (u:Nat→Value) (a:Act) (i:Nat) (o:Oper) (v:Value) (hd:(l.filterMap (·.dst)).Nodup) (hi:l[i]?=some o):(putAll l k u a).put o.dst v=putAll l k (upd u (k+i) v) a:=by
 cases ho:o.dst with
 |none=>exact(putAll_none l k u a i o v hi ho).symm
 |some d=>exact putAll_some l k u a i o d v hd hi ho
def mixC (l:List Oper) (n:Nat):Bool:=
 decide (n≤l.length)&&decide (((l.take n).filterMap (·.dst)).Nodup)&&
 ((List.range n).all fun i=>match l[i]? with|some o=>o.after.all fun e=> !Region.binds .any e||decide (e.on<i)|none=>false)&&
 ((List.range l.length).all fun k=>decide (k<n)||(List.range n).all fun i=>reaches l n k i)&&
 Region.seqB .any l.toArray (l.length-n) n ((List.range l.length).map fun i=>decide (i<n)).toArray
section
variable {P:Program} {Q:Exit→Act→World→Prop} {ops:Array Oper}
theorem mixv_all {l:List Oper} {n:Nat} {T:Nat→Value→World→Prop} {J:(Nat→Value)→(Nat→Bool)→World→Prop} {a0:Act} (hB:mixC l n=true)
  (hs:StepsU P l.toArray Q n T J a0 (l.take n) (l.take n) 0)
  (hf: ∀u w L,(∀i,i<n→L i=true)→J u L w→(∀i,i<n→T i (u i) w)→wpList P l.toArray Q (l.drop n) (putAll (l.take n) 0 u a0) w):
  ∀(f:Nat) (listed:Array Bool) (u:Nat→Value) (w:World),mu listed n≤f→HeadInv .any l.toArray n listed→J u (fun i=>listed.getD i false) w→(∀i,i<n→listed.getD i false=true→T i (u i) w)→
   wpAny P .any l.toArray Q (f+(l.length-n)) listed (putAll (l.take n) 0 u a0) w:=by
 simp only[mixC,Bool.and_eq_true,decide_eq_true_eq,List.all_eq_true,List.mem_range,Bool.or_eq_true]at hB
 obtain⟨⟨⟨⟨hn,hd⟩,h1⟩,h2⟩,h3⟩:=hB
 have done: ∀(f:Nat) (listed:Array Bool) (u:Nat→Value) (w:World),mu listed n=0→HeadInv .any l.toArray n listed→J u (fun i=>listed.getD i false) w→(∀i,i<n→listed.getD i false=true→T i (u i) w)→
   wpAny P .any l.toArray Q (f+(l.length-n)) listed (putAll (l.take n) 0 u a0) w:=by
  intro f listed u w hmu inv hb ht
  have hall:=mu_zero n hmu
  have hls:listed.size=l.length:=by rw[inv.size];simp
  have he:listed=((List.range l.length).map fun i=>decide (i<n)).toArray:=by
   apply Array.ext (by simp[hls])
   intro i hi hi2
   simp only[List.getElem_toArray,List.getElem_map,List.getElem_range]
   by_cases hin:i<n
   ·have:=hall i hin
    simp[hi]at this
    simp[this,hin]
   ·have:=inv.tail i (by omega) (by simpa using(by omega:i<l.length))
    simp[hi]at this
    simp[this,hin]
  refine wpAny_seq (l.drop n) n listed _ w _ (by simp) (fun j=>by simp[List.getElem?_drop]) (by rw[he,List.length_drop];exact h3) (hf u w _ hall hb (fun i hi=>ht i hi (hall i hi)))
 intro f
 induction f with
 |zero=>intro listed u w hmu inv hb ht;exact done 0 listed u w (by omega) inv hb ht
 |succ f ih=>
  intro listed u w hmu inv hb ht
  by_cases h0:mu listed n=0
  ·exact done _ listed u w h0 inv hb ht
  ·obtain⟨m,hmn,hmu1,hmu2⟩:=mu_some n (by omega:0<mu listed n)
   have hls:listed.size=l.length:=by rw[inv.size];simp
   rw[show f+1+(l.length-n)=f+(l.length-n)+1 by omega]
   refine⟨fun hr=>?_,fun i hi=>?_⟩
   ·have hm:m∈Region.ready .any l.toArray listed:=by
     rw[mem_ready]
     refine⟨getD_in (by omega) (by simpa using hmu1),?_⟩
     have:=h1 m hmn
     cases ho:l[m]? with
     |none=>rw[ho]at this;simp at this
     |some o=>
      rw[ho]at this
      refine⟨o,by simpa using ho,fun e he hbd=>hmu2 e.on ?_⟩
      simp only[Array.all_eq_true_iff_forall_mem]at this
      have:=this e he
      rw[hbd]at this
      simpa using this
    rw[hr]at hm;cases hm
   ·obtain⟨hun,o,ho,hall⟩:=mem_ready.1 hi
    have hil:i<l.length:=by have:=(Array.getElem?_eq_some_iff.1 ho).1;simpa using this
    have hin:i<n:=by
     rcases h2 i hil with h|h
     ·exact h
     ·refine(hmu1 (reaches_listed inv n i m (h m hmn) fun o' ho'=>?_)).elim
      have:o'=o:=Option.some.inj (ho'.symm.trans ho)
      subst this
      exact hall
    have ho2:(l.take n)[i]?=some o:=by rw[List.getElem?_take_of_lt hin];simpa using ho
    have hun': ¬listed.getD i false=true:=by rw[getD_both hun];simp
    have hunf:listed.getD i false=false:=by simpa using hun'
    have hst:=stepsU_at (l.take n) 0 hs i o ho2 u w (fun i=>listed.getD i false) (by rw[Ly];exact hunf) hb (depsL_of _ fun e he hbd hen=>⟨hall e (by simpa using he) hbd,ht e.on hen (hall e (by simpa using he) hbd)⟩)
    refine wpOp_of_one ho (fun a' w' hK=>?_) hst
    obtain⟨v,rfl,htv,hJ2,hkeep⟩:=hK
    rw[Ly]at htv hJ2
    rw[putAll_put2 (l.take n) 0 u a0 i o v hd ho2,Ly]
    refine ih _ _ w' ?_ (inv.set hi hin) ?_ (fun j hj hl=>?_)
    ·have:=mu_set (by omega) hun' n hin;omega
    ·have e:(fun j=>(listed.setIfInBounds i true).getD j false)=setL (fun j=>listed.getD j false) i:=by
      funext j
      by_cases hji:j=i
      ·subst hji
       rw[setL_self]
       simp[hls,hil]
      ·rw[setL_ne _ hji,getD_set_ne false (Ne.symm hji)]
     rw[e];exact hJ2
    ·by_cases hji:j=i
     ·subst hji;simpa [upd] using htv
     ·rw[show upd u i v j=u j by unfold upd;rw[if_neg hji]]
      rw[getD_set_ne false (Ne.symm hji)]at hl
      exact hkeep j _ hj hl (ht j hj hl)
theorem wp_region_mixv {l:List Oper} {id:Nat} {a0:Act} {w0:World} (n:Nat) (T:Nat→Value→World→Prop) (J:(Nat→Value)→(Nat→Bool)→World→Prop) (hm:P.follows .mixedOrders=true) (hB:mixC l n=true)
  (h0: ∀u,J u (fun _=>false) w0.drew)
  (hs:StepsU P l.toArray Q n T J a0 (l.take n) (l.take n) 0)
  (hf: ∀u w L,(∀i,i<n→L i=true)→J u L w→(∀i,i<n→T i (u i) w)→wpList P l.toArray Q (l.drop n) (putAll (l.take n) 0 u a0) w):(Code.region id l.toArray true).wp P Q a0 w0:=by
 refine wp_region_any hm ?_
 have inv0:HeadInv .any l.toArray n (Array.replicate l.toArray.size false):=
  ⟨by simp,fun j oj _ hl=>(by rw[getD_replicate_false]at hl;cases hl),fun t _ ht=>getD_in (by simpa using ht) (getD_replicate_false _ _)⟩
 have hn:n≤l.length:=by simp only[mixC,Bool.and_eq_true,decide_eq_true_eq]at hB;exact hB.1.1.1.1
 have hmu:mu (Array.replicate l.toArray.size false) n≤n:=by
  have: ∀(s:Array Bool) k,mu s k≤k:=fun s k=>by
   induction k with
   |zero=>simp[mu]
   |succ k ih=>unfold mu;split<;>omega
  exact this _ _
 have h:=mixv_all (P:=P) (Q:=Q) hB hs hf n (Array.replicate l.toArray.size false) (fun i=>match (l.take n)[i]? with|some o=>slot a0 o.dst|none=>undef) w0.drew hmu inv0 (by have e:(fun i=>(Array.replicate l.toArray.size false).getD i false)=fun _=>false:=(by funext i;rw[getD_replicate_false]);rw[e];exact h0 _)
  (fun i _ hl=>by rw[getD_replicate_false]at hl;cases hl)
 rw[putAll_self (l.take n) 0 _ a0 (fun j o hj=>by simp only[Ly,hj])]at h
 rw[show n+(l.length-n)=l.toArray.size by simp;omega]at h
 exact h
end
end
section
open Go.ChangeShapes Go.WideShapes Go.ChangeAt Go.RowKit Go.Joins Go.Deep
structure TokWf (k:Int) (s:ByteArray) (n a b:Int):Prop where
 k0:(Lit.int .i64 k).wf=true
 s0:s.size≤maxLen
 n0:(Lit.int .u64 n).wf=true
 a0:(Lit.int .i64 a).wf=true
 b0:(Lit.int .i64 b).wf=true
def tokD {H:Type} (k:Int) (s:ByteArray) (n a b:Int):DataW H:= .agg [.lit (.int .i64 k), .lit (.string s.data.toList), .lit (.int .u64 n), .agg [.lit (.int .i64 a), .lit (.int .i64 b)]]
end
section
open Go.ChangeShapes Go.WideShapes Go.ChangeAt Go.RowKit Go.Joins Go.Deep
structure TokQ where
 k:Int:=0
 s:ByteArray:=⟨#[]⟩
 n:Int:=0
 a:Int:=0
 b:Int:=0
structure TokQ.Ok (x:TokQ):Prop where
 k0: -9223372036854775808≤x.k∧x.k≤9223372036854775807
 n0:0≤x.n∧x.n≤18446744073709551615
 s0:x.s.size≤9223372036854775807
def ToksIs (W:World) (v:Value) (l:List TokQ):Prop:=
 ∃a cap,v= .slice a l.length cap∧l.length≤cap∧∀i,i<l.length→∃b off,a=some ⟨b,off,none⟩∧W.cell? ⟨b,off+i*5,none⟩=some (.int .i64 (l.getD i {}).k)∧W.cell? ⟨b,off+i*5+1,none⟩=some (.string (l.getD i {}).s)∧
  W.cell? ⟨b,off+i*5+2,none⟩=some (.int .u64 (l.getD i {}).n)∧W.cell? ⟨b,off+i*5+3,none⟩=some (.int .i64 (l.getD i {}).a)∧W.cell? ⟨b,off+i*5+4,none⟩=some (.int .i64 (l.getD i {}).b)
def GapsIs (W:World) (v:Value) (l:List Int):Prop:= ∃a cap,v= .slice a l.length cap∧l.length≤cap∧∀i,i<l.length→∃b off,a=some ⟨b,off,none⟩∧W.cell? ⟨b,off+i,none⟩=some (.int .u8 (l.getD i 0))
end
section
open Go.RowKit
structure RunesAt (zs:List Int) (i:Nat) (l:List Int):Prop where
 all:runesOf zs=l++rfrom zs i
 len:l.length≤i
def bdC:Nat→Int
 |0=>31
 |k+1=>64*bdC k+63
structure InR (zs:List Int) (i k:Nat) (c:Int):Prop where
 all:allB zs i k=true
 ec:c=cAt zs i k
 c0:0≤c
 c1:c≤bdC k
def GivesRunes (l:List Int) (w:World) (e:Ending) (w':World):Prop:= ∃v,e= .returned v∧Ints .i32 w' v l∧Below w.heap.size w w'∧∀b,v.ownBlock=some b→w.heap.size≤b
end
section
open Go.RowKit
def Bools (w:World) (v:Value) (l:List Bool):Prop:=
 ∃b off cap,v= .slice (some ⟨b,off,none⟩) l.length cap∧l.length≤cap∧b<w.heap.size∧∀i,i<l.length→w.cell? ⟨b,off+i,none⟩=some (.bool (l.getD i false))
def BoolsN (w:World) (v:Value) (l:List Bool):Prop:=(v= .slice none 0 0∧l= [])∨Bools w v l
def OwnBits (w:World) (base:Nat) (v:Value) (l:List Bool):Prop:=
 w.ownsRow base 4 1 v l.length (l.map Value.bool)∧v≠ .slice none 0 0
end
section
open Go.RowKit
end
section
open Go.RowKit
def GivesBits (P:List Bool→Prop) (w:World) (e:Ending) (w':World):Prop:= ∃v l,e= .returned v∧Bools w' v l∧P l∧Below w.heap.size w w'
def GivesNew (P:List Bool→Prop) (w:World) (e:Ending) (w':World):Prop:= ∃v l,e= .returned v∧Bools w' v l∧P l∧Below w.heap.size w w'∧∀b,v.ownBlock=some b→w.heap.size≤b
end
section
open Go.RowKit
def SumTo (la lb x:List Bool) (c:Nat):Prop:=val x+2^x.length*c=lo la x.length+lo lb x.length
end
section
open Go.RowKit
structure TimesAt (la lb lo' ls:List Bool) (k:Nat):Prop where
 len1:ls.length=la.length+k
 len2:lo'.length≤la.length+k
 vs:val ls=val la*2^k
 vo:val lo'=val la*lo lb k
end
section
open Go.RowKit
def GivesOf (N:Nat) (w:World) (e:Ending) (w':World):Prop:= ∃(h l:Int) (ok:Bool),e= .returned (.tuple #[.agg #[.int .u64 h, .int .u64 l], .bool ok])∧IsW h l (capN N)∧(ok=true↔W128 N)∧Below w.heap.size w w'
structure OfMem (w wr:World) (h l:Int):Prop where
 r0:wr.cell? ⟨w.heap.size,0,none⟩=some (.int .u64 0)
 r1:wr.cell? ⟨w.heap.size,1,none⟩=some (.int .u64 0)
 q0:wr.frozen? ⟨w.heap.size,0,none⟩=false
 q1:wr.frozen? ⟨w.heap.size,1,none⟩=false
 c0:wr.cell? ⟨w.heap.size+1,0,none⟩=some (.int .u64 h)
 c1:wr.cell? ⟨w.heap.size+1,1,none⟩=some (.int .u64 l)
 f0:wr.frozen? ⟨w.heap.size+1,0,none⟩=false
 f1:wr.frozen? ⟨w.heap.size+1,1,none⟩=false
 bel:Below w.heap.size w wr
 size:wr.heap.size=w.heap.size+2
end
section
open Go.RowKit
def DiffTo (la lb x:List Bool) (c:Nat):Prop:=lo la x.length+2^x.length*c=val x+lo lb x.length
end
section
open Go.RowKit
structure DivAt (la ln ll lq:List Bool) (k:Nat):Prop where
 lenq:lq.length=la.length
 lenl:ll.length+k=la.length
 low: ∀j,j<k→lq.getD j false=false
 num:hi lq k*val ln+val ll=hi la k
 less:val ll<val ln
structure QMem (w wr:World) (lq:List Bool):Prop where
 row: ∀i,i<lq.length→wr.cell? ⟨w.heap.size,i,none⟩=some (.bool (lq.getD i false))
 free: ∀i,i<lq.length→wr.frozen? ⟨w.heap.size,i,none⟩=false
 size:w.heap.size<wr.heap.size
def GivesDiv (q r n:Nat) (w:World) (e:Ending) (w':World):Prop:= ∃vq vl lq ll,e= .returned (.tuple #[vq,vl])∧Bools w' vq lq∧Bools w' vl ll∧lq.length=n∧ll.length=n∧val lq=q∧val ll=r∧Below w.heap.size w w'
end
section
open Go.RowKit
structure DigitsAt (A n:Nat) (l:List Bool) (xs:List Int):Prop where
 all:dec A=dec (val l)++xs
 len:l.length=n
 lt:W128 (val l)
end
section
open Go.RowKit
theorem order_any (a b:Int) (w:World) (ha:0≤a) (hb:0≤b):
  Calls Tryz.prog 172 #[.int .u64 a, .int .u64 b] w fun e w'=>e= .returned (.int .i64 (cmpI a.toNat b.toNat))∧w=w':=by
 by_cases h1:a<b
 ·have hc:=Lh (cmpI_lt (show a.toNat<b.toNat by omega))
  go_enter Tryz.func172,Tryz.ntmps172
  go_wp2
  go_ret
  exact⟨by rw[hc.out];rfl,rfl⟩
 ·by_cases h2:b<a
  ·have hc:=Lh (cmpI_gt (show b.toNat<a.toNat by omega))
   go_enter Tryz.func172,Tryz.ntmps172
   go_wp2
   go_ret
   exact⟨by rw[hc.out];rfl,rfl⟩
  ·have hc:=Lh (cmpI_eq (show a.toNat=b.toNat by omega))
   go_enter Tryz.func172,Tryz.ntmps172
   go_wp2
   go_ret
   exact⟨by rw[hc.out];rfl,rfl⟩
theorem cmp_hi {ah al bh bl:Int} {A B:Nat} (ha:IsW ah al A) (hb:IsW bh bl B) (h: ¬ah=bh):cmpI ah.toNat bh.toNat=cmpI A B:=by
 obtain⟨a,b,c,d,e⟩:=ha;obtain⟨a',b',c',d',e'⟩:=hb
 by_cases hlt:ah<bh
 ·rw[cmpI_lt (by omega),cmpI_lt (by omega)]
 ·rw[cmpI_gt (by omega),cmpI_gt (by omega)]
theorem cmp_lo {ah al bl:Int} {A B:Nat} (ha:IsW ah al A) (hb:IsW ah bl B):cmpI al.toNat bl.toNat=cmpI A B:=by
 obtain⟨a,b,c,d,e⟩:=ha;obtain⟨a',b',c',d',e'⟩:=hb
 by_cases hlt:al<bl
 ·rw[cmpI_lt (by omega),cmpI_lt (by omega)]
 ·by_cases hgt:bl<al
  ·rw[cmpI_gt (by omega),cmpI_gt (by omega)]
  ·rw[cmpI_eq (by omega),cmpI_eq (by omega)]
theorem ecompare_any (ah al bh bl:Int) (A B:Nat) (w:World) (ha:IsW ah al A) (hb:IsW bh bl B):
  Calls Tryz.prog 151 #[.agg #[.int .u64 ah, .int .u64 al], .agg #[.int .u64 bh, .int .u64 bl]] w fun e w'=>e= .returned (.int .i64 (cmpI A B))∧Below w.heap.size w w':=by
 have HA:=Lh ha
 have HB:=Lh hb
 obtain⟨a0,_,a1,_,_⟩:=ha
 obtain⟨b0,_,b1,_,_⟩:=hb
 by_cases h:ah=bh
 ·subst h
  have hc:=Lh (cmp_lo HA.out HB.out)
  go_enter Tryz.func151,Tryz.ntmps151
  go_wp2_with (go_at_call 172;(with_reducible refine(order_any _ _ _ (by assumption) (by assumption)).mono ?_);rintro e w' ⟨rfl,rfl⟩)
  go_ret
  exact⟨by rw[hc.out];rfl,((Mj _ _).alloc (Mz _) _).alloc (by simp) _⟩
 ·have hc:=Lh (cmp_hi HA.out HB.out h)
  have hne:(ah==bh)=false:=by simpa using h
  go_enter Tryz.func151,Tryz.ntmps151
  go_wp2_with (go_at_call 172;(with_reducible refine(order_any _ _ _ (by assumption) (by assumption)).mono ?_);rintro e w' ⟨rfl,rfl⟩)
  go_ret
  exact⟨by rw[hc.out];rfl,((Mj _ _).alloc (Mz _) _).alloc (by simp) _⟩
def GivesMul (N:Nat) (w:World) (e:Ending) (w':World):Prop:= ∃h l:Int,e= .returned (.tuple #[.int .u64 h, .int .u64 l])∧IsW h l N∧w=w'
def GivesW (N:Nat) (w:World) (e:Ending) (w':World):Prop:= ∃h l:Int,e= .returned (.agg #[.int .u64 h, .int .u64 l])∧IsW h l N∧Below w.heap.size w w'
def GivesWC (N:Nat) (c:Int) (w:World) (e:Ending) (w':World):Prop:= ∃h l:Int,e= .returned (.tuple #[.agg #[.int .u64 h, .int .u64 l], .int .i64 c])∧IsW h l N∧Below w.heap.size w w'
theorem mul64_any (x y:Int) (w:World) (hx:0≤x) (hx':x≤18446744073709551615) (hy:0≤y) (hy':y≤18446744073709551615):
  Calls Tryz.prog 173 #[.int .u64 x, .int .u64 y] w (GivesMul (x.toNat*y.toNat) w):=by
 obtain⟨x,rfl⟩:=Int.eq_ofNat_of_zero_le hx
 obtain⟨y,rfl⟩:=Int.eq_ofNat_of_zero_le hy
 refine(Tryz.bits_Mul64 x y (by omega) (by omega) w).mono ?_
 rintro e w' ⟨rfl,rfl⟩
 have h1:x*y≤18446744073709551615*18446744073709551615:=Nat.mul_le_mul (by omega) (by omega)
 exact⟨_,_,rfl,⟨by omega,by omega,by omega,by omega,by rw[Int.toNat_natCast,Int.toNat_natCast];omega⟩,rfl⟩
theorem etimes_any (x y:Int) (w:World) (hx:0≤x) (hx':x≤18446744073709551615) (hy:0≤y) (hy':y≤18446744073709551615):
  Calls Tryz.prog 154 #[.int .u64 x, .int .u64 y] w (GivesW (x.toNat*y.toNat) w):=by
 go_enter Tryz.func154,Tryz.ntmps154
 go_wp2_with (go_at_call 173;(with_reducible refine(mul64_any x y _ hx hx' hy hy').mono ?_);rintro e w' ⟨h,l,rfl,hW,rfl⟩)
 refine bodyPost_ret (v:= .agg #[.int .u64 h, .int .u64 l]) (by simp[results,Tryz.results154,go_sem]) rfl ⟨h,l,rfl,hW,?_⟩
 exact(Mj _ _).alloc (Mz _) _
end
section
open Go.RowKit
theorem add64 (x y c:Int) (hx:0≤x) (hy:0≤y) (hc0:0≤c) (hc:c≤1) (w:World):(callFunc 169 #[.int .u64 x, .int .u64 y, .int .u64 c]).run Tryz.prog w=
  .ok (.value (.tuple #[.int .u64 ((x+y+c)%18446744073709551616), .int .u64 ((x+y+c)/18446744073709551616)])) w:=by
 rw[run_callFunc_extern Tryz.func169 (by kernel_rfl) (by kernel_rfl) (by kernel_rfl) (e:=add64Entry) (by kernel_rfl),run_add64 x y c hx hy hc0 hc]
 rfl
theorem add64_0 (x y:Int) (hx:0≤x) (hy:0≤y) (w:World):(callFunc 169 #[.int .u64 x, .int .u64 y, .int .u64 0]).run Tryz.prog w=
  .ok (.value (.tuple #[.int .u64 ((x+y)%18446744073709551616), .int .u64 ((x+y)/18446744073709551616)])) w:=by
 simpa using add64 x y 0 hx hy (Int.le_refl 0) (by decide) w
theorem eadd_any (ah al bh bl:Int) (A B:Nat) (w:World) (ha:IsW ah al A) (hb:IsW bh bl B):
  Calls Tryz.prog 147 #[.agg #[.int .u64 ah, .int .u64 al], .agg #[.int .u64 bh, .int .u64 bl]] w (GivesWC (capN (A+B)) (capC (A+B)) w):=by
 have HA:=Lh ha
 have HB:=Lh hb
 obtain⟨a0,_,a1,a2,_⟩:=ha
 obtain⟨b0,_,b1,b2,_⟩:=hb
 have k0:0≤(al+bl)/18446744073709551616:=by omega
 have k1:(al+bl)/18446744073709551616≤1:=by omega
 by_cases h:(ah+bh+(al+bl)/18446744073709551616)/18446744073709551616=0
 ·obtain⟨hs,hW⟩:=add_in HA.out HB.out h
  rw[capN_in hs,capC_in hs]
  clear hs
  go_enter Tryz.func147,Tryz.ntmps147
  go_wp2_with (first|simp only[add64_0 al bl a1 b1]|simp only[add64 ah bh _ a0 b0 k0 k1])
  refine bodyPost_ret (v:= .tuple #[.agg #[.int .u64 ((ah+bh+(al+bl)/18446744073709551616)%18446744073709551616), .int .u64 ((al+bl)%18446744073709551616)], .int .i64 0]) (by simp[results,Tryz.results147,go_sem]) rfl ⟨_,_,rfl,hW,?_⟩
  exact(((Mj _ _).alloc (Mz _) _).alloc (by simp) _).alloc (by simp;omega) _
 ·have hs:=add_out HA.out HB.out h
  rw[capN_out hs,capC_out hs]
  clear hs
  have h':((ah+bh+(al+bl)/18446744073709551616)/18446744073709551616==0)=false:=by simpa using h
  go_enter Tryz.func147,Tryz.ntmps147
  go_wp2_with (first|simp only[add64_0 al bl a1 b1]|simp only[add64 ah bh _ a0 b0 k0 k1])
  refine bodyPost_ret (v:= .tuple #[.agg #[.int .u64 0, .int .u64 0], .int .i64 3]) (by simp[results,Tryz.results147,go_sem]) rfl ⟨_,_,rfl,IsW.zero,?_⟩
  exact(((Mj _ _).alloc (Mz _) _).alloc (by simp) _).alloc (by simp;omega) _
def bor (x y:Int):Int:=if x<y then 1 else 0
def lessN (a b:Nat):Nat:=if b≤a then a-b else 0
def lessC (a b:Nat):Int:=if b≤a then 0 else 3
end
section
open Go.RowKit
def DigRel (u u1 v1 v0 Q:Int) (a b:Value):Prop:= ∃q r:Int,a= .int .u64 q∧b= .int .u64 r∧DigAt u u1 v1 v0 Q q r∧0≤q∧q≤17179869184∧0≤q*v0∧(q<4294967296→q*v0≤18446744073709551615)
end
section
open Go.RowKit
def GivesF (q r:Nat) (c:Int) (w:World) (e:Ending) (w':World):Prop:= ∃h l x:Int,e= .returned (.tuple #[.agg #[.int .u64 h, .int .u64 l], .int .u64 x, .int .i64 c])∧IsW h l q∧0≤x∧x.toNat=r∧Below w.heap.size w w'
end
section
open Go.RowKit
theorem more_in {ah al hh hl n:Int} {A:Nat} (hA:IsW ah al A) (hn:0≤n) (h:IsW hh hl (ah.toNat*n.toNat)) (hz:hh=0):
  IsW hl 0 (hl.toNat*18446744073709551616)∧hl.toNat*18446744073709551616+al.toNat*n.toNat=A*n.toNat:=by
 obtain⟨a,b,c,d,e⟩:=hA;obtain⟨a',b',c',d',e'⟩:=h
 obtain⟨x,rfl⟩:=Int.eq_ofNat_of_zero_le a
 obtain⟨y,rfl⟩:=Int.eq_ofNat_of_zero_le c
 obtain⟨m,rfl⟩:=Int.eq_ofNat_of_zero_le hn
 simp only[Int.toNat_natCast]at*
 have hAe:A=x*18446744073709551616+y:=by omega
 have he:hl.toNat=x*m:=by omega
 refine⟨⟨c',d',by decide,by decide,by omega⟩,?_⟩
 rw[he,hAe];grind
theorem more_out {ah al hh hl n:Int} {A:Nat} (hA:IsW ah al A) (hn:0≤n) (h:IsW hh hl (ah.toNat*n.toNat)) (hz: ¬hh=0): ¬W128 (A*n.toNat):=by
 obtain⟨a,b,c,d,e⟩:=hA;obtain⟨a',b',c',d',e'⟩:=h
 obtain⟨x,rfl⟩:=Int.eq_ofNat_of_zero_le a
 obtain⟨y,rfl⟩:=Int.eq_ofNat_of_zero_le c
 obtain⟨m,rfl⟩:=Int.eq_ofNat_of_zero_le hn
 simp only[Int.toNat_natCast]at*
 have hAe:A=x*18446744073709551616+y:=by omega
 have h1:A*m=x*m*18446744073709551616+y*m:=by rw[hAe];grind
 unfold W128
 have:0≤y*m:=Nat.zero_le _
 omega
theorem low_of {hh hl:Int} {N:Nat} (h:IsW hh hl N) (hN:N<18446744073709551616):hh=0:=by
 obtain⟨_,_,_,_,e⟩:=h;omega
theorem high_of {hh hl:Int} {N:Nat} (h:IsW hh hl N) (hN: ¬N<18446744073709551616): ¬hh=0:=by
 obtain⟨_,_,_,_,e⟩:=h;omega
structure BoxRes (w W:World) (ah al:Int):Prop where
 c0:W.cell? ⟨w.heap.size,0,none⟩=some (.int .u64 ah)
 c1:W.cell? ⟨w.heap.size,1,none⟩=some (.int .u64 al)
 r0:W.cell? ⟨w.heap.size+1,0,none⟩=some (.int .u64 0)
 r1:W.cell? ⟨w.heap.size+1,1,none⟩=some (.int .u64 0)
 q0:W.frozen? ⟨w.heap.size+1,0,none⟩=false
 q1:W.frozen? ⟨w.heap.size+1,1,none⟩=false
 size:w.heap.size+1<W.heap.size
 size0:w.heap.size<W.heap.size
 bel:Below w.heap.size w W
theorem BoxRes.start (w:World) (ah al:Int):BoxRes w ((w.alloc (.cells #[.int .u64 ah, .int .u64 al] 194)).alloc (.cells #[.int .u64 0, .int .u64 0] 194)) ah al:=
 ⟨by simp[go_sem],by simp[go_sem],by simp[go_sem],by simp[go_sem],by simp[go_sem],by simp[go_sem],by simp,by simp;omega,((Mj _ _).alloc (Mz _) _).alloc (by simp) _⟩
theorem BoxRes.after {w W W1:World} {ah al:Int} (h:BoxRes w W ah al) (hb:Below W.heap.size W W1):BoxRes w W1 ah al:=by
 obtain⟨c0,c1,r0,r1,q0,q1,s1,s0,bel⟩:=h
 have hc: ∀b o,b<W.heap.size→W1.cell? ⟨b,o,none⟩=W.cell? ⟨b,o,none⟩:=fun b o h=>hb.cell (p:=⟨b,o,none⟩) h
 have hf: ∀b o,b<W.heap.size→W1.frozen? ⟨b,o,none⟩=W.frozen? ⟨b,o,none⟩:=fun b o h=>hb.frozen (p:=⟨b,o,none⟩) h
 have:=hb.size
 exact⟨by rw[hc _ _ s0,c0],by rw[hc _ _ s0,c1],by rw[hc _ _ s1,r0],by rw[hc _ _ s1,r1],by rw[hf _ _ s1,q0],by rw[hf _ _ s1,q1],by omega,by omega,bel.trans (hb.mono bel.size)⟩
theorem more_any (ah al n:Int) (A:Nat) (w:World) (hA:IsW ah al A) (hn:0≤n) (hn':n≤18446744073709551615):
  Calls Tryz.prog 146 #[.agg #[.int .u64 ah, .int .u64 al], .int .u64 n] w (GivesWC (capN (A*n.toNat)) (capC (A*n.toNat)) w):=by
 have HA:=Lh hA
 obtain⟨a0,a4,a1,a2,_⟩:=hA
 by_cases hp:ah.toNat*n.toNat<18446744073709551616
 ·have hp:=Lh hp
  go_enter Tryz.func146,Tryz.ntmps146
  go_wp2_with (go_at_call 154;(with_reducible refine(etimes_any ah n _ a0 a4 hn hn').mono ?_);rintro e w1 ⟨hh,hl,rfl,hW1,g1⟩;obtain rfl:=low_of hW1 hp.out;obtain⟨hI,hS⟩:=more_in HA.out hn hW1 rfl;replace hS:=Lh hS;replace hW1:=Lh hW1;have B1:=(BoxRes.start w ah al).after g1;obtain⟨c0,c1,r0,r1,q0,q1,s1,s0,bel⟩:=B1)
  have hm1:(w1.alloc (.cells #[.int .u64 0, .int .u64 hl] 194)).drew.cell? ⟨w1.heap.size,1,none⟩=some (.int .u64 hl):=by simp[go_sem]
  have hne: ¬w.heap.size+1=w1.heap.size:=by omega
  have B2:=Lh (((BoxRes.start w ah al).after g1).after ((Mj _ _).alloc (Mz _) (.cells #[.int .u64 0, .int .u64 hl] 194)).drew)
  go_region_held3 (fun W=>W.cell? ⟨w1.heap.size,1,none⟩=some (.int .u64 hl)∧W.cell? ⟨w.heap.size,1,none⟩=some (.int .u64 al)) (first|(exact⟨hm1,(B2.out).c1⟩)|(refine⟨?_,?_⟩<;>assumption)|go_keep)
   (first
    |(go_at_call 154;refine(etimes_any al n _ a1 a2 hn hn').mono ?_;rintro e w2 ⟨th,tl,rfl,hW2,g2⟩;have B3:=Lh (B2.out.after g2);have k1:=(g2.cell (p:=⟨w1.heap.size,1,none⟩) (by simp[go_sem])).trans hm1;have k2:=B3.out.c1;have z2:w1.heap.size<w2.heap.size:=(by have:=g2.size;simp[go_sem]at this;omega))
    |(go_at_call 147;refine(eadd_any hl 0 th tl _ _ _ hI hW2).mono ?_;rintro e w3 ⟨sh,sl,rfl,hW3,g3⟩;have B4:=B3.out.after g3;obtain⟨d0,d1,e0,e1,x0,x1,t1,t0,bel4⟩:=B4;have k1:=d1;have k3:=(g3.cell (p:=⟨w1.heap.size,1,none⟩) z2).trans ((g2.cell (p:=⟨w1.heap.size,1,none⟩) (by simp[go_sem])).trans hm1)))
  go_wp2
  have hW4:=hW3
  rw[hS.out]at hW4
  refine bodyPost_ret (v:= .tuple #[.agg #[.int .u64 sh, .int .u64 sl], .int .i64 (capC (hl.toNat*18446744073709551616+al.toNat*n.toNat))]) (by simp[results,Tryz.results146,go_sem,e0,e1]) rfl ⟨sh,sl,by rw[hS.out],hW4,?_⟩
  exact(bel4.setCell (by simp) _).setCell (by simp) _
 ·have hp:=Lh hp
  go_enter Tryz.func146,Tryz.ntmps146
  go_wp2_with (go_at_call 154;(with_reducible refine(etimes_any ah n _ a0 a4 hn hn').mono ?_);rintro e w1 ⟨hh,hl,rfl,hW1,g1⟩;have hz:=high_of hW1 hp.out;have hov:=Lh (more_out HA.out hn hW1 hz);replace hz:(hh==0)=false:=(by simpa using hz);replace hW1:=Lh hW1;have B1:=(BoxRes.start w ah al).after g1;obtain⟨c0,c1,r0,r1,q0,q1,s1,s0,bel⟩:=B1)
  refine bodyPost_ret (v:= .tuple #[.agg #[.int .u64 0, .int .u64 0], .int .i64 3]) (by simp[results,Tryz.results146,go_sem,r0,r1,s1]) rfl ⟨0,0,by rw[capC_out hov.out],by rw[capN_out hov.out];exact IsW.zero,?_⟩
  exact((bel.setCell (by simp) _).setCell (by simp) _).alloc (by simp;omega) _
def ceilN (A n:Nat):Nat:=if n=0 then 0 else A/n+if A%n=0 then 0 else 1
def ceilC (n:Nat):Int:=if n=0 then 4 else 0
end
section
open Go.RowKit
theorem next_rune (w:World) (k:Nat) (s:ByteArray) (pos:Nat) (hk:w.heap[k]?=some (.stringIter s pos)) (h:pos<s.size):
  ∃(z:Int) (p:Nat),(∀ty,(Instr.next (.pointer (some ⟨k,0,none⟩)) true ty).run Tryz.prog w= .ok (.tuple #[.bool true, .int .i64 pos, .int .i32 z]) (w.iterAt k s p))∧0≤z∧z≤2147483647∧
   (48≤z∧z≤57→p=pos+1∧(nums s).getD pos 0=z)∧(¬(48≤z∧z≤57)→¬(48≤(nums s).getD pos 0∧(nums s).getD pos 0≤57)):=by
 rw[nums_at s pos h]
 by_cases ha:s[pos].toNat<128
 ·refine⟨(s[pos].toNat:Int),pos+1,fun ty=>Lib.run_next_ascii_at w k s pos ty hk h ha,by omega,by omega,fun _=>⟨rfl,rfl⟩,fun hn=>hn⟩
 ·have hd:=decode_high s pos h (by omega)
  have hl:=decode_le s pos
  exact⟨_,_,fun ty=>Lib.run_next_any_at w k s pos ty hk h,by omega,by omega,fun hc=>by omega,fun _ hc=>by omega⟩
theorem toList_empty {s:ByteArray} (h:0<s.size):s.toList.isEmpty=false∧¬s.toList= []:=by
 have e:s.toList=s.data.toList:=ByteArray.toList_eq s
 have hl:s.data.toList.length=s.size:=by simp
 rw[e]
 cases hd:s.data.toList with
 |nil=>rw[hd]at hl;simp at hl;omega
 |cons a l=>simp
theorem toList_other {s:ByteArray} (h: ¬s.size=1):(s.toList== [48])=false:=by
 have e:s.toList=s.data.toList:=ByteArray.toList_eq s
 have hl:s.data.toList.length=s.size:=by simp
 rw[e]
 cases hq:(s.data.toList== [48])with
 |false=>rfl
 | true => have : s.data.toList = [48] := by simpa using hq
           rw [this] at hl; simp at hl; omega
theorem toList_nought {s:ByteArray} (h:s.size=1) (h0:(nums s).getD 0 0=48):s=⟨#[48]⟩:=by
 have hn:(nums s).length=1:=by rw[nums_length,h]
 have:nums s= [48]:=by
  cases hx:nums s with
  |nil=>rw[hx]at hn;simp at hn
  |cons a l=>
   rw[hx]at hn h0
   have:l= []:=by cases l with|nil=>rfl|cons b m=>simp at hn
   subst this
   simp at h0;rw[h0]
 have hs:=strOfNums_nums s
 rw[this]at hs
 rw[←hs];rfl
def GivesB (P:Prop) (w:World) (e:Ending) (w':World):Prop:= ∃b:Bool,e= .returned (.bool b)∧(b=true↔P)∧Below w.heap.size w w'
theorem iter_at (w:World) (s:ByteArray) (p q:Nat):(w.iter s p).iterAt w.heap.size s q=w.iter s q:=World.iter_set w s p q
theorem iter_below (w:World) (s:ByteArray) (p:Nat):Below w.heap.size w (w.iter s p):=(Mj _ _).alloc (Mz _) _
theorem printed_loop (s:ByteArray) (w:World) (hm:s.size≤9223372036854775807) (h0:0<s.size) (hh:(s[0].toNat:Int)=48→False):
  Calls Tryz.prog 145 #[.string s] w (GivesB (Dg (nums s)) w):=by
 obtain⟨e1,e2⟩:=toList_empty h0
 have hne:nums s≠ []:=fun e=>by have:=nums_length s;rw[e]at this;simp at this;omega
 have hhead:(nums s).getD 0 0=48→(nums s).length=1:=fun e=>(hh (by rw[←nums_at s 0 h0];exact e)).elim
 have hz:((s[0].toNat:Int)==48)=false:=by
  cases hq:((s[0].toNat:Int)==48)with
  |false=>rfl
  |true=>exact(hh (by simpa using hq)).elim
 replace hne:=Lh hne
 replace hhead:=Lh hhead
 clear hh
 go_enter Tryz.func145,Tryz.ntmps145
 go_wp2
 go_loopw [4] (fun _ w'=> ∃pos:Nat,pos≤s.size∧w'=w.iter s pos∧Hid (∀i,i<pos→48≤(nums s).getD i 0∧(nums s).getD i 0≤57)) (fun _ w'=>s.size-w'.iterPos w.heap.size)
 case atStart=>exact⟨0,Nat.zero_le _,rfl,Lh (fun i hi=>by omega)⟩
 case round=>
  obtain⟨pos,hp,rfl,hall⟩:=hrel
  by_cases h1:pos<s.size
  ·obtain⟨z,p,hnx,z0,z1,hyes,hno⟩:=next_rune (w.iter s pos) w.heap.size s pos (World.iter_heap w s pos) h1
   simp only[iter_at]at hnx
   replace hyes:=Lh hyes
   replace hno:=Lh hno
   by_cases h2:z<48
   ·have hbad:=Lh (fun hd:Dg (nums s)=>hno.out (by omega) (hd.all pos (by rw[nums_length];exact h1)))
    go_wp2
    go_ret
    exact⟨false,rfl,⟨fun e=>(Bool.noConfusion e),fun hd=>(hbad.out hd).elim⟩,iter_below _ _ _⟩
   ·by_cases h3:57<z
    ·have hbad:=Lh (fun hd:Dg (nums s)=>hno.out (by omega) (hd.all pos (by rw[nums_length];exact h1)))
     go_wp2
     go_ret
     exact⟨false,rfl,⟨fun e=>(Bool.noConfusion e),fun hd=>(hbad.out hd).elim⟩,iter_below _ _ _⟩
    ·obtain⟨rfl,hz2⟩:=hyes.out ⟨by omega,by omega⟩
     have hall':Hid (∀i,i<pos+1→48≤(nums s).getD i 0∧(nums s).getD i 0≤57):=by
      intro i hi
      by_cases e:i=pos
      ·rw[e,hz2];exact⟨by omega,by omega⟩
      ·exact hall.out i (by omega)
     replace hz2:=Lh hz2
     go_wp2
     go_roundw
     case rel=>exact⟨pos+1,by omega,rfl,hall'.out⟩
     case measure=>simp;omega
  ·have hnx: ∀ty,(Instr.next (.pointer (some ⟨w.heap.size,0,none⟩)) true ty).run Tryz.prog (w.iter s pos)=_:=fun ty=>run_next_end w s pos ty h1
   go_wp2
   go_ret
   exact⟨true,rfl,⟨fun _=>⟨hne.out,hhead.out,fun i hi=>hall.out i (by rw[nums_length]at hi;omega)⟩,fun _=>rfl⟩,iter_below _ _ _⟩
theorem printed_empty (w:World):Calls Tryz.prog 145 #[.string ⟨#[]⟩] w fun e w'=>e= .returned (.bool false)∧w=w':=by
 go_enter Tryz.func145,Tryz.ntmps145
 go_wp2
 go_ret
 exact⟨rfl,rfl⟩
theorem printed_nought (w:World):Calls Tryz.prog 145 #[.string ⟨#[48]⟩] w fun e w'=>e= .returned (.bool true)∧Below w.heap.size w w':=by
 have h1: ∀ty,(Instr.next (.pointer (some ⟨w.heap.size,0,none⟩)) true ty).run Tryz.prog (w.iter ⟨#[48]⟩ 0)= .ok (.tuple #[.bool true, .int .i64 0, .int .i32 48]) (w.iter ⟨#[48]⟩ 1):=fun ty=>run_next_ascii w ⟨#[48]⟩ 0 ty (by decide) (by decide)
 have h2: ∀ty,(Instr.next (.pointer (some ⟨w.heap.size,0,none⟩)) true ty).run Tryz.prog (w.iter ⟨#[48]⟩ 1)= .ok (.tuple #[.bool false]) (w.iter ⟨#[48]⟩ 1):=fun ty=>run_next_end w ⟨#[48]⟩ 1 ty (by decide)
 go_enter Tryz.func145,Tryz.ntmps145
 go_wp2
 go_loopw [4] (fun _ w'=> ∃pos:Nat,pos≤1∧w'=w.iter ⟨#[48]⟩ pos) (fun _ w'=>1-w'.iterPos w.heap.size)
 case atStart=>exact⟨0,by omega,rfl⟩
 case round=>
  obtain⟨pos,hp,rfl⟩:=hrel
  by_cases hz:pos=0
  ·subst hz
   go_wp2
   go_roundw
   case rel=>exact⟨1,by omega,rfl⟩
   case measure=>simp
  ·obtain rfl:pos=1:=by omega
   go_wp2
   go_ret
   exact⟨rfl,iter_below _ _ _⟩
theorem printed_ahead (s:ByteArray) (w:World) (h0:1<s.size) (hh:(s[0].toNat:Int)=48):
  Calls Tryz.prog 145 #[.string s] w fun e w'=>e= .returned (.bool false)∧w=w':=by
 obtain⟨e1,e2⟩:=toList_empty (s:=s) (by omega)
 have e3:=toList_other (s:=s) (by omega)
 have h1:0<s.size:=by omega
 go_enter Tryz.func145,Tryz.ntmps145
 go_wp2
 go_ret
 exact⟨rfl,rfl⟩
theorem printed_any (s:ByteArray) (w:World) (hm:s.size≤9223372036854775807):Calls Tryz.prog 145 #[.string s] w (GivesB (Dg (nums s)) w):=by
 by_cases h0:s.size=0
 ·have hs:s=⟨#[]⟩:=by
   have hn:nums s= []:=List.eq_nil_of_length_eq_zero (by rw[nums_length,h0])
   rw[←strOfNums_nums s,hn];rfl
  subst hs
  exact(printed_empty w).mono fun _ _ ⟨he,hw⟩=>⟨false,he,⟨fun e=>Bool.noConfusion e,fun hd=>(hd.some rfl).elim⟩,hw▸Mj _ _⟩
 ·have hp:0<s.size:=by omega
  by_cases hh:(s[0].toNat:Int)=48
  ·by_cases h1:s.size=1
   ·obtain rfl:=toList_nought h1 (by rw[nums_at s 0 hp];exact hh)
    refine(printed_nought w).mono fun _ _ ⟨he,hb⟩=>⟨true,he,⟨fun _=>?_,fun _=>rfl⟩,hb⟩
    refine⟨by decide,fun _=>rfl,fun i hi=>?_⟩
    obtain rfl:i=0:=by simp[nums]at hi;omega
    decide
   ·refine(printed_ahead s w (by omega) hh).mono fun _ _ ⟨he,hw⟩=>⟨false,he,⟨fun e=>Bool.noConfusion e,fun hd=>?_⟩,hw▸Mj _ _⟩
    have:=hd.head (by rw[nums_at s 0 hp];exact hh)
    rw[nums_length]at this;omega
  ·exact printed_loop s w hm hp hh
end
section
open Go.RowKit
structure RMem (w w1 wr:World) (s:ByteArray) (pos:Nat) (ah al:Int):Prop where
 it:wr.heap[w1.heap.size+1]?=some (.stringIter s pos)
 a0:wr.cell? ⟨w1.heap.size,0,none⟩=some (.int .u64 ah)
 a1:wr.cell? ⟨w1.heap.size,1,none⟩=some (.int .u64 al)
 f0:wr.frozen? ⟨w1.heap.size,0,none⟩=false
 f1:wr.frozen? ⟨w1.heap.size,1,none⟩=false
 r0:wr.cell? ⟨w.heap.size,0,none⟩=some (.int .u64 0)
 r1:wr.cell? ⟨w.heap.size,1,none⟩=some (.int .u64 0)
 q0:wr.frozen? ⟨w.heap.size,0,none⟩=false
 q1:wr.frozen? ⟨w.heap.size,1,none⟩=false
 bel:Below w.heap.size w wr
 lt0:w.heap.size<w1.heap.size
 s0:w.heap.size<wr.heap.size
 s1:w1.heap.size<wr.heap.size
 s2:w1.heap.size+1<wr.heap.size
theorem RMem.after {w w1 wr w2:World} {s:ByteArray} {pos:Nat} {ah al:Int} (h:RMem w w1 wr s pos ah al) (hb:Below wr.heap.size wr w2):RMem w w1 w2 s pos ah al:=by
 obtain⟨it,a0,a1,f0,f1,r0,r1,q0,q1,bel,lt0,s0,s1,s2⟩:=h
 have hc: ∀b o,b<wr.heap.size→w2.cell? ⟨b,o,none⟩=wr.cell? ⟨b,o,none⟩:=fun b o h=>hb.cell (p:=⟨b,o,none⟩) h
 have hf: ∀b o,b<wr.heap.size→w2.frozen? ⟨b,o,none⟩=wr.frozen? ⟨b,o,none⟩:=fun b o h=>hb.frozen (p:=⟨b,o,none⟩) h
 have:=hb.size
 exact⟨(hb.block _ s2).trans it,by rw[hc _ _ s1,a0],by rw[hc _ _ s1,a1],by rw[hf _ _ s1,f0],by rw[hf _ _ s1,f1],by rw[hc _ _ s0,r0],by rw[hc _ _ s0,r1],by rw[hf _ _ s0,q0],by rw[hf _ _ s0,q1],bel.trans (hb.mono bel.size),lt0,by omega,by omega,by omega⟩
theorem RMem.next {w w1 wr:World} {s:ByteArray} {pos:Nat} {ah al:Int} (h:RMem w w1 wr s pos ah al) (p:Nat):RMem w w1 (wr.iterAt (w1.heap.size+1) s p) s p ah al:=by
 obtain⟨it,a0,a1,f0,f1,r0,r1,q0,q1,bel,lt0,s0,s1,s2⟩:=h
 have hk: ∀k,k≠w1.heap.size+1→(wr.iterAt (w1.heap.size+1) s p).heap[k]?=wr.heap[k]?:=fun k hk=>Lib.iterAt_other wr _ k s p hk
 have hz:=Lib.iterAt_size wr (w1.heap.size+1) s p
 have c1: ∀o,(wr.iterAt (w1.heap.size+1) s p).cell? ⟨w1.heap.size,o,none⟩=wr.cell? ⟨w1.heap.size,o,none⟩:=fun o=>World.cell?_of_block (hk _ (by simp))
 have c0: ∀o,(wr.iterAt (w1.heap.size+1) s p).cell? ⟨w.heap.size,o,none⟩=wr.cell? ⟨w.heap.size,o,none⟩:=fun o=>World.cell?_of_block (hk _ (by simp;omega))
 have g1: ∀o,(wr.iterAt (w1.heap.size+1) s p).frozen? ⟨w1.heap.size,o,none⟩=wr.frozen? ⟨w1.heap.size,o,none⟩:=fun o=>World.frozen?_of_block (hk _ (by simp))
 have g0: ∀o,(wr.iterAt (w1.heap.size+1) s p).frozen? ⟨w.heap.size,o,none⟩=wr.frozen? ⟨w.heap.size,o,none⟩:=fun o=>World.frozen?_of_block (hk _ (by simp;omega))
 exact⟨Lib.iterAt_heap wr _ s pos p it,by rw[c1,a0],by rw[c1,a1],by rw[g1,f0],by rw[g1,f1],by rw[c0,r0],by rw[c0,r1],by rw[g0,q0],by rw[g0,q1],Lib.below_iterAt bel (by omega) s p,lt0,by omega,by omega,by omega⟩
theorem RMem.put {w w1 wr:World} {s:ByteArray} {pos:Nat} {ah al:Int} (h:RMem w w1 wr s pos ah al) (x y:Int):
  RMem w w1 ((wr.setCell ⟨w1.heap.size,0,none⟩ (.int .u64 x)).setCell ⟨w1.heap.size,1,none⟩ (.int .u64 y)) s pos x y:=by
 obtain⟨it,a0,a1,f0,f1,r0,r1,q0,q1,bel,lt0,s0,s1,s2⟩:=h
 refine⟨?_,?_,World.cell?_setCell_same _ _ _ (by rw[World.cell?_setCell_other _ _ _ _ (by simp)];exact a1),by rw[World.frozen?_setCell,World.frozen?_setCell];exact f0,by rw[World.frozen?_setCell,World.frozen?_setCell];exact f1,?_,?_,
  by rw[World.frozen?_setCell,World.frozen?_setCell];exact q0,by rw[World.frozen?_setCell,World.frozen?_setCell];exact q1,(bel.setCell (by simp;omega) _).setCell (by simp;omega) _,lt0,by simpa using s0,by simpa using s1,by simpa using s2⟩
 ·rw[Below.heap_setCell _ _ _ _ (by simp),Below.heap_setCell _ _ _ _ (by simp)];exact it
 ·rw[World.cell?_setCell_other _ _ _ _ (by simp)];exact World.cell?_setCell_same _ _ _ a0
 ·rw[World.cell?_setCell_other _ _ _ _ (by first|(simp;done)|(simp;omega)),World.cell?_setCell_other _ _ _ _ (by first|(simp;done)|(simp;omega))];exact r0
 ·rw[World.cell?_setCell_other _ _ _ _ (by first|(simp;done)|(simp;omega)),World.cell?_setCell_other _ _ _ _ (by first|(simp;done)|(simp;omega))];exact r1
theorem read_over {zs:List Int} {k:Nat} (hk:k<zs.length) (h: ¬W128 (numOf (zs.take k)*10)): ¬W128 (numOf zs):=by
 have h1:=numOf_step zs k hk
 have h2:=numOf_take zs (k+1) (by omega)
 unfold W128 at*;omega
theorem read_over2 {zs:List Int} {k:Nat} (hk:k<zs.length) (h: ¬W128 (numOf (zs.take (k+1)))): ¬W128 (numOf zs):=by
 have h2:=numOf_take zs (k+1) (by omega)
 unfold W128 at*;omega
theorem res_kept {w w1:World} (hb:Below (w.alloc (.cells #[.int .u64 0, .int .u64 0] 194)).heap.size (w.alloc (.cells #[.int .u64 0, .int .u64 0] 194)) w1):
  w1.cell? ⟨w.heap.size,0,none⟩=some (.int .u64 0)∧w1.cell? ⟨w.heap.size,1,none⟩=some (.int .u64 0)∧w1.frozen? ⟨w.heap.size,0,none⟩=false∧w1.frozen? ⟨w.heap.size,1,none⟩=false∧w.heap.size<w1.heap.size∧Below w.heap.size w w1:=by
 have hs:=hb.size
 simp at hs
 exact⟨(hb.cell (p:=⟨w.heap.size,0,none⟩) (by simp)).trans (by simp),(hb.cell (p:=⟨w.heap.size,1,none⟩) (by simp)).trans (by simp),
  (hb.frozen (p:=⟨w.heap.size,0,none⟩) (by simp)).trans (by simp),(hb.frozen (p:=⟨w.heap.size,1,none⟩) (by simp)).trans (by simp),by omega,((Mj _ _).alloc (Mz _) _).trans (hb.mono (by simp))⟩
theorem eread_no (s:ByteArray) (w:World) (hm:s.size≤9223372036854775807) (hd: ¬Dg (nums s)):
  Calls Tryz.prog 132 #[.string s] w (GivesWC 0 5 w):=by
 replace hd:=Lh hd
 go_enter Tryz.func132,Tryz.ntmps132
 go_wp2_with (go_at_call 145;refine(printed_any s _ hm).mono ?_;rintro e w1 ⟨b,rfl,hb,g1⟩;obtain rfl:b=false:=(by cases b;rfl;exact(hd.out (hb.mp rfl)).elim);clear hb;obtain⟨r0,r1,q0,q1,s0,bel⟩:=res_kept g1)
 refine bodyPost_ret (v:= .tuple #[.agg #[.int .u64 0, .int .u64 0], .int .i64 5]) (by simp[results,Tryz.results132,go_sem,r0,r1]) rfl ⟨0,0,rfl,IsW.zero,?_⟩
 exact(bel.setCell (by simp) _).setCell (by simp) _
theorem more_ten (ah al:Int) (N:Nat) (w:World) (hA:IsW ah al N):
  Calls Tryz.prog 146 #[.agg #[.int .u64 ah, .int .u64 al], .int .u64 10] w (GivesWC (capN (N*10)) (capC (N*10)) w):=more_any ah al 10 N w hA (by decide) (by decide)
theorem RMem.start {w w1:World} {s:ByteArray} (r0:w1.cell? ⟨w.heap.size,0,none⟩=some (.int .u64 0)) (r1:w1.cell? ⟨w.heap.size,1,none⟩=some (.int .u64 0))
  (q0:w1.frozen? ⟨w.heap.size,0,none⟩=false) (q1:w1.frozen? ⟨w.heap.size,1,none⟩=false) (bel:Below w.heap.size w w1) (s0:w.heap.size<w1.heap.size):
  RMem w w1 ((w1.alloc (.cells #[.int .u64 0, .int .u64 0] 194)).iter s 0) s 0 0 0:=by
 have hz:(w1.alloc (.cells #[.int .u64 0, .int .u64 0] 194)).heap.size=w1.heap.size+1:=by simp
 have b2:=iter_below (w1.alloc (.cells #[.int .u64 0, .int .u64 0] 194)) s 0
 have b1:Below w1.heap.size w1 ((w1.alloc (.cells #[.int .u64 0, .int .u64 0] 194)).iter s 0):=((Mj _ _).alloc (Mz _) _).trans (b2.mono (by simp))
 have hi:=World.iter_heap (w1.alloc (.cells #[.int .u64 0, .int .u64 0] 194)) s 0
 have hs:((w1.alloc (.cells #[.int .u64 0, .int .u64 0] 194)).iter s 0).heap.size=w1.heap.size+2:=by simp[World.iter]
 rw[hz]at hi
 refine⟨hi,?_,?_,?_,?_,?_,?_,?_,?_,bel.trans (b1.mono bel.size),s0,by omega,by omega,by omega⟩
 ·exact(b2.cell (p:=⟨w1.heap.size,0,none⟩) (by simp)).trans (by simp)
 ·exact(b2.cell (p:=⟨w1.heap.size,1,none⟩) (by simp)).trans (by simp)
 ·exact(b2.frozen (p:=⟨w1.heap.size,0,none⟩) (by simp)).trans (by simp)
 ·exact(b2.frozen (p:=⟨w1.heap.size,1,none⟩) (by simp)).trans (by simp)
 ·exact(b1.cell (p:=⟨w.heap.size,0,none⟩) s0).trans r0
 ·exact(b1.cell (p:=⟨w.heap.size,1,none⟩) s0).trans r1
 ·exact(b1.frozen (p:=⟨w.heap.size,0,none⟩) s0).trans q0
 ·exact(b1.frozen (p:=⟨w.heap.size,1,none⟩) s0).trans q1
theorem eread_yes (s:ByteArray) (w:World) (hm:s.size≤9223372036854775807) (hd:Dg (nums s)):
  Calls Tryz.prog 132 #[.string s] w (GivesWC (capN (numOf (nums s))) (capC (numOf (nums s))) w):=by
 replace hd:=Lh hd
 go_enter Tryz.func132,Tryz.ntmps132
 go_wp2_with (go_at_call 145;refine(printed_any s _ hm).mono ?_;rintro e w1 ⟨b,rfl,hb,g1⟩;obtain rfl:=hb.mpr hd.out;clear hb;obtain⟨r0,r1,q0,q1,s0,bel⟩:=res_kept g1)
 go_loopw [6,7,8] (fun _ _ _ wr=> ∃(pos:Nat) (ah al:Int),pos≤s.size∧IsW ah al (numOf ((nums s).take pos))∧RMem w w1 wr s pos ah al) (fun _ _ _ wr=>s.size-wr.iterPos (w1.heap.size+1))
 case atStart=>
  exact⟨0,0,0,Nat.zero_le _,IsW.zero,RMem.start r0 r1 q0 q1 bel s0⟩
 case round=>
  obtain⟨pos,ah,al,hp,hW,hM⟩:=hrel
  clear r0 r1 q0 q1 bel
  by_cases h1:pos<s.size
  ·obtain⟨z,p,hnx,z0,z1,hyes,hno⟩:=next_rune wr (w1.heap.size+1) s pos hM.it h1
   have hl:pos<(nums s).length:=by rw[nums_length];exact h1
   have hdg:=hd.out.all pos hl
   have hz:48≤z∧z≤57:=by
    by_cases hz:48≤z∧z≤57
    ·exact hz
    ·exact(hno hz hdg).elim
   obtain⟨rfl,hzz⟩:=hyes hz
   clear hyes hno hdg
   obtain⟨hz1,hz2⟩:=hz
   obtain⟨N,hN⟩: ∃N,N=numOf ((nums s).take pos):=⟨_,rfl⟩
   have hst:numOf ((nums s).take (pos+1))=N*10+(z-48).toNat:=by rw[numOf_step _ _ hl,hzz,←hN];omega
   have ho1:=read_over hl
   have ho2:=read_over2 hl
   rw[←hN]at hW ho1
   rw[hst]at ho2
   replace ho1:=Lh ho1
   replace ho2:=Lh ho2
   replace hst:=Lh hst
   have M2:=Lh (hM.next (pos+1))
   have hM0:=Lh hM.it
   clear hM hzz hN
   obtain⟨_,a0,a1,f0,f1,r0,r1,q0,q1,bel,_,s0,s1,s2⟩:=M2.out
   by_cases o1:W128 (N*10)
   ·have hc1:capC (N*10)=0:=capC_in o1
    by_cases o2:W128 (N*10+(z-48).toNat)
    ·have hc2:capC (N*10+(z-48).toNat)=0:=capC_in o2
     replace o1:=Lh o1
     replace o2:=Lh o2
     go_wp2_with (first|(go_at_call 146;refine(more_ten ah al N _ hW).mono ?_;rintro e w3 ⟨th,tl,rfl,hW3,g3⟩;rw[capN_in o1.out]at hW3;have M3:=Lh ((M2.out.after g3).after ((Mj _ _).alloc (Mz _) (.cells #[.int .u64 th, .int .u64 tl] 194))))|(go_at_call 147;refine(eadd_any th tl 0 (z-48) _ _ _ hW3 (IsW.small (by omega) (by omega))).mono ?_;rintro e w4 ⟨sh,sl,rfl,hW4,g4⟩;rw[capN_in o2.out]at hW4;have M4:=Lh (M3.out.after g4);obtain⟨_,a0,a1,f0,f1,r0,r1,q0,q1,bel,_,s0,s1,s2⟩:=M4.out))
     have M5:=M4.out.put sh sl
     have hit:=M5.it
     go_roundw
     case rel=>exact⟨pos+1,sh,sl,by omega,by rw[hst.out];exact hW4,M5⟩
     case measure=>rw[iterPos_of hit,iterPos_of hM0.out];omega
    ·have hc2:capC (N*10+(z-48).toNat)=3:=capC_out o2
     have hall:=Lh (ho2.out o2)
     replace o1:=Lh o1
     replace o2:=Lh o2
     go_wp2_with (first|(go_at_call 146;refine(more_ten ah al N _ hW).mono ?_;rintro e w3 ⟨th,tl,rfl,hW3,g3⟩;rw[capN_in o1.out]at hW3;have M3:=Lh ((M2.out.after g3).after ((Mj _ _).alloc (Mz _) (.cells #[.int .u64 th, .int .u64 tl] 194))))|(go_at_call 147;refine(eadd_any th tl 0 (z-48) _ _ _ hW3 (IsW.small (by omega) (by omega))).mono ?_;rintro e w4 ⟨sh,sl,rfl,hW4,g4⟩;have M4:=Lh (M3.out.after g4);obtain⟨_,a0,a1,f0,f1,r0,r1,q0,q1,bel,_,s0,s1,s2⟩:=M4.out;have s3:w.heap.size≠w1.heap.size:=(by omega)))
     have M5:=M4.out.put sh sl
     refine bodyPost_ret (v:= .tuple #[.agg #[.int .u64 0, .int .u64 0], .int .i64 3]) (by simp[results,Tryz.results132,go_sem,M5.r0,M5.r1]) rfl ⟨0,0,by rw[capC_out hall.out],by rw[capN_out hall.out];exact IsW.zero,?_⟩
     exact(M5.bel.setCell (by simp) _).setCell (by simp) _
   ·have hc1:capC (N*10)=3:=capC_out o1
    have hall:=Lh (ho1.out o1)
    replace o1:=Lh o1
    go_wp2_with (go_at_call 146;refine(more_ten ah al N _ hW).mono ?_;rintro e w3 ⟨th,tl,rfl,hW3,g3⟩;have M3:=Lh (M2.out.after g3);obtain⟨_,a0,a1,f0,f1,r0,r1,q0,q1,bel,_,s0,s1,s2⟩:=M3.out)
    refine bodyPost_ret (v:= .tuple #[.agg #[.int .u64 0, .int .u64 0], .int .i64 3]) (by simp[results,Tryz.results132,go_sem,r0,r1,s0]) rfl ⟨0,0,by rw[capC_out hall.out],by rw[capN_out hall.out];exact IsW.zero,?_⟩
    exact((bel.setCell (by simp) _).setCell (by simp) _).alloc (by simp;omega) _
  ·obtain rfl:pos=s.size:=by omega
   have hnx: ∀ty,(Instr.next (.pointer (some ⟨w1.heap.size+1,0,none⟩)) true ty).run Tryz.prog wr=_:=fun ty=>Lib.run_next_end_at wr (w1.heap.size+1) s s.size ty hM.it (Nat.lt_irrefl _)
   have hN:(nums s).take s.size=nums s:=by rw[←nums_length,List.take_length]
   rw[hN]at hW
   have hW2:=Lh hW
   replace hN:=Lh hN
   obtain⟨_,a0,a1,f0,f1,r0,r1,q0,q1,bel,_,s0,s1,s2⟩:=hM
   clear hW
   go_wp2
   refine bodyPost_ret (v:= .tuple #[.agg #[.int .u64 ah, .int .u64 al], .int .i64 0]) (by simp[results,Tryz.results132,go_sem,r0,r1]) rfl ⟨ah,al,by rw[capC_in hW2.out.lt],by rw[capN_in hW2.out.lt];exact hW2.out,?_⟩
   exact(bel.setCell (by simp) _).setCell (by simp) _
end
section
open Go.RowKit
structure PMem (w wr:World) (f:Nat) (ah al:Int) (xs:List Int):Prop where
 c0:wr.cell? ⟨w.heap.size,0,none⟩=some (.int .u64 ah)
 c1:wr.cell? ⟨w.heap.size,1,none⟩=some (.int .u64 al)
 f0:wr.frozen? ⟨w.heap.size,0,none⟩=false
 f1:wr.frozen? ⟨w.heap.size,1,none⟩=false
 row: ∀i,i<39→∃v,wr.cell? ⟨w.heap.size+1,i,none⟩=some v
 free: ∀i,i<39→wr.frozen? ⟨w.heap.size+1,i,none⟩=false
 got: ∀i,i<xs.length→wr.cell? ⟨w.heap.size+1,f+i,none⟩=some (.int .u8 (xs.getD i 0))
 bel:Below w.heap.size w wr
 size:w.heap.size+1<wr.heap.size
theorem ten {h l:Int} {a:Nat} (h1:IsW h l (a/10)):IsW h l (a/10):=h1
end
section
open Go.RowKit
def DecAt (A a:Nat) (xs:List Int):Prop:=(a=0∧dec A=xs)∨(1≤a∧dec A=dec a++xs)
structure SpAt (N k m:Nat) (xs:List Int):Prop where
 all:sp units N=xs++sp (units.drop k) m
 le:m≤253402300799
 len:xs.length≤40*k
end
section
open Go.RowKit
def SpanOut (zs:List Int) (x c:Int):Prop:=((∀N,¬Tells zs N)∧x=0∧c=5)∨∃N,Tells zs N∧((253402300799<N∧x=0∧c=8)∨(N≤253402300799∧x=(N:Int)∧c=0))
def GivesSpan (zs:List Int) (w:World) (e:Ending) (w':World):Prop:= ∃x c:Int,e= .returned (.tuple #[.int .i64 x, .int .i64 c])∧SpanOut zs x c∧Below w.heap.size w w'
theorem GivesSpan.word {zs:List Int} {w w':World} (h: ∀N,¬Tells zs N) (hb:Below w.heap.size w w'):GivesSpan zs w (.returned (.tuple #[.int .i64 0, .int .i64 5])) w':=⟨0,5,rfl,Or.inl ⟨h,rfl,rfl⟩,hb⟩
theorem GivesSpan.far {zs:List Int} {w w':World} {N:Nat} (h:Tells zs N) (hN:253402300799<N) (hb:Below w.heap.size w w'):GivesSpan zs w (.returned (.tuple #[.int .i64 0, .int .i64 8])) w':=⟨0,8,rfl,Or.inr ⟨N,h,Or.inl ⟨hN,rfl,rfl⟩⟩,hb⟩
theorem GivesSpan.fine {zs:List Int} {w w':World} {N:Nat} {x:Int} (h:Tells zs N) (hN:N≤253402300799) (hx:x=(N:Int)) (hb:Below w.heap.size w w'):GivesSpan zs w (.returned (.tuple #[.int .i64 x, .int .i64 0])) w':=⟨x,0,rfl,Or.inr ⟨N,h,Or.inr ⟨hN,hx,rfl⟩⟩,hb⟩
structure RdS (zs:List Int) (i acc:Nat) (last sum:Int) (far:Bool):Prop where
 run:runs St0 (zs.take i)=some ⟨acc,last.toNat,none⟩
 l0:1≤last
 l1:last≤1000000
 s0:0≤sum
 s1:sum≤253402300799
 near:far=false→sum=(acc:Int)
 over:far=true→253402300799<acc
structure InS (zs:List Int) (i k acc:Nat) (last n:Int) (N:Nat):Prop where
 run:runs St0 (zs.take k)=some ⟨acc,last.toNat,if k=i then none else some N⟩
 zero:k=i→N=0
 n0:0≤n
 n1:n≤2534023007999
 near:n≤253402300799→n=(N:Int)
 over:253402300799<n→253402300799<N
end
section
open Go.RowKit
end
section
open Go.RowKit
def Tab (w:World):Prop:=Lib.TabBelow Tryz.prog w.heap.size w "internal/strconv.uint64pow10" .u64 Lib.pow10Tab
end
section
open Go.RowKit
def deTab:List Int:= [0,1,56,2,57,49,28,3,61,58,42,50,38,29,17,4,62,47,59,36,45,43,51,22,53,39,33,30,24,18,12,5,63,55,48,27,60,41,37,16,46,35,44,21,52,32,23,11,54,26,40,15,34,20,31,10,25,14,19,9,13,8,7,6]
def DeB (w:World):Prop:=Lib.TabBelow Tryz.prog w.heap.size w "math/bits.deBruijn64tab" .u8 deTab
def Utf (w:World):Prop:=Lib.Utf8Tabs 0 1 w
theorem Utf.step {w w':World} (h:Utf w) (hb:Below w.heap.size w w'):Utf w':=Utf8Tabs_below h hb
theorem utf_of_laid {laid:List (String×DataW Unit)} {W:World} (h:laidMet Tryz.prog laid W) (h3:("unicode/utf8.first",Lib.firstData)∈laid) (h4:("unicode/utf8.acceptRanges",Lib.acceptData)∈laid):Utf W:=
 Tryz.utf8_tabs (Lib.laidMet.reads h h3) (Lib.laidMet.reads h h4)
def Env (w:World):Prop:=Utf w
theorem Env.step {w w':World} (h:Env w) (hb:Below w.heap.size w w'):Env w':=Utf.step h hb
theorem Env.utf {w:World} (h:Env w):Utf w:=h
def EnvQ (w:World):Prop:=DeB w∧Utf w∧Tab w
end
section
open Go.RowKit
end
section
open Go.RowKit
theorem runes_len (zs:List Int):(runesOf zs).length≤zs.length:=by
 have key: ∀n i,zs.length-i≤n→(rfrom zs i).length≤zs.length-i:=by
  intro n
  induction n with
  |zero=>intro i hi;rw[rfrom_out (by omega)];simp
  |succ n ih=>
   intro i hi
   by_cases h:i<zs.length
   ·rw[rfrom_in h,List.length_cons]
    have h1:=widA_pos zs i
    have h2:=ih (i+widA zs i) (by omega)
    omega
   ·rw[rfrom_out h];simp
 have:=key zs.length 0 (by omega)
 unfold runesOf;omega
def GivesQ (A:Prop) (w:World) (e:Ending) (w':World):Prop:= ∃q:Bool,e= .returned (.bool q)∧(q=true↔A)∧Below w.heap.size w w'
theorem GivesQ.yes {A:Prop} {w w':World} (h:A) (hb:Below w.heap.size w w'):GivesQ A w (.returned (.bool true)) w':=⟨true,rfl,⟨fun _=>h,fun _=>rfl⟩,hb⟩
theorem GivesQ.no {A:Prop} {w w':World} (h: ¬A) (hb:Below w.heap.size w w'):GivesQ A w (.returned (.bool false)) w':=⟨false,rfl,⟨fun e=>Bool.noConfusion e,fun e=>(h e).elim⟩,hb⟩
end
section
open Go.RowKit
end
section
open Go.RowKit
end
section
open Go.RowKit
theorem right_yes (p:Int) (w:World) (h:p≤1000000):Calls Tryz.prog 152 #[.int .u32 p] w fun e w'=>e= .returned (.bool true)∧w=w':=by
 go_enter Tryz.func152,Tryz.ntmps152
 go_wp2
 go_ret
 exact⟨rfl,rfl⟩
theorem right_no (p:Int) (w:World) (h: ¬p≤1000000):Calls Tryz.prog 152 #[.int .u32 p] w fun e w'=>e= .returned (.bool false)∧w=w':=by
 have hd:decide (p≤1000000)=false:=by simpa using h
 clear h
 go_enter Tryz.func152,Tryz.ntmps152
 go_wp2
 go_ret
 exact⟨rfl,rfl⟩
def GivesCut (q r:Nat) (c:Int) (w:World) (e:Ending) (w':World):Prop:= ∃x y:Int,e= .returned (.tuple #[.int .u64 x, .int .u64 y, .int .i64 c])∧0≤x∧x≤18446744073709551615∧x.toNat=q∧0≤y∧y≤18446744073709551615∧y.toNat=r∧Below w.heap.size w w'
def GivesPC (N:Nat) (c:Int) (w:World) (e:Ending) (w':World):Prop:= ∃x:Int,e= .returned (.tuple #[.int .u32 x, .int .i64 c])∧0≤x∧x≤4294967295∧x.toNat=N∧Below w.heap.size w w'
end
end Go.Proofs.YtalcagmhdppdjaaGreatDoor
