/-
  The document's get: walked.
-/
import Derived.Test.YtalcagmhdppdjaaGreatDoorPkCompileTurns16
namespace Go.Proofs.YtalcagmhdppdjaaGreatDoor
open List renaming getD_eq_getElem?_getD→Mk,getElem?_eq_getElem→Kh,length_append→Kq,length_cons→Jq
open Or renaming inr→Mx,inl→My
open World renaming cell?_of_block→Kk
section
open Go.RowKit
def CK (w w':World):Prop:= ∀a y,w.cell? a=some y→w'.cell? a=some y
theorem cell_lt {w:World} {a:Addr} {y:Value} (h:w.cell? a=some y):a.block<w.heap.size:=World.block_lt_of_cell? _ _ h
theorem CK.of {w w':World} (h:Below w.heap.size w w'):CK w w':=fun _ _ e=>(Kk (h.block _ (cell_lt e))).trans e
theorem CK.map {w w':World} {b:Nat} {hm:ByteArray→Option Value} (h:w.grownBy w' (some b)) (H:HIs w b hm):CK w w':=fun a y e=>by
 refine(Kk (h.block _ (cell_lt e) (fun e2=>?_))).trans e
 injection e2 with e2
 obtain⟨es,clock,h1,_⟩:=H
 unfold World.cell? at e
 rw[e2,h1]at e
 cases e
theorem NumAt.ck {w w':World} {B:Nat} {ofn:FuncId} {lo hi:Int} {sv:Value} (h:NumAt w B ofn lo hi sv) (c:CK w w'):NumAt w' B ofn lo hi sv:=⟨c _ _ h.c0,c _ _ h.c1,c _ _ h.c2,c _ _ h.c3⟩
def numFn (B:Nat):Value:= .func (.func 121) #[] #[.pointer (some ⟨B,0,none⟩), .pointer (some ⟨B+1,0,none⟩), .pointer (some ⟨B+2,0,none⟩), .pointer (some ⟨B+3,0,none⟩)]
def SpanV (b1:Nat) (ofn sf:FuncId) (lo hi:Int) (tb ti:Nat) (v:Value) (w:World):Prop:=
 ∃bx B,v=numFn B∧b1≤bx∧b1≤B∧w.cell? ⟨bx,0,none⟩=some (.pointer (some ⟨tb,ti,none⟩))∧NumAt w B ofn lo hi (.func (.func sf) #[] #[.pointer (some ⟨bx,0,none⟩)])
def PlainV (b1:Nat) (ofn:FuncId) (lo hi:Int) (sv v:Value) (w:World):Prop:= ∃B,v=numFn B∧b1≤B∧NumAt w B ofn lo hi sv
theorem SpanV.ck {b1:Nat} {ofn sf:FuncId} {lo hi:Int} {tb ti:Nat} {v:Value} {w w':World} (h:SpanV b1 ofn sf lo hi tb ti v w) (c:CK w w'):SpanV b1 ofn sf lo hi tb ti v w':=by
 obtain⟨bx,B,e,h1,h2,h3,h4⟩:=h
 exact⟨bx,B,e,h1,h2,c _ _ h3,h4.ck c⟩
theorem PlainV.ck {b1:Nat} {ofn:FuncId} {lo hi:Int} {sv v:Value} {w w':World} (h:PlainV b1 ofn lo hi sv v w) (c:CK w w'):PlainV b1 ofn lo hi sv v w':=by
 obtain⟨B,e,h1,h2⟩:=h
 exact⟨B,e,h1,h2.ck c⟩
def hOf (tab:List (ByteArray×Nat×Nat)) (u:Nat→Value) (L:Nat→Bool) (s:ByteArray):Option Value:=
 match tab.find? (fun t=>t.1=s)with
 |some t=>if L t.2.1 then some (u t.2.2)else none
 |none=>none
structure JMap (tab:List (ByteArray×Nat×Nat)) (km kc:Nat) (w1:World) (u:Nat→Value) (L:Nat→Bool) (w:World):Prop where
 bel:Below w1.heap.size w1 w
 map:L km=true→∃B,u km= .map (some B)∧w1.heap.size≤B∧HIs w B (hOf tab u L)
 ord: ∀t∈tab,L t.2.1=true→L t.2.2=true∧L km=true
 cpy:L kc=true→L km=true∧u kc=u km
section
variable {tab:List (ByteArray×Nat×Nat)} {km kc:Nat} {w1 w w':World} {u:Nat→Value} {L:Nat→Bool}
theorem JMap.start (tab:List (ByteArray×Nat×Nat)) (km kc:Nat) (w1:World) (u:Nat→Value):JMap tab km kc w1 u (fun _=>false) w1.drew:=⟨(Below.refl _ _).drew,fun h=>(by cases h),fun t _ h=>(by cases h),fun h=>(by cases h)⟩
theorem hOf_light {k:Nat} {v:Value} (hk: ∀t∈tab,t.2.1≠k) (hL:L k=false) (ho: ∀t∈tab,L t.2.1=true→L t.2.2=true):hOf tab (upd u k v) (setL L k)=hOf tab u L:=by
 funext s
 unfold hOf
 cases hf:tab.find? (fun t=>t.1=s)with
 |none=>rfl
 |some t=>
  have hm:=List.mem_of_find?_eq_some hf
  simp only
  rw[setL_ne L (hk t hm)]
  by_cases h:L t.2.1=true
  ·rw[if_pos h,if_pos h]
   have:t.2.2≠k:=fun e=>by have:=ho t hm h;rw[e,hL]at this;cases this
   unfold upd;rw[if_neg this]
  ·rw[if_neg h,if_neg h]
theorem JMap.light (h:JMap tab km kc w1 u L w) (k:Nat) (hkm:km≠k) (hkc:kc≠k) (hk: ∀t∈tab,t.2.1≠k) (hL:L k=false) (hb:Below w.heap.size w w') (v:Value):JMap tab km kc w1 (upd u k v) (setL L k) w':=by
 refine⟨h.bel.trans (hb.mono h.bel.size),fun hm=>?_,fun t ht hi=>?_,fun hc=>?_⟩
 ·rw[setL_ne L hkm]at hm
  obtain⟨B,e,h1,h2⟩:=h.map hm
  refine⟨B,by unfold upd;rw[if_neg hkm];exact e,h1,?_⟩
  rw[hOf_light hk hL (fun t ht hi=>(h.ord t ht hi).1)]
  exact h2.keep (hb.block B h2.lt)
 ·rw[setL_ne L (hk t ht)]at hi
  obtain⟨h1,h2⟩:=h.ord t ht hi
  refine⟨?_,by rw[setL_ne L hkm];exact h2⟩
  by_cases e:t.2.2=k
  ·rw[e,setL_self]
  ·rw[setL_ne L e];exact h1
 ·rw[setL_ne L hkc]at hc
  rw[setL_ne L hkm]
  unfold upd;rw[if_neg hkm,if_neg hkc];exact h.cpy hc
theorem JMap.copy (h:JMap tab km kc w1 u L w) (hkm:km≠kc) (hk: ∀t∈tab,t.2.1≠kc) (hL:L kc=false) (hm:L km=true):JMap tab km kc w1 (upd u kc (u km)) (setL L kc) w:=by
 refine⟨h.bel,fun _=>?_,fun t ht hi=>?_,fun _=>?_⟩
 ·obtain⟨B,e,h1,h2⟩:=h.map hm
  refine⟨B,by unfold upd;rw[if_neg hkm];exact e,h1,?_⟩
  rw[hOf_light hk hL (fun t ht hi=>(h.ord t ht hi).1)]
  exact h2
 ·rw[setL_ne L (hk t ht)]at hi
  obtain⟨h1,h2⟩:=h.ord t ht hi
  refine⟨?_,by rw[setL_ne L hkm];exact h2⟩
  by_cases e:t.2.2=kc
  ·rw[e,setL_self]
  ·rw[setL_ne L e];exact h1
 ·rw[setL_ne L hkm]
  unfold upd;rw[if_neg hkm,if_pos rfl];exact⟨hm,rfl⟩
theorem JMap.made (h:JMap tab km kc w1 u L w) (hkc:kc≠km) (hk: ∀t∈tab,t.2.1≠km∧t.2.2≠km) (hL:L km=false):JMap tab km kc w1 (upd u km (.map (some w.heap.size))) (setL L km) (w.alloc (.map #[] 0)):=by
 refine⟨h.bel.trans ((Below.refl _ _).alloc h.bel.size _),fun _=>⟨w.heap.size,by unfold upd;rw[if_pos rfl],h.bel.size,?_⟩,fun t ht hi=>?_,fun hc=>?_⟩
 ·have e:hOf tab (upd u km (.map (some w.heap.size))) (setL L km)=fun _=>none:=by
   funext s
   unfold hOf
   cases hf:tab.find? (fun t=>t.1=s)with
   |none=>rfl
   |some t=>
    have hm:=List.mem_of_find?_eq_some hf
    simp only
    rw[setL_ne L (hk t hm).1,if_neg]
    intro hi
    have:=(h.ord t hm hi).2
    rw[hL]at this;cases this
  rw[e]
  exact HIs.made w
 ·rw[setL_ne L (hk t ht).1]at hi
  have:=(h.ord t ht hi).2
  rw[hL]at this;cases this
 ·rw[setL_ne L hkc]at hc
  have:=(h.cpy hc).1
  rw[hL]at this;cases this
theorem JMap.ins (h:JMap tab km kc w1 u L w) {s:ByteArray} {k kv:Nat} (hf:tab.find? (fun t=>t.1=s)=some (s,k,kv)) (hd: ∀t∈tab,t.2.1=k→t=(s,k,kv)) (hkm:km≠k) (hkc:kc≠k) (hkv: ∀t∈tab,t.2.2≠k) (hL:L k=false) (hv:L kv=true) (hm:L km=true):
  ∃B w',u km= .map (some B)∧(Instr.mapUpdate 89 (.map (some B)) (.string s) (u kv)).run Tryz.prog w= .ok () w'∧CK w w'∧∀v,JMap tab km kc w1 (upd u k v) (setL L k) w':=by
 obtain⟨B,e,h1,h2⟩:=h.map hm
 have hs:hOf tab u L s=none:=by unfold hOf;rw[hf];simp only;rw[hL];rfl
 obtain⟨w',hr,h3,h4⟩:=h2.insert hs (u kv)
 refine⟨B,w',e,hr,CK.map h4 h2,fun v=>⟨?_,fun _=>⟨B,by unfold upd;rw[if_neg hkm];exact e,h1,?_⟩,fun t ht hi=>?_,fun hc=>?_⟩⟩
 ·exact h.bel.trans ⟨h4.os,h4.tape,h4.output,h4.size,fun i hi=>h4.block i (Nat.lt_of_lt_of_le hi h.bel.size) (fun e=>by injection e with e;omega)⟩
 ·have e2:hOf tab (upd u k v) (setL L k)=fun t=>if t=s then some (u kv)else hOf tab u L t:=by
   funext r
   by_cases hr:r=s
   ·subst hr
    rw[if_pos rfl]
    unfold hOf
    rw[hf]
    simp only
    rw[setL_self,if_pos rfl]
    have:kv≠k:=hkv _ (List.mem_of_find?_eq_some hf)
    unfold upd;rw[if_neg this]
   ·rw[if_neg hr]
    unfold hOf
    cases hg:tab.find? (fun t=>t.1=r)with
    |none=>rfl
    |some t=>
     have hm:=List.mem_of_find?_eq_some hg
     have hn:t.1=r:=by simpa using List.find?_some hg
     have hne:t.2.1≠k:=fun e=>hr (by have:=hd t hm e;rw[this]at hn;exact hn.symm)
     simp only
     rw[setL_ne L hne]
     unfold upd;rw[if_neg (hkv t hm)]
  rw[e2]
  exact h3
 ·by_cases ek:t.2.1=k
  ·have:=hd t ht ek
   subst this
   exact⟨by rw[setL_ne L (hkv _ ht)];exact hv,by rw[setL_ne L hkm];exact hm⟩
  ·rw[setL_ne L ek]at hi
   obtain⟨q1,q2⟩:=h.ord t ht hi
   exact⟨by rw[setL_ne L (hkv t ht)];exact q1,by rw[setL_ne L hkm];exact q2⟩
 ·rw[setL_ne L hkc]at hc
  rw[setL_ne L hkm]
  unfold upd;rw[if_neg hkm,if_neg hkc];exact h.cpy hc
theorem hOf_all (htab: ∀t∈tab,L t.2.1=true) (s:ByteArray):hOf tab u L s=(tab.find? (fun t=>t.1=s)).map (fun t=>u t.2.2):=by
 unfold hOf
 cases hf:tab.find? (fun t=>t.1=s)with
 |none=>rfl
 |some t=>simp only[Option.map_some];rw[if_pos (htab t (List.mem_of_find?_eq_some hf))]
end
end
section
open Go.RowKit
structure CtxC (fpv:Value) (X:List Flt→Foot→World→Prop):Prop where
 lt: ∀F O w,X F O w→∀b,O b→b<w.heap.size
 keep: ∀F O w w',X F O w→(∀b,O b→w'.heap[b]?=w.heap[b]?)→X F O w'
 add: ∀F O w c a b,X F O w→F.length≤1000000→Calls Tryz.prog 57 #[fpv, .int .i64 c, .agg #[.int .i64 a, .int .i64 b]] w fun e w'=>e= .returned (.tuple #[])∧∃O',X (F++ [(c,a,b)]) O' w'∧Frm O w w'∧Grown O O' w.heap.size
theorem Doing.of {M:List It→List Flt→Foot→World→Prop} {fpv:Value} (h: ∀cs,CtxC fpv (M cs)):Doing M fpv:=⟨fun cs=>(h cs).lt,fun cs=>(h cs).keep,fun cs=>(h cs).add⟩
def SepV (X:List Flt→Foot→World→Prop) (rb:Nat) (l:List Value) (F:List Flt) (O:Foot) (w:World):Prop:= ∃O1,X F O1 w∧¬O1 rb∧(∀i,O i↔O1 i∨i=rb)∧VarL w rb l
theorem SepV.ctx {fpv:Value} {X:List Flt→Foot→World→Prop} (h:CtxC fpv X) (rb:Nat) (l:List Value):CtxC fpv (SepV X rb l):=by
 refine⟨?_,?_,?_⟩
 ·rintro F O w ⟨O1,h1,_,h3,h4⟩ b hb
  rcases(h3 b).mp hb with hb|rfl
  ·exact h.lt _ _ _ h1 b hb
  ·exact h4.s
 ·rintro F O w w' ⟨O1,h1,h2,h3,h4⟩ hk
  exact⟨O1,h.keep _ _ _ _ h1 (fun b hb=>hk b ((h3 b).mpr (My hb))),h2,h3,h4.stay (hk rb ((h3 rb).mpr (Mx rfl)))⟩
 ·rintro F O w c a b ⟨O1,h1,h2,h3,h4⟩ hl
  refine(h.add F O1 w c a b h1 hl).mono ?_
  rintro e w' ⟨rfl,O2,q1,q2,q3⟩
  refine⟨rfl,fun i=>O2 i∨i=rb,⟨O2,q1,fun e=>?_,fun i=>Iff.rfl,q2.var h4 h2⟩,q2.wider (fun i hi=>(h3 i).mpr (My hi)),fun i hi=>?_⟩
  ·rcases q3 rb e with e|e
   ·exact h2 e
   ·have:=h4.s;omega
  ·rcases hi with hi|rfl
   ·exact(q3 i hi).imp (fun e=>(h3 i).mpr (My e)) id
   ·exact My ((h3 i).mpr (Mx rfl))
theorem SepV.set {fpv:Value} {X:List Flt→Foot→World→Prop} (hX:CtxC fpv X) {rb:Nat} {l:List Value} {F:List Flt} {O:Foot} {w:World} (h:SepV X rb l F O w) (i:Nat) (x:Value) (hi:i<l.length):SepV X rb (l.set i x) F O (w.setCell ⟨rb,i,none⟩ x):=by
 obtain⟨O1,h1,h2,h3,h4⟩:=h
 exact⟨O1,hX.keep _ _ _ _ h1 (fun b hb=>lset_else _ _ _ _ _ (fun e=>h2 (by rw[←e];exact hb))),h2,h3,h4.set i x hi⟩
theorem SepV.var {X:List Flt→Foot→World→Prop} {rb:Nat} {l:List Value} {F:List Flt} {O:Foot} {w:World} (h:SepV X rb l F O w):O rb∧VarL w rb l:=by
 obtain⟨O1,_,_,h3,h4⟩:=h
 exact⟨(h3 rb).mpr (Mx rfl),h4⟩
def ruleL (nm:ByteArray) (pg:Bool) (cs:List It):List Value:= [.string nm, .bool pg, .int .i64 (getS cs nLong 0), .int .i64 (getS cs nShort 0), .int .u64 (getS cs nFactor 0), .int .i64 (getS cs nFor 0), .int .i64 (getS cs nKeep 0)]
def M2 (X:List Flt→Foot→World→Prop) (rb:Nat) (nm:ByteArray) (pg:Bool) (cs:List It):List Flt→Foot→World→Prop:=SepV X rb (ruleL nm pg cs)
theorem M2.doing {fpv:Value} {X:List Flt→Foot→World→Prop} (h:CtxC fpv X) (rb:Nat) (nm:ByteArray) (pg:Bool):Doing (M2 X rb nm pg) fpv:=Doing.of fun _=>SepV.ctx h rb _
theorem rule_long {cs:List It} {x:It} (hx:x.name=nLong) (h:codeS 2 cs x=0) (nm:ByteArray) (pg:Bool):ruleL nm pg (cs++ [x])=(ruleL nm pg cs).set 2 (.int .i64 (numS x)):=by
 have e:=code_get h (p:=⟨nLong,[6],false,1,1,34560000⟩) (by rw[hx];rfl) rfl 0
 rw[hx]at e
 unfold ruleL
 rw[e,getS_ne (by rw[hx];decide),getS_ne (by rw[hx];decide),getS_ne (by rw[hx];decide),getS_ne (by rw[hx];decide)];rfl
theorem rule_short {cs:List It} {x:It} (hx:x.name=nShort) (h:codeS 2 cs x=0) (nm:ByteArray) (pg:Bool):ruleL nm pg (cs++ [x])=(ruleL nm pg cs).set 3 (.int .i64 (numS x)):=by
 have e:=code_get h (p:=⟨nShort,[6],false,1,1,34560000⟩) (by rw[hx];rfl) rfl 0
 rw[hx]at e
 unfold ruleL
 rw[e,getS_ne (by rw[hx];decide),getS_ne (by rw[hx];decide),getS_ne (by rw[hx];decide),getS_ne (by rw[hx];decide)];rfl
theorem rule_factor {cs:List It} {x:It} (hx:x.name=nFactor) (h:codeS 2 cs x=0) (nm:ByteArray) (pg:Bool):ruleL nm pg (cs++ [x])=(ruleL nm pg cs).set 4 (.int .u64 (numS x)):=by
 have e:=code_get h (p:=⟨nFactor,[4],false,1,1,1000000⟩) (by rw[hx];rfl) rfl 0
 rw[hx]at e
 unfold ruleL
 rw[e,getS_ne (by rw[hx];decide),getS_ne (by rw[hx];decide),getS_ne (by rw[hx];decide),getS_ne (by rw[hx];decide)];rfl
theorem rule_for {cs:List It} {x:It} (hx:x.name=nFor) (h:codeS 2 cs x=0) (nm:ByteArray) (pg:Bool):ruleL nm pg (cs++ [x])=(ruleL nm pg cs).set 5 (.int .i64 (numS x)):=by
 have e:=code_get h (p:=⟨nFor,[6],false,1,0,604800⟩) (by rw[hx];rfl) rfl 0
 rw[hx]at e
 unfold ruleL
 rw[e,getS_ne (by rw[hx];decide),getS_ne (by rw[hx];decide),getS_ne (by rw[hx];decide),getS_ne (by rw[hx];decide)];rfl
theorem rule_keep {cs:List It} {x:It} (hx:x.name=nKeep) (h:codeS 2 cs x=0) (nm:ByteArray) (pg:Bool):ruleL nm pg (cs++ [x])=(ruleL nm pg cs).set 6 (.int .i64 (numS x)):=by
 have e:=code_get h (p:=⟨nKeep,[6],false,1,0,604800⟩) (by rw[hx];rfl) rfl 0
 rw[hx]at e
 unfold ruleL
 rw[e,getS_ne (by rw[hx];decide),getS_ne (by rw[hx];decide),getS_ne (by rw[hx];decide),getS_ne (by rw[hx];decide)];rfl
theorem span_spec {wh:Nat} {p:Spc} {k0:Int} (h1:p.most=1) (h2:p.block=false) (h3:p.kinds= [k0]) (h4:p.name≠nCalendar) (h5:p.name≠nRule) (h6:p.name≠nFactor) (h7:0≤p.lo) (h8:p.hi≤34560000):NumSpec wh p k0 (fun t=>t.k=k0) (fun t=>t.n):=
 ⟨h1,h2,h3,h4,h5,fun t=>⟨My,fun e=>e.elim id (fun e=>(h6 e.1).elim)⟩,h7,h8,fun t _ _=>by unfold numW;rw[if_neg (fun e=>h6 e.1)],fun t _ _ _ _=>by unfold numW;rw[if_neg (fun e=>h6 e.1)]⟩
theorem factor_spec {wh:Nat} :NumSpec wh ⟨nFactor,[4],false,1,1,1000000⟩ 4 (fun t=>t.k=4∨t.k=3) facV:=by
 refine⟨rfl,rfl,rfl,by decide,by decide,fun t=>⟨fun e=>e.imp id (fun e=>⟨rfl,e⟩),fun e=>e.imp id (fun e=>e.2)⟩,by decide,by decide,fun t h h0=>?_,fun t h h0 h1 h2=>?_⟩
 ·unfold numW facV
  by_cases h3:t.k=3
  ·rw[if_pos h3,if_pos ⟨rfl,h3⟩]
   simp only
   split<;>omega
  ·rw[if_neg h3,if_neg (fun e=>h3 e.2)]
 ·unfold numW facV at*
  simp only at h1 h2
  by_cases h3:t.k=3
  ·rw[if_pos h3]at h1 h2 ⊢
   rw[if_pos ⟨rfl,h3⟩]
   split<;>omega
  ·rw[if_neg h3,if_neg (fun e=>h3 e.2)]
theorem span_sets {K:Foot} {w0:World} {bx tb ti:Nat} (hc:w0.cell? ⟨bx,0,none⟩=some (.pointer (some ⟨tb,ti,none⟩))) (hK:K bx):SetsC K w0 (.func (.func 102) #[] #[.pointer (some ⟨bx,0,none⟩)]) tb ti .i64:=
 ⟨_,_,_,rfl,enters_of Tryz.func102 (by kernel_rfl) rfl,fun W n l hk hV hi h0 h9=>span1_any bx tb ti n l W ((Kk (a:=⟨bx,0,none⟩) (hk bx hK)).trans hc) hV hi h0 h9⟩
theorem count_sets {K:Foot} {w0:World} {bx tb ti:Nat} (hc:w0.cell? ⟨bx,0,none⟩=some (.pointer (some ⟨tb,ti,none⟩))) (hK:K bx):SetsC K w0 (.func (.func 100) #[] #[.pointer (some ⟨bx,0,none⟩)]) tb ti .i64:=
 ⟨_,_,_,rfl,enters_of Tryz.func100 (by kernel_rfl) rfl,fun W n l hk hV hi h0 h9=>count1_any bx tb ti n l W ((Kk (a:=⟨bx,0,none⟩) (hk bx hK)).trans hc) hV hi h0 h9⟩
theorem factor_sets (K:Foot) (w0:World) (rb:Nat):SetsC K w0 (.func (.func 125) #[] #[.pointer (some ⟨rb,0,none⟩)]) rb 4 .u64:=
 ⟨_,_,_,rfl,enters_of Tryz.func125 (by kernel_rfl) rfl,fun W n l _ hV hi _ _=>rule1_any rb n l W hV hi⟩
theorem target_sets {K:Foot} {w0:World} {bx gb:Nat} (hc:w0.cell? ⟨bx,0,none⟩=some (.pointer (some ⟨gb,0,none⟩))) (hK:K bx):SetsC K w0 (.func (.func 95) #[] #[.pointer (some ⟨bx,0,none⟩)]) gb 2 .u32:=
 ⟨_,_,_,rfl,enters_of Tryz.func95 (by kernel_rfl) rfl,fun W n l hk hV hi h0 h9=>read1_any bx gb n l W ((Kk (a:=⟨bx,0,none⟩) (hk bx hK)).trans hc) hV hi h0 h9⟩
theorem num_enters: ∀args W,(callFunc 121 args).run Tryz.prog W= .ok (.enter 121 args) W:=enters_of Tryz.func121 (by kernel_rfl) rfl
end
section
open Go.RowKit
def labV (l:ByteArray×ByteArray):List Value:= [.string l.1, .string l.2]
def rulV (r:RlC):List Value:= [.string r.name, .bool r.page, .int .i64 r.long, .int .i64 r.short, .int .u64 r.factor, .int .i64 r.hold, .int .i64 r.keep]
def plcV (p:Int×Int):List Value:= [.int .i64 p.1, .int .i64 p.2]
def plcC:List It→List (Int×Int)
 | []=> []
 |x::k=>(if x.name=nRule then [(x.a,x.b)]else [])++plcC k
theorem plcC_app: ∀k l:List It,plcC (k++l)=plcC k++plcC l
 | [],_=>rfl
 |x::k,l=>by rw[List.cons_append,plcC,plcC_app k l,plcC,List.append_assoc]
theorem plcC_len: ∀k:List It,(plcC k).length=(rulC k).length
 | []=>rfl
 |x::k=>by
  rw[plcC,rulC,Kq,Kq,plcC_len k]
  split<;>rfl
theorem rulC_le: ∀k:List It,(rulC k).length≤k.length
 | []=>Nat.le_refl _
 |x::k=>by
  have:=rulC_le k
  rw[rulC,Kq]
  split<;>simp only[Jq,List.length_nil]<;>omega
theorem labC_le: ∀k:List It,(labC k).length≤k.length
 | []=>Nat.le_refl _
 |x::k=>by
  have:=labC_le k
  rw[labC,Kq]
  split<;>simp only[Jq,List.length_nil]<;>omega
theorem info_lab:(Tryz.prog.info? 80).map (fun i=>(i.zero,i.size,i.bytes))=some (some (.agg #[.string ⟨#[]⟩, .string ⟨#[]⟩]),2,32):=by kernel_rfl
theorem info_rul:(Tryz.prog.info? 58).map (fun i=>(i.zero,i.size,i.bytes))=some (some (.agg #[.string ⟨#[]⟩, .bool false, .int .i64 0, .int .i64 0, .int .u64 0, .int .i64 0, .int .i64 0]),7,64):=by kernel_rfl
theorem info_plc:(Tryz.prog.info? 39).map (fun i=>(i.zero,i.size,i.bytes))=some (some (.agg #[.int .i64 0, .int .i64 0]),2,16):=by kernel_rfl
def goalL (fpv:Value) (nm:ByteArray) (cs:List It) (lv rv pv:Value):List Value:=
 [fpv, .string nm, .int .u32 (getS cs nTarget 0), .int .i64 (getS cs nGrain 60), .int .i64 (getS cs nLate 0), .int .i64 (getS cs nRolling 0), .int .i64 (calC cs 0),lv,rv,pv]
structure M1At (base:Nat) (fpv:Value) (X:List Flt→Foot→World→Prop) (gb:Nat) (nm:ByteArray) (cs:List It) (F:List Flt) (O1:Foot) (lv rv pv:Value) (w:World):Prop where
 x:X F O1 w
 var:VarL w gb (goalL fpv nm cs lv rv pv)
 lab:RowK 80 2 w base lv ((labC cs).map labV)
 rul:RowK 58 7 w base rv ((rulC cs).map rulV)
 plc:RowK 39 2 w base pv ((plcC cs).map plcV)
 gx: ¬O1 gb
 lx: ∀b,lv.ownBlock=some b→b≠gb∧¬O1 b
 rx: ∀b,rv.ownBlock=some b→b≠gb∧¬O1 b
 px: ∀b,pv.ownBlock=some b→b≠gb∧¬O1 b
 lr: ∀b,lv.ownBlock=some b→rv.ownBlock≠some b
 lp: ∀b,lv.ownBlock=some b→pv.ownBlock≠some b
 rp: ∀b,rv.ownBlock=some b→pv.ownBlock≠some b
 bg:base≤gb
def ownG (gb:Nat) (lv rv pv:Value) (i:Nat):Prop:=i=gb∨some i=lv.ownBlock∨some i=rv.ownBlock∨some i=pv.ownBlock
def M1 (base:Nat) (fpv:Value) (X:List Flt→Foot→World→Prop) (gb:Nat) (nm:ByteArray) (cs:List It) (F:List Flt) (O:Foot) (w:World):Prop:=
 ∃O1 lv rv pv,M1At base fpv X gb nm cs F O1 lv rv pv w∧∀i,O i↔O1 i∨ownG gb lv rv pv i
section
variable {base:Nat} {fpv:Value} {X:List Flt→Foot→World→Prop} {gb:Nat} {nm:ByteArray} {cs:List It} {F:List Flt} {O1:Foot} {lv rv pv:Value} {w w':World}
theorem M1At.olt (h:M1At base fpv X gb nm cs F O1 lv rv pv w) {i:Nat} (hi:ownG gb lv rv pv i):i<w.heap.size:=by
 rcases hi with rfl|e|e|e
 ·exact h.var.s
 ·exact(h.lab.lt e.symm).2
 ·exact(h.rul.lt e.symm).2
 ·exact(h.plc.lt e.symm).2
theorem M1At.ox (h:M1At base fpv X gb nm cs F O1 lv rv pv w) {i:Nat} (hi:ownG gb lv rv pv i): ¬O1 i:=by
 rcases hi with rfl|e|e|e
 ·exact h.gx
 ·exact(h.lx i e.symm).2
 ·exact(h.rx i e.symm).2
 ·exact(h.px i e.symm).2
theorem M1At.move {X':List Flt→Foot→World→Prop} {F':List Flt} {O2:Foot} (h:M1At base fpv X gb nm cs F O1 lv rv pv w) (hx:X' F' O2 w') (hk: ∀i,ownG gb lv rv pv i→w'.heap[i]?=w.heap[i]?) (ho: ∀i,ownG gb lv rv pv i→¬O2 i):M1At base fpv X' gb nm cs F' O2 lv rv pv w':=
 ⟨hx,h.var.stay (hk gb (My rfl)),h.lab.kept (fun b e=>hk b (Mx (My e.symm))),h.rul.kept (fun b e=>hk b (Mx (Mx (My e.symm)))),h.plc.kept (fun b e=>hk b (Mx (Mx (Mx e.symm)))),
  ho gb (My rfl),fun b e=>⟨(h.lx b e).1,ho b (Mx (My e.symm))⟩,fun b e=>⟨(h.rx b e).1,ho b (Mx (Mx (My e.symm)))⟩,fun b e=>⟨(h.px b e).1,ho b (Mx (Mx (Mx e.symm)))⟩,h.lr,h.lp,h.rp,h.bg⟩
theorem M1.ctx (hX:CtxC fpv X) (cs:List It):CtxC fpv (M1 base fpv X gb nm cs):=by
 refine⟨?_,?_,?_⟩
 ·rintro F O w ⟨O1,lv,rv,pv,h,ho⟩ b hb
  rcases(ho b).mp hb with hb|hb
  ·exact hX.lt _ _ _ h.x b hb
  ·exact h.olt hb
 ·rintro F O w w' ⟨O1,lv,rv,pv,h,ho⟩ hk
  exact⟨O1,lv,rv,pv,h.move (hX.keep _ _ _ _ h.x (fun b hb=>hk b ((ho b).mpr (My hb)))) (fun i hi=>hk i ((ho i).mpr (Mx hi))) (fun i hi=>h.ox hi),ho⟩
 ·rintro F O w c a b ⟨O1,lv,rv,pv,h,ho⟩ hl
  refine(hX.add F O1 w c a b h.x hl).mono ?_
  rintro e w' ⟨rfl,O2,q1,q2,q3⟩
  refine⟨rfl,fun i=>O2 i∨ownG gb lv rv pv i,⟨O2,lv,rv,pv,h.move q1 (fun i hi=>q2.keep i (h.olt hi) (h.ox hi)) (fun i hi e=>?_),fun i=>Iff.rfl⟩,q2.wider (fun i hi=>(ho i).mpr (My hi)),fun i hi=>?_⟩
  ·rcases q3 i e with e|e
   ·exact h.ox hi e
   ·have:=h.olt hi;omega
  ·rcases hi with hi|hi
   ·exact(q3 i hi).imp (fun e=>(ho i).mpr (My e)) id
   ·exact My ((ho i).mpr (Mx hi))
theorem M1.doing (hX:CtxC fpv X):Doing (M1 base fpv X gb nm) fpv:=Doing.of (M1.ctx hX)
theorem M1.var {O:Foot} (h:M1 base fpv X gb nm cs F O w):O gb∧∃l,VarL w gb l∧6<l.length:=by
 obtain⟨O1,lv,rv,pv,h,ho⟩:=h
 exact⟨(ho gb).mpr (Mx (My rfl)),_,h.var,by simp[goalL]⟩
theorem M1.num {O:Foot} (hX:CtxC fpv X) (h:M1 base fpv X gb nm cs F O w) {x:It} {i:Nat} {v:Value} (hi: ∀lv rv pv,goalL fpv nm (cs++ [x]) lv rv pv=(goalL fpv nm cs lv rv pv).set i v) (h10:i<10) (hl:labC (cs++ [x])=labC cs) (hr:rulC (cs++ [x])=rulC cs) (hp:plcC (cs++ [x])=plcC cs):M1 base fpv X gb nm (cs++ [x]) F O (w.setCell ⟨gb,i,none⟩ v):=by
 obtain⟨O1,lv,rv,pv,h,ho⟩:=h
 have hk: ∀j,j≠gb→(w.setCell ⟨gb,i,none⟩ v).heap[j]?=w.heap[j]?:=fun j hj=>lset_else _ _ _ _ _ hj
 refine⟨O1,lv,rv,pv,⟨hX.keep _ _ _ _ h.x (fun b hb=>hk b (fun e=>h.gx (by rw[←e];exact hb))),?_,?_,?_,?_,h.gx,h.lx,h.rx,h.px,h.lr,h.lp,h.rp,h.bg⟩,ho⟩
 ·rw[hi];exact h.var.set i v (by simpa [goalL] using h10)
 ·rw[hl];exact h.lab.kept (fun b e=>hk b (h.lx b e).1)
 ·rw[hr];exact h.rul.kept (fun b e=>hk b (h.rx b e).1)
 ·rw[hp];exact h.plc.kept (fun b e=>hk b (h.px b e).1)
end
theorem lab_ne {x:It} (h:x.name≠nLabel) (cs:List It):labC (cs++ [x])=labC cs:=by rw[labC_app,labC,if_neg h];simp[labC]
theorem rul_ne {x:It} (h:x.name≠nRule) (cs:List It):rulC (cs++ [x])=rulC cs:=by rw[rulC_app,rulC,if_neg h];simp[rulC]
theorem plc_ne {x:It} (h:x.name≠nRule) (cs:List It):plcC (cs++ [x])=plcC cs:=by rw[plcC_app,plcC,if_neg h];simp[plcC]
theorem cal_ne {x:It} (h:x.name≠nCalendar) (cs:List It):calC (cs++ [x]) 0=calC cs 0:=by rw[calC_app,calC,if_neg h];simp[calC]
theorem goal_ne {x:It} (h1:x.name≠nTarget) (h2:x.name≠nGrain) (h3:x.name≠nLate) (h4:x.name≠nRolling) (h5:x.name≠nCalendar) (fpv:Value) (nm:ByteArray) (cs:List It) (lv rv pv:Value):goalL fpv nm (cs++ [x]) lv rv pv=goalL fpv nm cs lv rv pv:=by
 unfold goalL
 rw[getS_ne h1,getS_ne h2,getS_ne h3,getS_ne h4,cal_ne h5]
theorem goal_target {cs:List It} {x:It} (hx:x.name=nTarget) (h:codeS 1 cs x=0) (fpv:Value) (nm:ByteArray) (lv rv pv:Value):goalL fpv nm (cs++ [x]) lv rv pv=(goalL fpv nm cs lv rv pv).set 2 (.int .u32 (numS x)):=by
 have e:=code_get h (p:=⟨nTarget,[5],false,1,1,999999⟩) (by rw[hx];rfl) rfl 0
 rw[hx]at e
 unfold goalL
 rw[e,getS_ne (by rw[hx];decide),getS_ne (by rw[hx];decide),getS_ne (by rw[hx];decide),cal_ne (by rw[hx];decide)];rfl
theorem goal_grain {cs:List It} {x:It} (hx:x.name=nGrain) (h:codeS 1 cs x=0) (fpv:Value) (nm:ByteArray) (lv rv pv:Value):goalL fpv nm (cs++ [x]) lv rv pv=(goalL fpv nm cs lv rv pv).set 3 (.int .i64 (numS x)):=by
 have e:=code_get h (p:=⟨nGrain,[6],false,1,1,86400⟩) (by rw[hx];rfl) rfl 60
 rw[hx]at e
 unfold goalL
 rw[e,getS_ne (by rw[hx];decide),getS_ne (by rw[hx];decide),getS_ne (by rw[hx];decide),cal_ne (by rw[hx];decide)];rfl
theorem goal_late {cs:List It} {x:It} (hx:x.name=nLate) (h:codeS 1 cs x=0) (fpv:Value) (nm:ByteArray) (lv rv pv:Value):goalL fpv nm (cs++ [x]) lv rv pv=(goalL fpv nm cs lv rv pv).set 4 (.int .i64 (numS x)):=by
 have e:=code_get h (p:=⟨nLate,[6],false,1,0,86400⟩) (by rw[hx];rfl) rfl 0
 rw[hx]at e
 unfold goalL
 rw[e,getS_ne (by rw[hx];decide),getS_ne (by rw[hx];decide),getS_ne (by rw[hx];decide),cal_ne (by rw[hx];decide)];rfl
theorem goal_rolling {cs:List It} {x:It} (hx:x.name=nRolling) (h:codeS 1 cs x=0) (fpv:Value) (nm:ByteArray) (lv rv pv:Value):goalL fpv nm (cs++ [x]) lv rv pv=(goalL fpv nm cs lv rv pv).set 5 (.int .i64 (numS x)):=by
 have e:=code_get h (p:=⟨nRolling,[6],false,1,1,34560000⟩) (by rw[hx];rfl) rfl 0
 rw[hx]at e
 unfold goalL
 rw[e,getS_ne (by rw[hx];decide),getS_ne (by rw[hx];decide),getS_ne (by rw[hx];decide),cal_ne (by rw[hx];decide)];rfl
theorem goal_cal {cs:List It} {x:It} (hx:x.name=nCalendar) (fpv:Value) (nm:ByteArray) (lv rv pv:Value):goalL fpv nm (cs++ [x]) lv rv pv=(goalL fpv nm cs lv rv pv).set 6 (.int .i64 (if x.w0.s=nMonth then 1 else 2)):=by
 unfold goalL
 rw[getS_ne (by rw[hx];decide),getS_ne (by rw[hx];decide),getS_ne (by rw[hx];decide),getS_ne (by rw[hx];decide),calC_app]
 simp only[calC]
 rw[if_pos hx];rfl
end
section
theorem each2_eq: ∀ {l m:List It},Each2 (fun x y=>x=y) l m→l=m
 | [],[],_=>rfl
 |x::l,y::m,h=>by rw[show x=y from h.1,each2_eq h.2]
 | [],_::_,h=>h.elim
 |_::_,[],h=>h.elim
theorem ByName.eq_trans {R:It→It→Prop} {l m k:List It} (h:ByName (fun x y=>x=y) l m) (g:ByName R m k):ByName R l k:=fun n=>by
 have:=each2_eq (h n)
 rw[this]
 exact g n
def swL (L:List It) (i:Int):List It:=
 if 0≤i∧i<(L.length:Int)-1∧(L.getD i.toNat default).name≠(L.getD (i.toNat+1) default).name then L.take i.toNat++L.getD (i.toNat+1) default::L.getD i.toNat default::L.drop (i.toNat+2)else L
theorem swL_len (L:List It) (i:Int):(swL L i).length=L.length:=by
 unfold swL
 split
 ·rename_i h
  simp only[Kq,List.length_take,Jq,List.length_drop]
  omega
 ·rfl
theorem take_twoI {L:List It} {i:Nat} (h:i+1<L.length):L=L.take i++L.getD i default::L.getD (i+1) default::L.drop (i+2):=by
 have h1:L.drop i=L.getD i default::L.drop (i+1):=by rw[List.drop_eq_getElem_cons (by omega),Mk,Kh (by omega)];rfl
 have h2:L.drop (i+1)=L.getD (i+1) default::L.drop (i+1+1):=by rw[List.drop_eq_getElem_cons h,Mk,Kh h];rfl
 rw[←h2,←h1,List.take_append_drop]
theorem swL_byname (L:List It) (i:Int):ByName (fun x y=>x=y) L (swL L i):=by
 unfold swL
 split
 ·rename_i h
  have e:=take_twoI (L:=L) (i:=i.toNat) (by omega)
  have:=swap_byname (R:=fun x y=>x=y) (fun _=>rfl) (L.take i.toNat) (L.drop (i.toNat+2)) h.2.2
  rw[←e]at this
  exact this
 ·exact fun n=>Each2.refl (fun _=>rfl) _
def It.with (x:It) (K:List It):It:= .mk x.name x.words x.block K x.a x.b
def modL (f:It→It) (i:Int) (L:List It):List It:=if 0≤i∧i<L.length then L.set i.toNat (f (L.getD i.toNat default))else L
theorem each2_set {R:It→It→Prop} (hr: ∀x,R x x) {f:It→It} (hf: ∀x,R x (f x)): ∀(L:List It) (i:Nat),Each2 R L (L.set i (f (L.getD i default)))
 | [],i=>by cases i<;>exact trivial
 |x::L,0=>⟨hf x,Each2.refl hr L⟩
 |x::L,i+1=>⟨hr x,each2_set hr hf L i⟩
theorem each2_mod {R:It→It→Prop} (hr: ∀x,R x x) {f:It→It} (hf: ∀x,R x (f x)) (i:Int) (L:List It):Each2 R L (modL f i L):=by
 unfold modL
 split
 ·exact each2_set hr hf L _
 ·exact Each2.refl hr L
theorem with_head (x:It) (K:List It):Hq x (x.with K):=by
 obtain⟨n,w,k,kids,a,b⟩:=x
 exact⟨rfl,rfl,rfl⟩
theorem with_kids (x:It) (K:List It):(x.with K).kids=K:=by
 obtain⟨n,w,k,kids,a,b⟩:=x
 rfl
def turnR (k:Int) (x:It):It:=x.with (swL x.kids k)
def turnG (j k:Int) (x:It):It:=x.with (modL (turnR k) j (swL x.kids j))
def turnL (L:List It) (i j k:Int):List It:=modL (turnG j k) i (swL L i)
theorem turnR_eq (k:Int) (x:It):EqR x (turnR k x):=⟨with_head x _,by
 unfold turnR
 rw[with_kids]
 exact(swL_byname x.kids k).eq_trans (fun n=>Each2.refl Hq.refl _)⟩
theorem turnG_eq (j k:Int) (x:It):EqG x (turnG j k x):=⟨with_head x _,by
 unfold turnG
 rw[with_kids]
 exact(swL_byname x.kids j).eq_trans (Each2.byname (fun _ _ h=>h.head.name) (each2_mod EqR.refl (turnR_eq k) j _))⟩
theorem turnL_eq (L:List It) (i j k:Int):ByName EqG L (turnL L i j k):=(swL_byname L i).eq_trans (Each2.byname (fun _ _ h=>h.head.name) (each2_mod EqG.refl (turnG_eq j k) i _))
theorem turn_conf {L:List It} (h:(lookS 0 subT L).2= []) (i j k:Int):(lookS 0 subT (turnL L i j k)).2= []∧confC L=confC (turnL L i j k):=by
 obtain⟨h1,h2⟩:=conf_byname (turnL_eq L i j k) (look_fine.mp h)
 exact⟨look_fine.mpr h1,h2⟩
end
section
structure ByOne (P:List It→Prop) (Q:It→Prop):Prop where
 nil:P []
 cons: ∀x l,P (x::l)↔Q x∧P l
theorem ByOne.all {P:List It→Prop} {Q:It→Prop} (h:ByOne P Q): ∀l:List It,P l↔∀x∈l,Q x
 | []=>by simp[h.nil]
 |x::l=>by rw[h.cons,ByOne.all h l];simp
theorem swL_mem (L:List It) (i:Int) (x:It):x∈swL L i↔x∈L:=by
 unfold swL
 split
 ·rename_i h
  have e:=take_twoI (L:=L) (i:=i.toNat) (by omega)
  conv=>rhs;rw[e]
  simp only[List.mem_append,List.mem_cons]
  constructor
  ·rintro(h|h|h|h)
   ·exact My h
   ·exact Mx (Mx (My h))
   ·exact Mx (My h)
   ·exact Mx (Mx (Mx h))
  ·rintro(h|h|h|h)
   ·exact My h
   ·exact Mx (Mx (My h))
   ·exact Mx (My h)
   ·exact Mx (Mx (Mx h))
 ·exact Iff.rfl
theorem modL_mem (f:It→It) (i:Int) (L:List It) (x:It) (h:x∈modL f i L):x∈L∨∃y∈L,x=f y:=by
 unfold modL at h
 split at h
 ·rename_i hi
  rcases List.mem_or_eq_of_mem_set h with h|h
  ·exact My h
  ·exact Mx ⟨L.getD i.toNat default,by rw[Mk,Kh (by omega)];exact List.getElem_mem _,h⟩
 ·exact My h
theorem ByOne.sw {P:List It→Prop} {Q:It→Prop} (h:ByOne P Q) {L:List It} (i:Int) (hP:P L):P (swL L i):=
 (h.all _).mpr (fun x hx=>(h.all _).mp hP x ((swL_mem L i x).mp hx))
theorem ByOne.mod {P:List It→Prop} {Q:It→Prop} (h:ByOne P Q) {f:It→It} (hf: ∀x,Q x→Q (f x)) {L:List It} (i:Int) (hP:P L):P (modL f i L):=
 (h.all _).mpr (fun x hx=>(modL_mem f i L x hx).elim ((h.all _).mp hP x) (fun⟨y,hy,e⟩=>by rw[e];exact hf y ((h.all _).mp hP y hy)))
theorem eachR_one:ByOne EachR (fun x=>EachR [x]):=⟨by simp[EachR],fun x l=>by
 obtain⟨n,w,k,kids,a,b⟩:=x
 simp only[EachR,and_true]
 constructor
 ·rintro⟨h1,h2,h3,h4,h5,h6⟩;exact⟨⟨h1,h2,h3,h4,h5⟩,h6⟩
 ·rintro⟨⟨h1,h2,h3,h4,h5⟩,h6⟩;exact⟨h1,h2,h3,h4,h5,h6⟩⟩
theorem light_one:ByOne LightL (fun x=>LightL [x]):=⟨by simp[LightL],fun x l=>by
 obtain⟨n,w,k,kids,a,b⟩:=x
 simp only[LightL,and_true]
 constructor
 ·rintro⟨h1,h2,h3⟩;exact⟨⟨h1,h2⟩,h3⟩
 ·rintro⟨⟨h1,h2⟩,h3⟩;exact⟨h1,h2,h3⟩⟩
theorem swL_nil (i:Int):swL [] i= []:=List.eq_nil_of_length_eq_zero (by rw[swL_len];rfl)
theorem modL_nil (f:It→It) (i:Int):modL f i []= []:=by
 unfold modL
 split
 ·rfl
 ·rfl
theorem each_with {x:It} {K:List It} (h:EachR [x]) (hK:EachR K) (h0:x.kids= []→K= []):EachR [x.with K]:=by
 obtain⟨n,w,k,kids,a,b⟩:=x
 simp only[EachR,and_true]at h
 show EachR [.mk n w k K a b]
 simp only[EachR,and_true]
 exact⟨h.1,h.2.1,h.2.2.1.imp id h0,h.2.2.2.1,hK⟩
theorem each_kids {x:It} (h:EachR [x]):EachR x.kids:=by
 obtain⟨n,w,k,kids,a,b⟩:=x
 simp only[EachR,and_true]at h
 exact h.2.2.2.2
theorem light_with {x:It} {K:List It} (h:LightL [x]) (hK:LightL K):LightL [x.with K]:=by
 obtain⟨n,w,k,kids,a,b⟩:=x
 simp only[LightL,and_true]at h
 show LightL [.mk n w k K a b]
 simp only[LightL,and_true]
 exact⟨h.1,hK⟩
theorem light_kids {x:It} (h:LightL [x]):LightL x.kids:=by
 obtain⟨n,w,k,kids,a,b⟩:=x
 simp only[LightL,and_true]at h
 exact h.2
theorem turn_each {L:List It} (i j k:Int) (h:EachR L):EachR (turnL L i j k):=by
 have hR: ∀x,EachR [x]→EachR [turnR k x]:=fun x hx=>each_with hx (eachR_one.sw k (each_kids hx)) (fun e=>by rw[e,swL_nil])
 have hG: ∀x,EachR [x]→EachR [turnG j k x]:=fun x hx=>each_with hx (eachR_one.mod hR j (eachR_one.sw j (each_kids hx))) (fun e=>by rw[e,swL_nil,modL_nil])
 exact eachR_one.mod hG i (eachR_one.sw i h)
theorem turn_light {L:List It} (i j k:Int) (h:LightL L):LightL (turnL L i j k):=by
 have hR: ∀x,LightL [x]→LightL [turnR k x]:=fun x hx=>light_with hx (light_one.sw k (light_kids hx))
 have hG: ∀x,LightL [x]→LightL [turnG j k x]:=fun x hx=>light_with hx (light_one.mod hR j (light_one.sw j (light_kids hx)))
 exact light_one.mod hG i (light_one.sw i h)
theorem cnt_cons (x:It) (l:List It):cntL (x::l)=cntL [x]+cntL l:=by rw[←List.singleton_append,cntL_app]
theorem dep_cons (x:It) (l:List It):depL (x::l)=max (depL [x]) (depL l):=by rw[←List.singleton_append,depL_app]
theorem swL_cnt (L:List It) (i:Int):cntL (swL L i)=cntL L∧depL (swL L i)=depL L:=by
 unfold swL
 split
 ·have e:=take_twoI (L:=L) (i:=i.toNat) (by omega)
  have h1:cntL L=cntL (L.take i.toNat++L.getD i.toNat default::L.getD (i.toNat+1) default::L.drop (i.toNat+2)):=by rw[←e]
  have h2:depL L=depL (L.take i.toNat++L.getD i.toNat default::L.getD (i.toNat+1) default::L.drop (i.toNat+2)):=by rw[←e]
  rw[h1,h2,cntL_app,cntL_app,depL_app,depL_app,cnt_cons (L.getD (i.toNat+1) default),cnt_cons (L.getD i.toNat default),cnt_cons (L.getD i.toNat default) (_::_),cnt_cons (L.getD (i.toNat+1) default) (L.drop _),dep_cons (L.getD (i.toNat+1) default),dep_cons (L.getD i.toNat default),dep_cons (L.getD i.toNat default) (_::_),dep_cons (L.getD (i.toNat+1) default) (L.drop _)]
  constructor<;>omega
 ·exact⟨rfl,rfl⟩
theorem set_cnt {f:It→It} (hf: ∀x,cntL [f x]=cntL [x]∧depL [f x]=depL [x]): ∀(L:List It) (i:Nat),cntL (L.set i (f (L.getD i default)))=cntL L∧depL (L.set i (f (L.getD i default)))=depL L
 | [],i=>by cases i<;>exact⟨rfl,rfl⟩
 |x::L,0=>by
  show cntL (f x::L)=_∧depL (f x::L)=_
  exact⟨by rw[cnt_cons (f x) L,cnt_cons x L,(hf x).1],by rw[dep_cons (f x) L,dep_cons x L,(hf x).2]⟩
 |x::L,i+1=>by
  show cntL (x::L.set i (f (L.getD i default)))=_∧depL (x::L.set i (f (L.getD i default)))=_
  exact⟨by rw[cnt_cons x (L.set i _),cnt_cons x L,(set_cnt hf L i).1],by rw[dep_cons x (L.set i _),dep_cons x L,(set_cnt hf L i).2]⟩
theorem modL_cnt {f:It→It} (hf: ∀x,cntL [f x]=cntL [x]∧depL [f x]=depL [x]) (i:Int) (L:List It):cntL (modL f i L)=cntL L∧depL (modL f i L)=depL L:=by
 unfold modL
 split
 ·exact set_cnt hf L _
 ·exact⟨rfl,rfl⟩
theorem with_cnt {x:It} {K:List It} (h:cntL K=cntL x.kids∧depL K=depL x.kids):cntL [x.with K]=cntL [x]∧depL [x.with K]=depL [x]:=by
 obtain⟨n,w,k,kids,a,b⟩:=x
 show cntL [.mk n w k K a b]=_∧depL [.mk n w k K a b]=_
 have h':cntL K=cntL kids∧depL K=depL kids:=h
 simp only[cntL,depL,h'.1,h'.2,and_self]
theorem turn_cnt (L:List It) (i j k:Int):cntL (turnL L i j k)=cntL L∧depL (turnL L i j k)=depL L:=by
 have hR: ∀x,cntL [turnR k x]=cntL [x]∧depL [turnR k x]=depL [x]:=fun x=>with_cnt (swL_cnt x.kids k)
 have hG: ∀x,cntL [turnG j k x]=cntL [x]∧depL [turnG j k x]=depL [x]:=fun x=>with_cnt (by
  have h1:=modL_cnt hR j (swL x.kids j)
  have h2:=swL_cnt x.kids j
  exact⟨h1.1.trans h2.1,h1.2.trans h2.2⟩)
 have h1:=modL_cnt hG i (swL L i)
 have h2:=swL_cnt L i
 exact⟨h1.1.trans h2.1,h1.2.trans h2.2⟩
theorem turn_right {L:List It} (h:RightL L) (i j k:Int):RightL (turnL L i j k):=
 ⟨by rw[(turn_cnt L i j k).2];exact h.deep,by rw[(turn_cnt L i j k).1];exact h.many,turn_each i j k h.each⟩
end
section
open Go.RowKit
end
section
open Go.RowKit
def KindsIs (w:World) (v:Value) (ks:List Int):Prop:= ∃a c,v= .slice a ks.length c∧∀i,i<ks.length→∃b o,a=some ⟨b,o,none⟩∧w.cell? ⟨b,o+i,none⟩=some (.int .i64 (ks.getD i 0))
end
section
open Go.RowKit
end
section
open Go.RowKit
end
end Go.Proofs.YtalcagmhdppdjaaGreatDoor
