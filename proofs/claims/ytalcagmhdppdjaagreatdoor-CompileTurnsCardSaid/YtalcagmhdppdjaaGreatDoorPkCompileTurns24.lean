/-
  Package compile's objective: handled; which function handles notify's items.
-/
import Derived.Test.YtalcagmhdppdjaaGreatDoorPkCompileTurns23
set_option maxRecDepth 100000
set_option maxHeartbeats 8000000
namespace Go.Proofs.YtalcagmhdppdjaaGreatDoor
open Lib renaming hid→Lh
open StepsJ renaming cons→Lz
open Go.RowKit.Below renaming refl→Mj
open Or renaming inr→Mx,inl→My
open List renaming length_append→Kq,take_succ_cons→Kj,take_zero→Jh
open Nat renaming lt_of_lt_of_le→Kx,le_trans→Kz
section
open Go.RowKit
theorem info_gol:(Tryz.prog.info? 54).map (fun i=>(i.zero,i.size,i.bytes))=some (some (.agg #[.string ⟨#[]⟩, .int .u32 0, .int .i64 0, .int .i64 0, .int .i64 0, .int .i64 0, .slice none 0 0, .slice none 0 0]),8,104):=by kernel_rfl
def golL (g:GlC) (lv rv:Value):List Value:= [.string g.name, .int .u32 g.target, .int .i64 g.grain, .int .i64 g.late, .int .i64 g.rolling, .int .i64 g.cal,lv,rv]
def GolV (w:World) (base:Nat) (u:List Value) (g:GlC):Prop:= ∃lv rv,u=golL g lv rv∧RowK 80 2 w base lv (g.labels.map labV)∧RowK 58 7 w base rv (g.rules.map rulV)
theorem GolV.kept {w w':World} {base:Nat} {u:List Value} {g:GlC} (h:GolV w base u g) (hk: ∀v∈u,∀b,v.ownBlock=some b→w'.heap[b]?=w.heap[b]?):GolV w' base u g:=by
 obtain⟨lv,rv,e,h1,h2⟩:=h
 exact⟨lv,rv,e,h1.kept (fun b hb=>hk lv (by rw[e];simp[golL]) b hb),h2.kept (fun b hb=>hk rv (by rw[e];simp[golL]) b hb)⟩
def notL (k:List It):List Value:= [.int .i64 (getS k nRoom 16), .int .i64 (getS k nReserve 0), .int .i64 (getS k nFirst 10), .int .i64 (getS k nCap 300), .int .i64 (getS k nRepeat 0)]
structure SrcAt (base sb:Nat) (gs:List GlC) (nl:List Value) (F:List Flt) (fv gv:Value) (us:List (List Value)) (w:World):Prop where
 flt:FltAt base sb (gv::nl) F fv w
 gol:RowK 54 8 w base gv us
 len:us.length=gs.length
 each: ∀(i:Nat) u g,us[i]?=some u→gs[i]?=some g→GolV w base u g
 go: ∀b,gv.ownBlock=some b→b≠sb∧fv.ownBlock≠some b
 un: ∀u∈us,∀v∈u,∀b,v.ownBlock=some b→b<w.heap.size∧b≠sb∧fv.ownBlock≠some b∧gv.ownBlock≠some b
 bs:base≤sb
def ownS (sb:Nat) (fv gv:Value) (us:List (List Value)) (i:Nat):Prop:=i=sb∨some i=fv.ownBlock∨some i=gv.ownBlock∨∃u∈us,∃v∈u,v.ownBlock=some i
def Src (base sb:Nat) (gs:List GlC) (nl:List Value) (F:List Flt) (O:Foot) (w:World):Prop:= ∃fv gv us,SrcAt base sb gs nl F fv gv us w∧∀i,O i↔ownS sb fv gv us i
section
variable {base sb:Nat} {gs:List GlC} {nl:List Value} {F:List Flt} {fv gv:Value} {us:List (List Value)} {w w':World}
theorem SrcAt.lt (h:SrcAt base sb gs nl F fv gv us w) {i:Nat} (hi:ownS sb fv gv us i):i<w.heap.size:=by
 rcases hi with rfl|e|e|⟨u,hu,v,hv,e⟩
 ·exact h.flt.var.s
 ·exact(h.flt.row.lt e.symm).2
 ·exact(h.gol.lt e.symm).2
 ·exact(h.un u hu v hv i e).1
theorem SrcAt.stay (h:SrcAt base sb gs nl F fv gv us w) (hk: ∀i,ownS sb fv gv us i→w'.heap[i]?=w.heap[i]?):SrcAt base sb gs nl F fv gv us w':=by
 have hin: ∀i,i<w.heap.size→w'.heap[i]?=w.heap[i]?→i<w'.heap.size:=fun i hi e=>by
  have h1:=(Array.getElem?_eq_some_iff (xs:=w.heap) (i:=i) (b:=w.heap[i]'hi)).mpr ⟨hi,rfl⟩
  rw[←e]at h1
  exact(Array.getElem?_eq_some_iff.1 h1).1
 exact⟨h.flt.stay (fun i hi=>hk i (hi.imp id My)),h.gol.kept (fun b e=>hk b (Mx (Mx (My e.symm)))),h.len,
  fun i u g hu hg=>(h.each i u g hu hg).kept (fun v hv b e=>hk b (Mx (Mx (Mx ⟨u,List.mem_of_getElem? hu,v,hv,e⟩)))),h.go,
  fun u hu v hv b e=>⟨hin b (h.un u hu v hv b e).1 (hk b (Mx (Mx (Mx ⟨u,hu,v,hv,e⟩)))),(h.un u hu v hv b e).2⟩,h.bs⟩
theorem Src.ctx (base sb:Nat) (gs:List GlC) (nl:List Value):CtxC (.pointer (some ⟨sb,0,none⟩)) (Src base sb gs nl):=by
 refine⟨?_,?_,?_⟩
 ·rintro F O w ⟨fv,gv,us,h,ho⟩ b hb
  exact h.lt ((ho b).mp hb)
 ·rintro F O w w' ⟨fv,gv,us,h,ho⟩ hk
  exact⟨fv,gv,us,h.stay (fun i hi=>hk i ((ho i).mpr hi)),ho⟩
 ·rintro F O w c a b ⟨fv,gv,us,h,ho⟩ hl
  refine(add_any base sb (gv::nl) F fv c a b w h.flt (Kz h.bs (Nat.le_of_lt h.flt.var.s)) hl).mono ?_
  rintro e w' ⟨rfl,fv',q1,q2,q3⟩
  have hz:=q2.size
  have hkg: ∀b,gv.ownBlock=some b→w'.heap[b]?=w.heap[b]?:=fun b e=>q2.keep b (h.gol.lt e).2 (fun e2=>e2.elim (fun e2=>(h.go b e).1 e2) (fun e2=>(h.go b e).2 e2.symm))
  have hku: ∀u∈us,∀v∈u,∀b,v.ownBlock=some b→w'.heap[b]?=w.heap[b]?:=fun u hu v hv b e=>q2.keep b (h.un u hu v hv b e).1 (fun e2=>e2.elim (fun e2=>(h.un u hu v hv b e).2.1 e2) (fun e2=>(h.un u hu v hv b e).2.2.1 e2.symm))
  have hfv: ∀b,fv'.ownBlock=some b→fv.ownBlock=some b∨w.heap.size≤b:=fun b hb=>own_new q3 hb
  refine⟨rfl,ownS sb fv' gv us,⟨fv',gv,us,⟨q1,h.gol.kept hkg,h.len,fun i u g hu hg=>(h.each i u g hu hg).kept (fun v hv b e=>hku u (List.mem_of_getElem? hu) v hv b e),fun b e=>⟨(h.go b e).1,fun e2=>?_⟩,fun u hu v hv b e=>⟨Kx (h.un u hu v hv b e).1 hz,(h.un u hu v hv b e).2.1,fun e2=>?_,(h.un u hu v hv b e).2.2.2⟩,h.bs⟩,fun i=>Iff.rfl⟩,q2.wider (fun i hi=>(ho i).mpr (hi.imp id My)),fun i hi=>?_⟩
  ·rcases hfv b e2 with e3|e3
   ·exact(h.go b e).2 e3
   ·have:=(h.gol.lt e).2;omega
  ·rcases hfv b e2 with e3|e3
   ·exact(h.un u hu v hv b e).2.2.1 e3
   ·have:=(h.un u hu v hv b e).1;omega
  ·rcases hi with rfl|e|e|e
   ·exact My ((ho _).mpr (My rfl))
   ·rcases hfv i e.symm with e3|e3
    ·exact My ((ho _).mpr (Mx (My e3.symm)))
    ·exact Mx e3
   ·exact My ((ho _).mpr (Mx (Mx (My e))))
   ·exact My ((ho _).mpr (Mx (Mx (Mx e))))
theorem Src.set {O:Foot} (h:Src base sb gs nl F O w) (i:Nat) (v:Value) (hi:i<nl.length):Src base sb gs (nl.set i v) F O (w.setCell ⟨sb,i+2,none⟩ v):=by
 obtain⟨fv,gv,us,h,ho⟩:=h
 have hk: ∀b,b≠sb→(w.setCell ⟨sb,i+2,none⟩ v).heap[b]?=w.heap[b]?:=fun b hb=>lset_else _ _ _ _ _ hb
 refine⟨fv,gv,us,⟨⟨?_,h.flt.row.kept (fun b e=>hk b (h.flt.out b e)),h.flt.out⟩,h.gol.kept (fun b e=>hk b (h.go b e).1),h.len,fun j u g hu hg=>(h.each j u g hu hg).kept (fun v hv b e=>hk b (h.un u (List.mem_of_getElem? hu) v hv b e).2.1),h.go,fun u hu v hv b e=>⟨by simpa using(h.un u hu v hv b e).1,(h.un u hu v hv b e).2⟩,h.bs⟩,ho⟩
 have:=h.flt.var.set (i+2) v (by simp;omega)
 exact this
theorem Src.var {O:Foot} (h:Src base sb gs nl F O w):O sb∧∃fv gv,VarL w sb (fv::gv::nl):=by
 obtain⟨fv,gv,us,h,ho⟩:=h
 exact⟨(ho sb).mpr (My rfl),fv,gv,h.flt.var⟩
theorem SrcAt.goal (h:SrcAt base sb gs nl F fv gv us w) {g:GlC} {lv rv gv':Value} {w1:World} (hl:RowK 80 2 w base lv (g.labels.map labV)) (hr:RowK 58 7 w base rv (g.rules.map rulV))
  (hlo: ∀b,lv.ownBlock=some b→¬ownS sb fv gv us b) (hro: ∀b,rv.ownBlock=some b→¬ownS sb fv gv us b)
  (hg:RowK 54 8 w1 base gv' (us++ [golL g lv rv])) (ho:gv'.ownBlock=gv.ownBlock∨∃b,gv'.ownBlock=some b∧w.heap.size≤b) (hf:Frm (fun i=>some i=gv.ownBlock) w w1):
  SrcAt base sb (gs++ [g]) nl F fv gv' (us++ [golL g lv rv]) (w1.setCell ⟨sb,1,none⟩ gv')∧Frm (fun i=>i=sb∨some i=gv.ownBlock) w (w1.setCell ⟨sb,1,none⟩ gv')∧∀i,ownS sb fv gv' (us++ [golL g lv rv]) i→ownS sb fv gv us i∨some i=lv.ownBlock∨some i=rv.ownBlock∨w.heap.size≤i:=by
 have hz:=hf.size
 have hsb:=h.flt.var.s
 have hfr:Frm (fun i=>i=sb∨some i=gv.ownBlock) w (w1.setCell ⟨sb,1,none⟩ gv'):=Frm.set (O:=fun i=>i=sb∨some i=gv.ownBlock) (hf.wider (fun i e=>Mx e)) (My rfl) _ _
 have hkeep: ∀b,b<w.heap.size→b≠sb→gv.ownBlock≠some b→(w1.setCell ⟨sb,1,none⟩ gv').heap[b]?=w.heap[b]?:=fun b hb h1 h2=>hfr.keep b hb (fun e=>e.elim h1 (fun e=>h2 e.symm))
 have hgn: ∀b,gv'.ownBlock=some b→gv.ownBlock=some b∨w.heap.size≤b:=fun b hb=>own_new ho hb
 have hgs: ∀b,gv'.ownBlock=some b→b≠sb:=fun b hb e=>by
  rcases hgn b hb with e2|e2
  ·exact(h.go b e2).1 e
  ·omega
 have hsz:(w1.setCell ⟨sb,1,none⟩ gv').heap.size=w1.heap.size:=by simp
 have hnew: ∀v∈golL g lv rv,∀b,v.ownBlock=some b→(lv.ownBlock=some b∨rv.ownBlock=some b):=fun v hv b hb=>by
  simp only[golL,List.mem_cons,List.not_mem_nil,or_false]at hv
  rcases hv with rfl|rfl|rfl|rfl|rfl|rfl|rfl|rfl
  ·cases hb
  ·cases hb
  ·cases hb
  ·cases hb
  ·cases hb
  ·cases hb
  ·exact My hb
  ·exact Mx hb
 have hlr: ∀b,(lv.ownBlock=some b∨rv.ownBlock=some b)→b<w.heap.size∧¬ownS sb fv gv us b:=fun b hb=>hb.elim (fun e=>⟨(hl.lt e).2,hlo b e⟩) (fun e=>⟨(hr.lt e).2,hro b e⟩)
 refine⟨⟨⟨?_,h.flt.row.kept (fun b e=>hkeep b (h.flt.row.lt e).2 (h.flt.out b e) (fun e2=>(h.go b e2).2 e)),h.flt.out⟩,hg.kept (fun b e=>lset_else _ _ _ _ _ (hgs b e)),by rw[Kq,Kq,h.len];rfl,?_,fun b e=>⟨hgs b e,fun e2=>?_⟩,?_,h.bs⟩,hfr,?_⟩
 ·have v1:=(hf.var h.flt.var (fun e=>(h.go sb e.symm).1 rfl)).set 1 gv' (by simp)
  exact v1
 ·intro i u g' hu hg'
  by_cases hi:i<us.length
  ·rw[List.getElem?_append_left hi]at hu
   rw[List.getElem?_append_left (by rw[←h.len];exact hi)]at hg'
   exact(h.each i u g' hu hg').kept (fun v hv b e=>hkeep b (h.un u (List.mem_of_getElem? hu) v hv b e).1 (h.un u (List.mem_of_getElem? hu) v hv b e).2.1 (h.un u (List.mem_of_getElem? hu) v hv b e).2.2.2)
  ·rw[List.getElem?_append_right (Nat.le_of_not_lt hi)]at hu
   rw[List.getElem?_append_right (by rw[←h.len];exact Nat.le_of_not_lt hi)]at hg'
   obtain⟨hi2,e2⟩:=List.getElem?_eq_some_iff.1 hu
   have hi3:i-us.length=0:=by simpa using hi2
   rw[hi3]at hu
   rw[←h.len,hi3]at hg'
   obtain rfl:golL g lv rv=u:=by simpa using hu
   obtain rfl:g=g':=by simpa using hg'
   refine⟨lv,rv,rfl,hl.kept (fun b e=>?_),hr.kept (fun b e=>?_)⟩
   ·exact hkeep b (hl.lt e).2 (fun e2=>hlo b e (My e2)) (fun e2=>hlo b e (Mx (Mx (My e2.symm))))
   ·exact hkeep b (hr.lt e).2 (fun e2=>hro b e (My e2)) (fun e2=>hro b e (Mx (Mx (My e2.symm))))
 ·rcases hgn b e with e3|e3
  ·exact(h.go b e3).2 e2
  ·have:=(h.flt.row.lt e2).2;omega
 ·intro u hu v hv b e
  rw[hsz]
  rcases List.mem_append.mp hu with hu|hu
  ·obtain⟨q1,q2,q3,q4⟩:=h.un u hu v hv b e
   exact⟨by omega,q2,q3,fun e2=>(hgn b e2).elim q4 (fun h=>by omega)⟩
  ·rw[List.mem_singleton]at hu
   subst hu
   obtain⟨q1,q2⟩:=hlr b (hnew v hv b e)
   exact⟨by omega,fun e2=>q2 (My e2),fun e2=>q2 (Mx (My e2.symm)),fun e2=>(hgn b e2).elim (fun e3=>q2 (Mx (Mx (My e3.symm)))) (fun h=>by omega)⟩
 ·rintro i (rfl|e|e|⟨u,hu,v,hv,e⟩)
  ·exact My (My rfl)
  ·exact My (Mx (My e))
  ·rcases hgn i e.symm with e3|e3
   ·exact My (Mx (Mx (My e3.symm)))
   ·exact Mx (Mx (Mx e3))
  ·rcases List.mem_append.mp hu with hu|hu
   ·exact My (Mx (Mx (Mx ⟨u,hu,v,hv,e⟩)))
   ·rw[List.mem_singleton]at hu
    subst hu
    rcases hnew v hv i e with e3|e3
    ·exact Mx (My e3.symm)
    ·exact Mx (Mx (My e3.symm))
end
def M0 (base sb:Nat) (cs:List It) (F:List Flt) (O:Foot) (w:World):Prop:=(∀c∈cs,c.name=nObjective∨c.name=nNotify)∧Src base sb (golC cs) (notL (notC cs [])) F O w
theorem M0.doing (base sb:Nat):Doing (M0 base sb) (.pointer (some ⟨sb,0,none⟩)):=Doing.of fun cs=>by
 have h:=Src.ctx base sb (golC cs) (notL (notC cs []))
 refine⟨fun F O w hM=>h.lt F O w hM.2,fun F O w w' hM hk=>⟨hM.1,h.keep F O w w' hM.2 hk⟩,fun F O w c a b hM hl=>(h.add F O w c a b hM.2 hl).mono ?_⟩
 rintro e w' ⟨rfl,O',h1,h2,h3⟩
 exact⟨rfl,O',⟨hM.1,h1⟩,h2,h3⟩
end
section
open Go.RowKit
theorem obj_form (x:It) (W:World) (sb ib mb:Nat) (wa:Option Addr) (wc:Nat) (kv:Value) (sec:ByteArray) (h:VarL W ib (itemL x (.slice wa x.words.length wc) kv mb sec)) (hno: ¬(x.words.length=1∧x.block=true)):
  Calls Tryz.prog 34 #[.pointer (some ⟨sb,0,none⟩), .pointer (some ⟨ib,0,none⟩)] W fun e w'=>e=up 6∧Below W.heap.size W w':=by
 have HF:Hid (Calls Tryz.prog 59 #[.pointer (some ⟨ib,0,none⟩), .int .i64 1, .bool true] W fun e w'=>e=up 6∧w'=W):=Lh (form_no x 1 true W ib mb wa wc kv sec h hno)
 clear h hno
 go_enter Tryz.func34,Tryz.ntmps34
 go_wp2_with (go_at_call 59;(with_reducible refine(HF.out).mono ?_);rintro e w1 ⟨rfl,rfl⟩)
 first|exact⟨rfl,Mj _ _⟩|exact⟨rfl,rfl,Mj _ _⟩
theorem obj_k1 (x:It) (t:Tk3) (S:Nat→Prop) (W:World) (sb ib mb:Nat) (wv kv:Value) (sec:ByteArray) (h:VarL W ib (itemL x wv kv mb sec)) (hx:x.words= [t]) (hbk:x.block=true) (hw:WordsIs W S wv x.words) (hk:1≤t.k∧t.k≤6) (hno:t.k≠1):Calls Tryz.prog 34 #[.pointer (some ⟨sb,0,none⟩), .pointer (some ⟨ib,0,none⟩)] W fun e w'=>e=up 6∧Below W.heap.size W w':=by
 rw[hx]at hw
 obtain⟨wb,wo,wc,rfl,hs,w0,w1,w2,w3,w4⟩:=words_one hw
 have HF:Hid (Calls Tryz.prog 59 #[.pointer (some ⟨ib,0,none⟩), .int .i64 1, .bool true] W fun e w'=>e= .returned (.tuple #[])∧w'=W):=Lh (form_yes x 1 true W ib mb (some ⟨wb,wo,none⟩) wc kv sec (by rw[hx];exact h) ⟨by rw[hx];rfl,hbk⟩)
 have HV:=Lh h
 have c1:=h.c 1 rfl
 have HN1:=Lh (fun V=>nameOf_no t V hk.1 hk.2 hno)
 unfold tkA at HN1
 clear h hx hbk hw hk hno hs HV
 go_enter Tryz.func34,Tryz.ntmps34
 go_wp2_with (first
  |(go_at_call 59;(with_reducible refine(HF.out).mono ?_);rintro e w1' ⟨rfl,hw1⟩;rw[hw1];clear hw1 w1')
  |(go_at_call 60;(with_reducible refine(HN1.out _).mono ?_);rintro e w2 ⟨rfl,g2⟩;have G2:=Lh g2;clear g2))
 first|exact⟨rfl,G2.out⟩|exact⟨rfl,rfl,G2.out⟩
theorem obj_known (x:It) (t:Tk3) (S:Nat→Prop) (W:World) (sb ib mb:Nat) (wv kv:Value) (sec:ByteArray) (h:VarL W ib (itemL x wv kv mb sec)) (hx:x.words= [t]) (hbk:x.block=true) (hw:WordsIs W S wv x.words) (hk:1≤t.k∧t.k≤6) (f:ByteArray→ByteArray→Nat) (hc:CntIs W mb f) (hno:t.k=1) (hf:f x.name t.s≠0):Calls Tryz.prog 34 #[.pointer (some ⟨sb,0,none⟩), .pointer (some ⟨ib,0,none⟩)] W fun e w'=>e=up 18∧Below W.heap.size W w':=by
 rw[hx]at hw
 obtain⟨wb,wo,wc,rfl,hs,w0,w1,w2,w3,w4⟩:=words_one hw
 have HF:Hid (Calls Tryz.prog 59 #[.pointer (some ⟨ib,0,none⟩), .int .i64 1, .bool true] W fun e w'=>e= .returned (.tuple #[])∧w'=W):=Lh (form_yes x 1 true W ib mb (some ⟨wb,wo,none⟩) wc kv sec (by rw[hx];exact h) ⟨by rw[hx];rfl,hbk⟩)
 have HV:=Lh h
 have c1:=h.c 1 rfl
 have HN1:=Lh (fun V=>nameOf_yes t V hk.1 hk.2 hno)
 unfold tkA at HN1
 have HC:=Lh hc
 have HNA:Hid (∀W2,Below W.heap.size W W2→Calls Tryz.prog 61 #[.pointer (some ⟨ib,0,none⟩), .string t.s, .int .i64 6] W2 fun e w'=>e=up 18∧Below W2.heap.size W2 w'):=Lh (fun W2 hb=>named_known x t.s 6 W2 ib mb _ kv sec f (HV.out.after hb) (HC.out.keep (hb.block mb HC.out.lt)) hf)
 clear hf
 clear h hx hbk hw hk hno hs hc
 go_enter Tryz.func34,Tryz.ntmps34
 go_wp2_with (first
  |(go_at_call 59;(with_reducible refine(HF.out).mono ?_);rintro e w1' ⟨rfl,hw1⟩;rw[hw1];clear hw1 w1')
  |(go_at_call 60;(with_reducible refine(HN1.out _).mono ?_);rintro e w2 ⟨rfl,g2⟩;have G2:=Lh g2;have hna:=HNA.out w2 g2;clear g2)
  |(go_at_call 61;(with_reducible refine hna.mono ?_);rintro e w3 ⟨rfl,g3⟩;have G3:=Lh (below_step G2.out g3);clear g3 hna))
 first|exact⟨rfl,G3.out⟩|exact⟨rfl,rfl,G3.out⟩
theorem obj_long (x:It) (t:Tk3) (S:Nat→Prop) (W:World) (sb ib mb:Nat) (wv kv:Value) (sec:ByteArray) (h:VarL W ib (itemL x wv kv mb sec)) (hx:x.words= [t]) (hbk:x.block=true) (hw:WordsIs W S wv x.words) (hk:1≤t.k∧t.k≤6) (f:ByteArray→ByteArray→Nat) (hc:CntIs W mb f) (hno:t.k=1) (hf:f x.name t.s=0) (hn:f x.name ⟨#[]⟩=6):Calls Tryz.prog 34 #[.pointer (some ⟨sb,0,none⟩), .pointer (some ⟨ib,0,none⟩)] W fun e w'=>e=up 9∧Below W.heap.size W w':=by
 rw[hx]at hw
 obtain⟨wb,wo,wc,rfl,hs,w0,w1,w2,w3,w4⟩:=words_one hw
 have HF:Hid (Calls Tryz.prog 59 #[.pointer (some ⟨ib,0,none⟩), .int .i64 1, .bool true] W fun e w'=>e= .returned (.tuple #[])∧w'=W):=Lh (form_yes x 1 true W ib mb (some ⟨wb,wo,none⟩) wc kv sec (by rw[hx];exact h) ⟨by rw[hx];rfl,hbk⟩)
 have HV:=Lh h
 have c1:=h.c 1 rfl
 have HN1:=Lh (fun V=>nameOf_yes t V hk.1 hk.2 hno)
 unfold tkA at HN1
 have HC:=Lh hc
 have HNA:Hid (∀W2,Below W.heap.size W W2→Calls Tryz.prog 61 #[.pointer (some ⟨ib,0,none⟩), .string t.s, .int .i64 6] W2 fun e w'=>e=up 9∧Below W2.heap.size W2 w'):=Lh (fun W2 hb=>named_long x t.s 6 6 W2 ib mb _ kv sec f (HV.out.after hb) (HC.out.keep (hb.block mb HC.out.lt)) hf hn rfl)
 clear hf hn
 clear h hx hbk hw hk hno hs hc
 go_enter Tryz.func34,Tryz.ntmps34
 go_wp2_with (first
  |(go_at_call 59;(with_reducible refine(HF.out).mono ?_);rintro e w1' ⟨rfl,hw1⟩;rw[hw1];clear hw1 w1')
  |(go_at_call 60;(with_reducible refine(HN1.out _).mono ?_);rintro e w2 ⟨rfl,g2⟩;have G2:=Lh g2;have hna:=HNA.out w2 g2;clear g2)
  |(go_at_call 61;(with_reducible refine hna.mono ?_);rintro e w3 ⟨rfl,g3⟩;have G3:=Lh (below_step G2.out g3);clear g3 hna))
 first|exact⟨rfl,G3.out⟩|exact⟨rfl,rfl,G3.out⟩
theorem golC_le: ∀k:List It,(golC k).length≤k.length
 | []=>Nat.le_refl _
 |x::k=>by
  have:=golC_le k
  rw[golC,Kq]
  split<;>simp only[List.length_cons,List.length_nil]<;>omega
theorem obj_set (x:It) (t:Tk3) (S:Nat→Prop) (W:World) (sb ib mb:Nat) (wv kv:Value) (sec:ByteArray) (h:VarL W ib (itemL x wv kv mb sec)) (hx:x.words= [t]) (hbk:x.block=true) (hw:WordsIs W S wv x.words) (hk:1≤t.k∧t.k≤6) (f:ByteArray→ByteArray→Nat) (hc:CntIs W mb f) (hno:t.k=1) (base:Nat) (cs:List It) (F:List Flt) (O:Foot) (hM:M0 base sb cs F O W) (hnm:x.name=nObjective) (hf:f x.name t.s=0) (n4:Nat) (hn:f x.name ⟨#[]⟩=n4) (h4:n4≠6) (hio: ¬O ib) (D:Nat) (hkd:ItemsIs D W S kv x.kids) (hS: ∀b,S b→b<W.heap.size) (hSO: ∀b,S b→¬O b) (hSi: ¬S ib) (hwk: ∀y∈x.kids,WordsOk y.words∧∀z∈y.kids,WordsOk z.words) (hfew:F.length+4*cntL x.kids+4≤1000000) (hcs1:cs.length≤1000000):Calls Tryz.prog 34 #[.pointer (some ⟨sb,0,none⟩), .pointer (some ⟨ib,0,none⟩)] W fun e w'=>e= .returned (.tuple #[])∧∃O',M0 base sb (cs++ [x]) (F++subT x) O' w'∧Frm (fun i=>O i∨i=ib) W w'∧Grown O O' W.heap.size∧VarL w' ib (itemL x wv kv mb t.s):=by
 rw[hx]at hw
 obtain⟨wb,wo,wc,rfl,hs,w0,w1,w2,w3,w4⟩:=words_one hw
 have HF:Hid (Calls Tryz.prog 59 #[.pointer (some ⟨ib,0,none⟩), .int .i64 1, .bool true] W fun e w'=>e= .returned (.tuple #[])∧w'=W):=Lh (form_yes x 1 true W ib mb (some ⟨wb,wo,none⟩) wc kv sec (by rw[hx];exact h) ⟨by rw[hx];rfl,hbk⟩)
 have HV:=Lh h
 have c1:=h.c 1 rfl
 have HN1:=Lh (fun V=>nameOf_yes t V hk.1 hk.2 hno)
 unfold tkA at HN1
 have HC:=Lh hc
 have HM:=Lh hM
 have HNA0:=Lh hnm
 have HIO:=Lh hio
 have HKD:=Lh hkd
 have HSL:=Lh hS
 have HSO:=Lh hSO
 have HSI:=Lh hSi
 have HWK:=Lh hwk
 have HFEW:=Lh hfew
 have HCS1:=Lh hcs1
 have HXW:=Lh hx
 have HOL:Hid (∀b,O b→b<W.heap.size):=Lh ((M0.doing base sb).lt _ _ _ _ hM)
 have HNA:Hid (∀W2,Below W.heap.size W W2→Calls Tryz.prog 61 #[.pointer (some ⟨ib,0,none⟩), .string t.s, .int .i64 6] W2 fun e w'=>e= .returned (.tuple #[])∧VarL w' ib (itemL x (.slice (some ⟨wb,wo,none⟩) 1 wc) kv mb t.s)∧Frm (fun i=>i=ib) W2 w'):=Lh (fun W2 hb=>named_yes x t.s 6 n4 W2 ib mb _ kv sec f (HV.out.after hb) (HC.out.keep (hb.block mb HC.out.lt)) hf hn h4)
 clear hf hn h4 hM hnm hio hkd hS hSO hSi hwk hfew hcs1
 clear h hx hbk hw hk hno hs hc
 go_enter Tryz.func34,Tryz.ntmps34
 go_upto_region 3 with(first
  |(go_at_call 59;(with_reducible refine(HF.out).mono ?_);rintro e w1' ⟨rfl,hw1⟩;rw[hw1];clear hw1 w1')
  |(go_at_call 60;(with_reducible refine(HN1.out _).mono ?_);rintro e w2 ⟨rfl,g2⟩;have G2:=Lh g2;have hna:=HNA.out w2 g2;clear g2)
  |(go_at_call 61;(with_reducible refine hna.mono ?_);rintro e w3 ⟨rfl,v3,f3⟩;have HV3:=Lh v3;have HF3:=Lh f3;clear v3 f3 hna))
 have HZ3:Hid (W.heap.size≤w3.heap.size):=Lh (Kz G2.out.size HF3.out.size)
 have HKW:Hid (∀b,b<W.heap.size→b≠ib→w3.heap[b]?=W.heap[b]?):=Lh (fun b hb hne=>(HF3.out.keep b (Kx hb G2.out.size) hne).trans (G2.out.block b hb))
 have HM3:Hid (M0 base sb cs F O w3):=Lh ((M0.doing base sb).keep _ _ _ _ _ HM.out (fun b hb=>HKW.out b (HOL.out b hb) (fun e=>HIO.out (by rw[←e];exact hb))))
 obtain⟨gb,Wa,w4,hgb,hWa,hW4,Va,V4,h4,hz4⟩:=freshL w3 [.pointer none, .string ⟨#[]⟩, .int .u32 0, .int .i64 0, .int .i64 0, .int .i64 0, .int .i64 0, .slice none 0 0, .slice none 0 0, .slice none 0 0] [.pointer (some ⟨sb,0,none⟩), .string t.s, .int .u32 0, .int .i64 60, .int .i64 0, .int .i64 0, .int .i64 0, .slice none 0 0, .slice none 0 0, .slice none 0 0] 122 rfl
 simp only[putL,Nat.zero_add,Nat.reduceAdd]at hW4
 have HGB0:=Lh hgb
 have HV4:=Lh V4
 have H4:=Lh h4
 have HZ4:=Lh hz4
 have z0:=Va.c 0 rfl
 have zq0:=Va.q 0 rfl
 have z1:=Va.c 1 rfl
 have zq1:=Va.q 1 rfl
 have z2:=Va.c 2 rfl
 have zq2:=Va.q 2 rfl
 have z3:=Va.c 3 rfl
 have zq3:=Va.q 3 rfl
 have z4:=Va.c 4 rfl
 have zq4:=Va.q 4 rfl
 have z5:=Va.c 5 rfl
 have zq5:=Va.q 5 rfl
 have z6:=Va.c 6 rfl
 have zq6:=Va.q 6 rfl
 have z7:=Va.c 7 rfl
 have zq7:=Va.q 7 rfl
 have z8:=Va.c 8 rfl
 have zq8:=Va.q 8 rfl
 have z9:=Va.c 9 rfl
 have zq9:=Va.q 9 rfl
 clear Va V4 h4 hz4 c1
 go_upto_region 4 with fail
 clear hgb hWa hW4 z0 zq0 z1 zq1 z2 zq2 z3 zq3 z4 zq4 z5 zq5 z6 zq6 z7 zq7 z8 zq8 z9 zq9
 have HX:Hid (CtxC (.pointer (some ⟨sb,0,none⟩)) (Src base sb (golC cs) (notL (notC cs [])))):=Lh (Src.ctx base sb _ _)
 have HOL3:Hid (∀b,O b→b<w3.heap.size):=Lh (fun b hb=>Kx (HOL.out b hb) HZ3.out)
 have HMG:Hid (M1 base (.pointer (some ⟨sb,0,none⟩)) (Src base sb (golC cs) (notL (notC cs []))) gb t.s [] F (fun i=>O i∨ownG gb (.slice none 0 0) (.slice none 0 0) (.slice none 0 0) i) w4):=Lh (by
  have hg:=HGB0.out
  refine⟨O,_,_,_,⟨HX.out.keep _ _ _ _ HM3.out.2 (fun b hb=>H4.out.block b (HOL3.out b hb)),HV4.out,RowK.nil _ _ _ _,RowK.nil _ _ _ _,RowK.nil _ _ _ _,fun e=>by have:=HOL3.out gb e;omega,fun b e=>(by cases e),fun b e=>(by cases e),fun b e=>(by cases e),fun b e=>(by cases e),fun b e=>(by cases e),fun b e=>(by cases e),?_⟩,fun i=>Iff.rfl⟩
  obtain⟨fv,gv,us,hs,ho⟩:=HM3.out.2
  have:=hs.bs;have:=hs.flt.var.s;omega)
 have HIG:Hid (ib<gb):=Lh (by have h1:=HV.out.s;have h2:=HZ3.out;have h3:=HGB0.out;omega)
 have HRD:=Lh (read_any HX.out x F _ w4 ib mb _ kv t.s HMG.out (HV3.out.after H4.out) (fun e=>e.elim HIO.out (fun e=>by
   rcases e with e|e|e|e
   ·have:=HIG.out;omega
   ·cases e
   ·cases e
   ·cases e)) D S (HKD.out.keep (fun _ h=>h) (fun b hb=>(H4.out.block b (Kx (HSL.out b hb) HZ3.out)).trans (HKW.out b (HSL.out b hb) (fun e=>HSI.out (by rw[←e];exact hb))))) (fun b hb=>by have h1:=HSL.out b hb;have h2:=HZ3.out;have h3:=H4.out.size;omega) (fun b hb e=>e.elim (HSO.out b hb) (fun e=>by
   rcases e with e|e|e|e
   ·have h1:=HSL.out b hb;have h2:=HZ3.out;have h3:=HGB0.out;omega
   ·cases e
   ·cases e
   ·cases e)) HWK.out HFEW.out)
 go_upto_region 5 with(go_at_call 62;(with_reducible refine(HRD.out).mono ?_);rintro e w5 ⟨rfl,O5,hm5,hf5,hg5⟩;have HM5:=Lh hm5;have HF5:=Lh hf5;have HG5:=Lh hg5;clear hm5 hf5 hg5)
 clear HRD
 obtain⟨OX,lv,rv,pv,hat,hOX⟩:=HM5.out
 obtain⟨fv,gv,us,hsr,hSR⟩:=hat.x
 obtain⟨l1,l2,hlv⟩:=hat.lab.size
 obtain⟨r1,r2,hrv⟩:=hat.rul.size
 obtain⟨ga,gc,hgv⟩:=hsr.gol.size
 obtain⟨n1,hn1⟩: ∃n,((labC (goalK x)).map labV).length=n:=⟨_,rfl⟩
 obtain⟨n2,hn2⟩: ∃n,((rulC (goalK x)).map rulV).length=n:=⟨_,rfl⟩
 rw[hn1]at hlv
 rw[hn2]at hrv
 subst hlv hrv hgv
 obtain⟨tg,htg⟩: ∃t,getS (goalK x) nTarget 0=t:=⟨_,rfl⟩
 obtain⟨gr,hgr⟩: ∃t,getS (goalK x) nGrain 60=t:=⟨_,rfl⟩
 obtain⟨la,hla⟩: ∃t,getS (goalK x) nLate 0=t:=⟨_,rfl⟩
 obtain⟨ro,hro⟩: ∃t,getS (goalK x) nRolling 0=t:=⟨_,rfl⟩
 obtain⟨ca,hca⟩: ∃t,calC (goalK x) 0=t:=⟨_,rfl⟩
 have HYG:Hid (golL (goalC x) (.slice l1 n1 l2) (.slice r1 n2 r2)= [.string t.s, .int .u32 tg, .int .i64 gr, .int .i64 la, .int .i64 ro, .int .i64 ca, .slice l1 n1 l2, .slice r1 n2 r2]):=Lh (by
  have e0:x.w0=t:=by unfold It.w0;rw[HXW.out];rfl
  unfold golL goalC goalB
  simp only
  rw[e0,htg,hgr,hla,hro,hca])
 have HGB:Hid (VarL w5 gb (.pointer (some ⟨sb,0,none⟩):: [.string t.s, .int .u32 tg, .int .i64 gr, .int .i64 la, .int .i64 ro, .int .i64 ca, .slice l1 n1 l2, .slice r1 n2 r2]++ [pv])):=Lh (by have:=hat.var;unfold goalL at this;rw[htg,hgr,hla,hro,hca]at this;exact this)
 obtain⟨own,hown⟩: ∃o,(Value.slice ga us.length gc).ownBlock=o:=⟨_,rfl⟩
 have HOWN:=Lh hown
 have HSV:=Lh hsr.flt.var
 have HROW:=Lh hsr.gol
 have HGS:Hid (∀b,own=some b→b≠sb):=Lh (fun b e=>(hsr.go b (hown.trans e)).1)
 have HOO:Hid (∀i,OX i∨ownG gb (.slice l1 n1 l2) (.slice r1 n2 r2) pv i→O5 i):=Lh (fun i h=>(hOX i).mpr h)
 have HGG:Hid (∀b,own=some b→b≠gb):=Lh (fun b e e2=>hat.gx (by rw[←e2];exact(hSR b).mpr (Mx (Mx (My (hown.trans e).symm)))))
 have HNI:Hid (¬O5 ib):=Lh (fun e=>by
  rcases HG5.out ib e with(h|h|h|h|h)|h
  ·exact HIO.out h
  ·have:=HIG.out;omega
  ·cases h
  ·cases h
  ·cases h
  ·have:=HV3.out.s;have:=H4.out.size;omega)
 have HGI:Hid (∀b,own=some b→b≠ib):=Lh (fun b e e2=>HNI.out (HOO.out ib (My (by rw[←e2];exact(hSR b).mpr (Mx (Mx (My (hown.trans e).symm)))))))
 have HLT1:Hid (∀b,own=some b→b<w5.heap.size):=Lh (fun b e=>(hsr.gol.lt (hown.trans e)).2)
 have HBS:Hid (base≤w5.heap.size):=Lh (Kz hsr.bs (Nat.le_of_lt hsr.flt.var.s))
 have HLEN:Hid (us.length≤1000000):=Lh (by rw[hsr.len];have h1:=golC_le cs;have h2:=HCS1.out;omega)
 have HPO:Hid (∀u'∈([.string t.s, .int .u32 tg, .int .i64 gr, .int .i64 la, .int .i64 ro, .int .i64 ca, .slice l1 n1 l2, .slice r1 n2 r2]:List Value),u'.oneCell'=true):=Lh (by intro u' hu;simp only[List.mem_cons,List.not_mem_nil,or_false]at hu;rcases hu with rfl|rfl|rfl|rfl|rfl|rfl|rfl|rfl<;>rfl)
 have HLAB:=Lh hat.lab
 have HRUL:=Lh hat.rul
 have HSRC:=Lh hsr
 have HSRO:=Lh hSR
 have HLX:=Lh hat.lx
 have HRX:=Lh hat.rx
 have HI5:=Lh (HF5.out.var (HV3.out.after H4.out) (fun e=>e.elim HIO.out (fun e=>by
   rcases e with e|e|e|e
   ·have:=HIG.out;omega
   ·cases e
   ·cases e
   ·cases e)))
 clear hat hsr hSR hOX hown hn1 hn2 htg hgr hla hro hca
 refine wp_region_mixj 10 (TApp [.pointer (some ⟨sb,0,none⟩), .pointer (some ⟨sb,0,none⟩), .pointer (some ⟨sb,0,none⟩), .pointer (some ⟨sb,1,none⟩), .pointer (some ⟨sb,1,none⟩), .slice ga us.length gc, .pointer (some ⟨gb,1,none⟩), .agg #[.string t.s, .int .u32 tg, .int .i64 gr, .int .i64 la, .int .i64 ro, .int .i64 ca, .slice l1 n1 l2, .slice r1 n2 r2],undef,undef] 8 9 w5.heap.size [.string t.s, .int .u32 tg, .int .i64 gr, .int .i64 la, .int .i64 ro, .int .i64 ca, .slice l1 n1 l2, .slice r1 n2 r2] 54 8 base us own) (JApp own 9 w5) (by kernel_rfl) (by kernel_rfl) (JApp.start w5) ?_ ?_
 ·simp only[Kj,Jh]
  refine(Lz ?_ (Lz ?_ (Lz ?_ (Lz ?_ (Lz ?_ (Lz ?_ (Lz ?_ (Lz ?_ (Lz ?_ (Lz ?_ StepsJ.nil))))))))))
  all_goals(intro u0 W9 L hL hj hd;simp only[putAll,Act.put,List.setIfInBounds_toArray,List.set_cons_succ,List.set_cons_zero,Nat.zero_add,Nat.reduceAdd])
  ·have hj1:=hj.light 0 (by decide) (Mj _ _)
   go_wp2
   first|exact hj1|exact rfl|exact⟨rfl,hj1⟩|exact⟨rfl,hj1,k4⟩|exact⟨_,rfl,rfl,hj1,k4⟩
  ·have hj1:=hj.light 1 (by decide) (Mj _ _)
   go_wp2
   first|exact hj1|exact rfl|exact⟨rfl,hj1⟩|exact⟨rfl,hj1,k4⟩|exact⟨_,rfl,rfl,hj1,k4⟩
  ·have e1:u0 1= .pointer (some ⟨sb,0,none⟩):=(hd.1 rfl (by decide)).2
   rw[e1]
   have hj1:=hj.light 2 (by decide) (Mj _ _)
   go_wp2
   first|exact hj1|exact rfl|exact⟨rfl,hj1⟩|exact⟨rfl,hj1,k4⟩|exact⟨_,rfl,rfl,hj1,k4⟩
  ·have e2:u0 2= .pointer (some ⟨sb,0,none⟩):=(hd.1 rfl (by decide)).2
   rw[e2]
   have hj1:=hj.light 3 (by decide) (Mj _ _)
   go_wp2
   first|exact hj1|exact rfl|exact⟨rfl,hj1⟩|exact⟨rfl,hj1,k4⟩|exact⟨_,rfl,rfl,hj1,k4⟩
  ·have e3:u0 3= .pointer (some ⟨sb,1,none⟩):=(hd.1 rfl (by decide)).2
   rw[e3]
   have hj1:=hj.light 4 (by decide) (Mj _ _)
   go_wp2
   first|exact hj1|exact rfl|exact⟨rfl,hj1⟩|exact⟨rfl,hj1,k4⟩|exact⟨_,rfl,rfl,hj1,k4⟩
  ·have e4:u0 4= .pointer (some ⟨sb,1,none⟩):=(hd.1 rfl (by decide)).2
   have c1:=(hj.var HSV.out HGS.out).c 1 rfl
   rw[e4]
   have hj1:=hj.light 5 (by decide) (Mj _ _)
   go_wp2
   first|exact hj1|exact rfl|exact⟨rfl,hj1⟩|exact⟨rfl,hj1,k4⟩|exact⟨_,rfl,rfl,hj1,k4⟩
  ·have hj1:=hj.light 6 (by decide) (Mj _ _)
   go_wp2
   first|exact hj1|exact rfl|exact⟨rfl,hj1⟩|exact⟨rfl,hj1,k4⟩|exact⟨_,rfl,rfl,hj1,k4⟩
  ·have e6:u0 6= .pointer (some ⟨gb,1,none⟩):=(hd.1 rfl (by decide)).2
   have d1:=(hj.var HGB.out HGG.out).c 1 rfl
   have d2:=(hj.var HGB.out HGG.out).c 2 rfl
   have d3:=(hj.var HGB.out HGG.out).c 3 rfl
   have d4:=(hj.var HGB.out HGG.out).c 4 rfl
   have d5:=(hj.var HGB.out HGG.out).c 5 rfl
   have d6:=(hj.var HGB.out HGG.out).c 6 rfl
   have d7:=(hj.var HGB.out HGG.out).c 7 rfl
   have d8:=(hj.var HGB.out HGG.out).c 8 rfl
   rw[e6]
   have hj1:=hj.light 7 (by decide) (Mj _ _)
   go_wp2
   first|exact hj1|exact rfl|exact⟨rfl,hj1⟩|exact⟨rfl,hj1,k4⟩|exact⟨_,rfl,rfl,hj1,k4⟩
  ·have e7:u0 7= .agg #[.string t.s, .int .u32 tg, .int .i64 gr, .int .i64 la, .int .i64 ro, .int .i64 ca, .slice l1 n1 l2, .slice r1 n2 r2]:=(hd.1 rfl (by decide)).2
   have hsz:=hj.frm.size
   rw[e7]
   have hj1:=hj.light (w':=W9.alloc (.cells ([.string t.s, .int .u32 tg, .int .i64 gr, .int .i64 la, .int .i64 ro, .int .i64 ca, .slice l1 n1 l2, .slice r1 n2 r2]:List Value).toArray 54)) 8 (by decide) ((Mj _ _).alloc (Nat.le_refl _) _)
   go_wp2
   have hkp: ∀j v',j<10→L j=true→TApp [.pointer (some ⟨sb,0,none⟩), .pointer (some ⟨sb,0,none⟩), .pointer (some ⟨sb,0,none⟩), .pointer (some ⟨sb,1,none⟩), .pointer (some ⟨sb,1,none⟩), .slice ga us.length gc, .pointer (some ⟨gb,1,none⟩), .agg #[.string t.s, .int .u32 tg, .int .i64 gr, .int .i64 la, .int .i64 ro, .int .i64 ca, .slice l1 n1 l2, .slice r1 n2 r2],undef,undef] 8 9 w5.heap.size [.string t.s, .int .u32 tg, .int .i64 gr, .int .i64 la, .int .i64 ro, .int .i64 ca, .slice l1 n1 l2, .slice r1 n2 r2] 54 8 base us own j v' W9→TApp [.pointer (some ⟨sb,0,none⟩), .pointer (some ⟨sb,0,none⟩), .pointer (some ⟨sb,0,none⟩), .pointer (some ⟨sb,1,none⟩), .pointer (some ⟨sb,1,none⟩), .slice ga us.length gc, .pointer (some ⟨gb,1,none⟩), .agg #[.string t.s, .int .u32 tg, .int .i64 gr, .int .i64 la, .int .i64 ro, .int .i64 ca, .slice l1 n1 l2, .slice r1 n2 r2],undef,undef] 8 9 w5.heap.size [.string t.s, .int .u32 tg, .int .i64 gr, .int .i64 la, .int .i64 ro, .int .i64 ca, .slice l1 n1 l2, .slice r1 n2 r2] 54 8 base us own j v' (W9.alloc (.cells ([.string t.s, .int .u32 tg, .int .i64 gr, .int .i64 la, .int .i64 ro, .int .i64 ca, .slice l1 n1 l2, .slice r1 n2 r2]:List Value).toArray 54)):=fun j v' _ _ h=>TApp.keep j v' h ((Mj _ _).alloc (Nat.le_refl _) _)
   have hcn: ∃g,Value.slice (some ⟨W9.heap.size,0,none⟩) 1 1= .slice (some ⟨g,0,none⟩) 1 1∧w5.heap.size≤g∧g<(W9.alloc (.cells ([.string t.s, .int .u32 tg, .int .i64 gr, .int .i64 la, .int .i64 ro, .int .i64 ca, .slice l1 n1 l2, .slice r1 n2 r2]:List Value).toArray 54)).heap.size∧∀j,j<8→(W9.alloc (.cells ([.string t.s, .int .u32 tg, .int .i64 gr, .int .i64 la, .int .i64 ro, .int .i64 ca, .slice l1 n1 l2, .slice r1 n2 r2]:List Value).toArray 54)).cell? ⟨g,j,none⟩=some (([.string t.s, .int .u32 tg, .int .i64 gr, .int .i64 la, .int .i64 ro, .int .i64 ca, .slice l1 n1 l2, .slice r1 n2 r2]:List Value).getD j undef):=⟨W9.heap.size,rfl,hsz,by simp,cells_new W9 [.string t.s, .int .u32 tg, .int .i64 gr, .int .i64 la, .int .i64 ro, .int .i64 ca, .slice l1 n1 l2, .slice r1 n2 r2] 54⟩
   first|exact⟨hcn,hkp⟩|exact⟨hcn,hj1,hkp⟩|exact⟨_,rfl,hcn,hj1,hkp⟩|exact hcn
  ·have e5:u0 5= .slice ga us.length gc:=(hd.1 rfl (by decide)).2
   obtain⟨g,e8,hg1,hg2,hg3⟩:=TApp.kb_ rfl (hd.2.1 rfl (by decide)).2
   have HG3:=Lh hg3
   have HRW:=Lh (hj.row hL HROW.out)
   have HSZ:Hid (base≤W9.heap.size):=Lh (Kz HBS.out hj.frm.size)
   rw[e5,e8]
   go_wp2_with (at_builtin;(refine wp_rowK (T:=23) (t:=54) (sz:=8) rfl _ _ rfl Tryz.underlying23 info_gol rfl (by decide) (by decide) base _ _ rfl HRW.out g [.string t.s, .int .u32 tg, .int .i64 gr, .int .i64 la, .int .i64 ro, .int .i64 ca, .slice l1 n1 l2, .slice r1 n2 r2] rfl rfl HG3.out HPO.out HLEN.out HSZ.out ?_))
   intro v' w' hr' ho' hob'
   have hj1:=hj.app (own:=own) (by rw[←HOWN.out];exact ho')
   have hnew:v'.ownBlock=own∨∃b,v'.ownBlock=some b∧w5.heap.size≤b:=(by rw[←HOWN.out];exact hob':v'.ownBlock=own∨v'.ownBlock=some W9.heap.size).imp id (fun e=>⟨_,e,hj.frm.size⟩)
   have hkp: ∀j v2,j<10→L j=true→TApp [.pointer (some ⟨sb,0,none⟩), .pointer (some ⟨sb,0,none⟩), .pointer (some ⟨sb,0,none⟩), .pointer (some ⟨sb,1,none⟩), .pointer (some ⟨sb,1,none⟩), .slice ga us.length gc, .pointer (some ⟨gb,1,none⟩), .agg #[.string t.s, .int .u32 tg, .int .i64 gr, .int .i64 la, .int .i64 ro, .int .i64 ca, .slice l1 n1 l2, .slice r1 n2 r2],undef,undef] 8 9 w5.heap.size [.string t.s, .int .u32 tg, .int .i64 gr, .int .i64 la, .int .i64 ro, .int .i64 ca, .slice l1 n1 l2, .slice r1 n2 r2] 54 8 base us own j v2 W9→TApp [.pointer (some ⟨sb,0,none⟩), .pointer (some ⟨sb,0,none⟩), .pointer (some ⟨sb,0,none⟩), .pointer (some ⟨sb,1,none⟩), .pointer (some ⟨sb,1,none⟩), .slice ga us.length gc, .pointer (some ⟨gb,1,none⟩), .agg #[.string t.s, .int .u32 tg, .int .i64 gr, .int .i64 la, .int .i64 ro, .int .i64 ca, .slice l1 n1 l2, .slice r1 n2 r2],undef,undef] 8 9 w5.heap.size [.string t.s, .int .u32 tg, .int .i64 gr, .int .i64 la, .int .i64 ro, .int .i64 ca, .slice l1 n1 l2, .slice r1 n2 r2] 54 8 base us own j v2 w':=fun j v2 _ hl h=>TApp.grow (by rw[←HOWN.out];exact ho') HLT1.out hL j v2 hl h
   go_wp2
   first|exact⟨⟨hr',hnew⟩,hkp⟩|exact⟨⟨hr',hnew⟩,hj1,hkp⟩|exact⟨_,rfl,⟨hr',hnew⟩,hj1,hkp⟩|exact⟨hr',hnew⟩|exact⟨v',rfl,⟨hr',hnew⟩,hj1,hkp⟩
 ·intro u0 W9 L hall hj ht
  have e0:u0 0= .pointer (some ⟨sb,0,none⟩):=ht 0 (by decide)
  obtain⟨hrw,how⟩:=TApp.ka_ (by decide) (ht 9 (by decide))
  simp only[Kj,Jh,List.drop_succ_cons,List.drop_zero,putAll,Act.put,List.setIfInBounds_toArray,List.set_cons_succ,List.set_cons_zero,Nat.zero_add,Nat.reduceAdd]
  rw[e0]
  have HFR:=Lh hj.end_
  obtain⟨a8,c8,h8⟩:=hrw.size
  rw[Kq,List.length_singleton]at h8
  rw[h8]at hrw how ⊢
  have V2:=HFR.out.var HSV.out (fun e=>HGS.out sb e.symm rfl)
  have HRW:=Lh hrw
  have HHW:=Lh how
  have c1:=V2.c 1 rfl
  have q1':=V2.q 1 rfl
  clear hrw how V2 hj hall ht h8
  go_wp2
  first|go_end0|refine bodyPost_ret (results_none rfl _ _ _) rfl ?_
  obtain⟨hsn,hfn,hon⟩:=HSRC.out.goal (g:=goalC x) (lv:= .slice l1 n1 l2) (rv:= .slice r1 n2 r2) (gv':= .slice a8 (us.length+1) c8) (w1:=W9) HLAB.out HRUL.out (fun b e h=>(HLX.out b e).2 ((HSRO.out b).mpr h)) (fun b e h=>(HRX.out b e).2 ((HSRO.out b).mpr h)) (by rw[HYG.out];exact HRW.out) (by rw[HOWN.out];exact HHW.out) (by rw[HOWN.out];exact HFR.out)
  have hG4:Grown O O5 W.heap.size:=fun i hi=>by
   have hz:=HZ3.out
   have hg:=HGB0.out
   rcases HG5.out i hi with(h|h|h|h|h)|h
   ·exact My h
   ·exact Mx (by omega)
   ·cases h
   ·cases h
   ·cases h
   ·exact Mx (by have:=H4.out.size;omega)
  refine⟨rfl,ownS sb fv (.slice a8 (us.length+1) c8) (us++ [golL (goalC x) (.slice l1 n1 l2) (.slice r1 n2 r2)]),⟨fun c hc=>?_,?_⟩,?_,fun i hi=>?_,?_⟩
  ·rcases List.mem_append.mp hc with hc|hc
   ·exact HM.out.1 c hc
   ·rw[List.mem_singleton.mp hc];exact My HNA0.out
  ·have e1:golC (cs++ [x])=golC cs++ [goalC x]:=by rw[golC_app];congr 1;simp only[golC];rw[if_pos HNA0.out];rfl
   have e2:notC (cs++ [x]) []=notC cs []:=by rw[notC_app];simp only[notC];rw[if_pos HNA0.out]
   have e3:subT x=(lookS 1 subG x.kids).2++wholeG x (goalK x):=by unfold subT;rw[if_pos HNA0.out]
   rw[e1,e2,e3]
   exact⟨fv,_,_,hsn,fun i=>Iff.rfl⟩
  ·have h1:Frm (fun i=>O i∨i=ib) W w3:=(Frm.of G2.out).trans (HF3.out.wider (O':=fun i=>O i∨i=ib) (fun i e=>Mx e)) (Grown.refl _ _)
   have h2:Frm (fun i=>O i∨i=ib) W w4:=h1.trans (Frm.of (O:=fun i=>O i∨i=ib) H4.out) (Grown.refl _ _)
   have h3:Frm (fun i=>O i∨i=ib) W w5:=h2.trans HF5.out (fun i hi=>by
    have hz:=HZ3.out
    have hg:=HGB0.out
    rcases hi with h|h|h|h|h
    ·exact My (My h)
    ·exact Mx (by omega)
    ·cases h
    ·cases h
    ·cases h)
   exact h3.trans hfn (fun i hi=>(hG4 i (HOO.out i (My ((HSRO.out i).mpr (hi.elim My (fun e=>Mx (Mx (My e)))))))).imp My id)
  ·have hz5:W.heap.size≤w5.heap.size:=by have h1:=HZ3.out;have h2:=H4.out.size;have h3:=HF5.out.size;omega
   rcases hon i hi with h|h|h|h
   ·exact hG4 i (HOO.out i (My ((HSRO.out i).mpr h)))
   ·exact hG4 i (HOO.out i (Mx (Mx (My h))))
   ·exact hG4 i (HOO.out i (Mx (Mx (Mx (My h)))))
   ·exact Mx (by omega)
  ·exact((HFR.out.var HI5.out (fun e=>HGI.out ib e.symm rfl)).stay (lset_else _ _ _ _ _ (fun e=>HIO.out (by rw[e];exact(Src.var HM.out.2).1))))
end
section
open Go.RowKit
def spObj:Spc:=⟨nObjective,[1],true,6,0,0⟩
def spNot:Spc:=⟨nNotify,[],true,1,0,0⟩
theorem find_obj {x:It} (h:x.name=nObjective):findS 0 x.name=some spObj:=by rw[h];rfl
theorem find_not {x:It} (h:x.name=nNotify):findS 0 x.name=some spNot:=by rw[h];rfl
theorem form_obj {x:It} :FormS spObj x↔x.block=true∧∃t,x.words= [t]∧t.k=1:=by
 unfold FormS
 constructor
 ·rintro⟨h1,h2,_,_⟩
  refine⟨h1,?_⟩
  cases hx:x.words with
  |nil=>rw[hx]at h2;exact h2.elim
  |cons t l=>
   cases l with
   |nil=>rw[hx]at h2;exact⟨t,rfl,h2.1.resolve_right (fun e=>absurd e.1 (by decide))⟩
   |cons u l=>rw[hx]at h2;exact h2.2.elim
 ·rintro⟨h1,t,h2,h3⟩
  rw[h2]
  exact⟨h1,⟨My h3,trivial⟩,fun e=>absurd e (by decide),fun e=>absurd e (by decide)⟩
theorem form_not {x:It} :FormS spNot x↔x.words.length=0∧x.block=true:=by
 unfold FormS
 constructor
 ·rintro⟨h1,h2,_,_⟩
  cases hx:x.words with
  |nil=>exact⟨rfl,h1⟩
  |cons t l=>rw[hx]at h2;exact h2.elim
 ·rintro⟨h1,h2⟩
  rw[List.eq_nil_of_length_eq_zero h1]
  exact⟨h2,trivial,fun e=>absurd e (by decide),fun e=>absurd e (by decide)⟩
section
variable {base sb:Nat}
theorem obj_enters: ∀args W,(callFunc 34 args).run Tryz.prog W= .ok (.enter 34 args) W:=enters_of Tryz.func34 (by kernel_rfl) rfl
theorem not_enters: ∀args W,(callFunc 35 args).run Tryz.prog W= .ok (.enter 35 args) W:=enters_of Tryz.func35 (by kernel_rfl) rfl
theorem objective_handler {K S:Foot} {w0:World} {x:It} {D:Nat} {wv kv:Value} (hn:x.name=nObjective) (hwd:WordsIs w0 S wv x.words) (hkd:ItemsIs D w0 S kv x.kids) (hSK: ∀b,S b→K b) (hKl: ∀b,K b→b<w0.heap.size) (hwo:WordsOk x.words) (hwk: ∀y∈x.kids,WordsOk y.words∧∀z∈y.kids,WordsOk z.words):HandlerC 0 subT (M0 base sb) K w0 x wv kv 34 #[.pointer (some ⟨sb,0,none⟩)] #[]:=by
 intro W cs F O ib mb hin
 have hp:=find_obj hn
 have hWsz:w0.heap.size≤W.heap.size:=Kz hin.isz (Nat.le_of_lt hin.item.s)
 have hwW:WordsIs W S wv x.words:=hwd.keep (fun _ h=>h) (fun b hb=>hin.kept b (hSK b hb))
 have hkW:ItemsIs D W S kv x.kids:=hkd.keep (fun _ h=>h) (fun b hb=>hin.kept b (hSK b hb))
 have hSl: ∀b,S b→b<W.heap.size:=fun b hb=>Kx (hKl b (hSK b hb)) hWsz
 have hmu:MultiS x.name:=by rw[hn];decide
 have hsec:secS x=x.w0.s:=if_pos hmu
 show Calls Tryz.prog 34 #[.pointer (some ⟨sb,0,none⟩), .pointer (some ⟨ib,0,none⟩)] W _
 by_cases hf1:x.words.length=1∧x.block=true
 ·obtain⟨t,hx⟩:=lit_of hf1.1 rfl
  have hto:=hwo t (by rw[hx];simp)
  have hk:1≤t.k∧t.k≤6:=⟨hto.1.lo,hto.1.hi⟩
  have e0:x.w0=t:=by unfold It.w0;rw[hx];rfl
  by_cases hk1:t.k=1
  ·have hF:FormS spObj x:=form_obj.mpr ⟨hf1.2,t,hx,hk1⟩
   have hsne:secS x≠⟨#[]⟩:=by rw[hsec,e0];exact(right_name hto.1 hk1).2
   have hkn:=known_two (p:=spObj) (cs:=cs) (by decide) hmu hsne
   rw[hsec,e0]at hkn
   by_cases hf:cntF cs x.name t.s=0
   ·have hnk: ¬KnownS spObj cs x:=fun h=>hkn.mp h hf
    have hlim:=hin.lim x.name spObj hp
    by_cases h4:manyS cs x.name=6
    ·have hc9:codeS 0 cs x=9:=code_long hp hF hnk (by rw[h4];exact Nat.le_refl _)
     refine(obj_long x t S W sb ib mb wv kv ⟨#[]⟩ hin.item hx hf1.2 hwW hk (cntF cs) hin.cnt hk1 hf (by rw[cntF_many];exact h4)).mono ?_
     rintro e W' ⟨rfl,hb⟩
     exact My ⟨by rw[hc9];decide,by rw[hc9],hb⟩
    ·have hc0:codeS 0 cs x=0:=code_fine hp hF hnk (fun e=>h4 (Nat.le_antisymm hlim e)) (fun e=>absurd e.1 (by decide))
     have hfew:=hin.few
     rw[cntL_unit]at hfew
     refine(obj_set x t S W sb ib mb wv kv ⟨#[]⟩ hin.item hx hf1.2 hwW hk (cntF cs) hin.cnt hk1 base cs F O hin.m hn hf _ (cntF_many cs x.name) h4 hin.io D hkW hSl (fun b hb=>hin.apart b (hSK b hb)) (fun h=>hin.ik (hSK _ h)) hwk (by omega) hin.cs1).mono ?_
     rintro e W' ⟨rfl,h⟩
     rw[hsec,e0]
     exact Mx ⟨hc0,rfl,h⟩
   ·have hc18:codeS 0 cs x=18:=code_known hp hF (hkn.mpr hf)
    refine(obj_known x t S W sb ib mb wv kv ⟨#[]⟩ hin.item hx hf1.2 hwW hk (cntF cs) hin.cnt hk1 hf).mono ?_
    rintro e W' ⟨rfl,hb⟩
    exact My ⟨by rw[hc18];decide,by rw[hc18],hb⟩
  ·have hc6:codeS 0 cs x=6:=code_form hp (fun h=>by obtain⟨_,t',h2,h3⟩:=form_obj.mp h;rw[hx]at h2;injection h2 with h2;subst h2;exact hk1 h3)
   refine(obj_k1 x t S W sb ib mb wv kv ⟨#[]⟩ hin.item hx hf1.2 hwW hk hk1).mono ?_
   rintro e W' ⟨rfl,hb⟩
   exact My ⟨by rw[hc6];decide,by rw[hc6],hb⟩
 ·have hc6:codeS 0 cs x=6:=code_form hp (fun h=>by obtain⟨h1,t',h2,_⟩:=form_obj.mp h;exact hf1 ⟨by rw[h2];rfl,h1⟩)
  obtain⟨wa,wc,hwv⟩:=hwd.size
  have hit:=hin.item
  rw[hwv]at hit
  refine(obj_form x W sb ib mb wa wc kv ⟨#[]⟩ hit hf1).mono ?_
  rintro e W' ⟨rfl,hb⟩
  exact My ⟨by rw[hc6];decide,by rw[hc6],hb⟩
abbrev tabN:List (ByteArray×Nat×Nat):= [(nRoom,13,12),(nReserve,18,17),(nFirst,23,22),(nCap,28,27),(nRepeat,33,32)]
def M3 (base sb:Nat) (gs:List GlC) (k:List It):List Flt→Foot→World→Prop:=Src base sb gs (notL k)
theorem M3.doing (base sb:Nat) (gs:List GlC):Doing (M3 base sb gs) (.pointer (some ⟨sb,0,none⟩)):=Doing.of fun k=>Src.ctx base sb gs (notL k)
variable {gs:List GlC}
theorem M3.var {k:List It} {F:List Flt} {O:Foot} {W:World} (h:M3 base sb gs k F O W) {i:Nat} (hi:i<7):O sb∧∃l,VarL W sb l∧i<l.length:=by
 obtain⟨h1,fv,gv,h2⟩:=Src.var h
 exact⟨h1,_,h2,by simp[notL];omega⟩
theorem M3.set {k:List It} {F:List Flt} {O:Foot} {W:World} (h:M3 base sb gs k F O W) {x:It} {i:Nat} {v:Value} (hi:i<5) (e:notL (k++ [x])=(notL k).set i v):M3 base sb gs (k++ [x]) F O (W.setCell ⟨sb,i+2,none⟩ v):=by
 unfold M3
 rw[e]
 exact Src.set h i v hi
theorem not_room {cs:List It} {x:It} (hx:x.name=nRoom) (h:codeS 3 cs x=0):notL (cs++ [x])=(notL cs).set 0 (.int .i64 (numS x)):=by
 have e:=code_get h (p:=⟨nRoom,[3],false,1,1,64⟩) (by rw[hx];rfl) rfl 16
 rw[hx]at e
 unfold notL
 rw[e,getS_ne (by rw[hx];decide),getS_ne (by rw[hx];decide),getS_ne (by rw[hx];decide),getS_ne (by rw[hx];decide)];rfl
theorem not_reserve {cs:List It} {x:It} (hx:x.name=nReserve) (h:codeS 3 cs x=0):notL (cs++ [x])=(notL cs).set 1 (.int .i64 (numS x)):=by
 have e:=code_get h (p:=⟨nReserve,[3],false,1,0,64⟩) (by rw[hx];rfl) rfl 0
 rw[hx]at e
 unfold notL
 rw[e,getS_ne (by rw[hx];decide),getS_ne (by rw[hx];decide),getS_ne (by rw[hx];decide),getS_ne (by rw[hx];decide)];rfl
theorem not_first {cs:List It} {x:It} (hx:x.name=nFirst) (h:codeS 3 cs x=0):notL (cs++ [x])=(notL cs).set 2 (.int .i64 (numS x)):=by
 have e:=code_get h (p:=⟨nFirst,[6],false,1,1,86400⟩) (by rw[hx];rfl) rfl 10
 rw[hx]at e
 unfold notL
 rw[e,getS_ne (by rw[hx];decide),getS_ne (by rw[hx];decide),getS_ne (by rw[hx];decide),getS_ne (by rw[hx];decide)];rfl
theorem not_cap {cs:List It} {x:It} (hx:x.name=nCap) (h:codeS 3 cs x=0):notL (cs++ [x])=(notL cs).set 3 (.int .i64 (numS x)):=by
 have e:=code_get h (p:=⟨nCap,[6],false,1,1,604800⟩) (by rw[hx];rfl) rfl 300
 rw[hx]at e
 unfold notL
 rw[e,getS_ne (by rw[hx];decide),getS_ne (by rw[hx];decide),getS_ne (by rw[hx];decide),getS_ne (by rw[hx];decide)];rfl
theorem not_repeat {cs:List It} {x:It} (hx:x.name=nRepeat) (h:codeS 3 cs x=0):notL (cs++ [x])=(notL cs).set 4 (.int .i64 (numS x)):=by
 have e:=code_get h (p:=⟨nRepeat,[6],false,1,0,2592000⟩) (by rw[hx];rfl) rfl 0
 rw[hx]at e
 unfold notL
 rw[e,getS_ne (by rw[hx];decide),getS_ne (by rw[hx];decide),getS_ne (by rw[hx];decide),getS_ne (by rw[hx];decide)];rfl
def NotT (b1 sb:Nat) (u:Nat→Value) (w:World):Prop:=
 SpanV b1 99 100 1 64 sb 2 (u 12) w∧SpanV b1 99 100 0 64 sb 3 (u 17) w∧
 SpanV b1 101 102 1 86400 sb 4 (u 22) w∧SpanV b1 101 102 1 604800 sb 5 (u 27) w∧SpanV b1 101 102 0 2592000 sb 6 (u 32) w
theorem not_handles {K S:Foot} {w:World} {b1:Nat} {u:Nat→Value} (h:NotT b1 sb u w) (hKn: ∀b,b1≤b→b<w.heap.size→K b) (hKl: ∀b,K b→b<w.heap.size) (hSK: ∀b,S b→K b) (y:It) (hwo:WordsOk y.words):HandlesC 3 sub2 (M3 base sb gs) K w (byTab tabN u) S y:=by
 obtain⟨h1,h2,h3,h4,h5⟩:=h
 have hD:=M3.doing base sb gs
 by_cases e1:y.name=nRoom
 ·exact count_handles hD (p:=⟨nRoom,[3],false,1,1,64⟩) (by rw[e1];rfl) (span_spec rfl rfl rfl (by decide) (by decide) (by decide) (by decide) (by decide)) rfl (sec_none (by rw[e1];decide)) h1 hKn hKl (fun _ _ _ _ hM=>M3.var hM (by decide)) (fun _ _ _ _ hM hc=>M3.set hM (i:=0) (by decide) (not_room e1 hc)) hSK hwo (by rw[e1];rfl)
 by_cases e2:y.name=nReserve
 ·exact count_handles hD (p:=⟨nReserve,[3],false,1,0,64⟩) (by rw[e2];rfl) (span_spec rfl rfl rfl (by decide) (by decide) (by decide) (by decide) (by decide)) rfl (sec_none (by rw[e2];decide)) h2 hKn hKl (fun _ _ _ _ hM=>M3.var hM (by decide)) (fun _ _ _ _ hM hc=>M3.set hM (i:=1) (by decide) (not_reserve e2 hc)) hSK hwo (by rw[e2];rfl)
 by_cases e3:y.name=nFirst
 ·exact span_handles hD (p:=⟨nFirst,[6],false,1,1,86400⟩) (by rw[e3];rfl) (span_spec rfl rfl rfl (by decide) (by decide) (by decide) (by decide) (by decide)) rfl (sec_none (by rw[e3];decide)) h3 hKn hKl (fun _ _ _ _ hM=>M3.var hM (by decide)) (fun _ _ _ _ hM hc=>M3.set hM (i:=2) (by decide) (not_first e3 hc)) hSK hwo (by rw[e3];rfl)
 by_cases e4:y.name=nCap
 ·exact span_handles hD (p:=⟨nCap,[6],false,1,1,604800⟩) (by rw[e4];rfl) (span_spec rfl rfl rfl (by decide) (by decide) (by decide) (by decide) (by decide)) rfl (sec_none (by rw[e4];decide)) h4 hKn hKl (fun _ _ _ _ hM=>M3.var hM (by decide)) (fun _ _ _ _ hM hc=>M3.set hM (i:=3) (by decide) (not_cap e4 hc)) hSK hwo (by rw[e4];rfl)
 by_cases e5:y.name=nRepeat
 ·exact span_handles hD (p:=⟨nRepeat,[6],false,1,0,2592000⟩) (by rw[e5];rfl) (span_spec rfl rfl rfl (by decide) (by decide) (by decide) (by decide) (by decide)) rfl (sec_none (by rw[e5];decide)) h5 hKn hKl (fun _ _ _ _ hM=>M3.var hM (by decide)) (fun _ _ _ _ hM hc=>M3.set hM (i:=4) (by decide) (not_repeat e5 hc)) hSK hwo (by rw[e5];rfl)
 refine My ⟨?_,?_⟩
 ·unfold byTab
  rw[List.find?_eq_none.mpr (fun t ht=>by
   simp only[tabN,List.mem_cons,List.not_mem_nil,or_false]at ht
   rcases ht with rfl|rfl|rfl|rfl|rfl<;>simp only[decide_eq_true_eq]<;>exact fun e=>by first|exact e1 e.symm|exact e2 e.symm|exact e3 e.symm|exact e4 e.symm|exact e5 e.symm)]
  rfl
 ·unfold findS
  rw[List.find?_eq_none.mpr (fun t ht=>by
   simp only[specsL,List.mem_cons,List.not_mem_nil,or_false]at ht
   rcases ht with rfl|rfl|rfl|rfl|rfl<;>simp only[decide_eq_true_eq]<;>exact fun e=>by first|exact e1 e.symm|exact e2 e.symm|exact e3 e.symm|exact e4 e.symm|exact e5 e.symm)]
end
end
end Go.Proofs.YtalcagmhdppdjaaGreatDoor
