/-
  The law's swapped: a list with two neighbours the other way round, walked.
-/
import Derived.Test.YtalcagmhdppdjaaGreatDoorPkCompileTurns18
set_option maxRecDepth 100000
set_option maxHeartbeats 16000000
namespace Go.Proofs.YtalcagmhdppdjaaGreatDoor
open Lib renaming hid→Lh
open Go.RowKit.Below renaming refl→Mj
open List renaming getD_eq_getElem?_getD→Mk,getElem?_eq_getElem→Kh,length_map→Ky,mem_cons_of_mem→Jy,mem_cons_self→Jz
open Or renaming inr→Mx,inl→My
open World renaming cell?_of_block→Kk
open Nat renaming lt_of_lt_of_le→Kx,le_trans→Kz
section
open Go.RowKit
theorem right_name {t:Tk3} (h:WordR t) (hk:t.k=1):t.n=0∧t.s≠⟨#[]⟩:=by
 rcases h.right with⟨_,h1,h2⟩|⟨h1,_⟩|⟨h1,_⟩|⟨h1,_⟩|⟨h1,_⟩|⟨h1,_⟩
 ·refine⟨h2,fun e=>?_⟩
  rw[e]at h1
  have:=h1.1
  have h0:runesOf (nums ⟨#[]⟩)= []:=runes_nil
  rw[h0]at this
  exact absurd this (by decide)
 all_goals omega
theorem lit_of {l:List Tk3} {n:Nat} (h:l.length=n) (h1:n=1): ∃t,l= [t]:=by
 subst h1
 match l,h with
 | [t],_=>exact⟨t,rfl⟩
theorem lit_of2 {l:List Tk3} (h:l.length=2): ∃t u,l= [t,u]:=by
 match l,h with
 | [t,u],_=>exact⟨t,u,rfl⟩
def spCal:Spc:=⟨nCalendar,[1],false,1,0,0⟩
def spLab:Spc:=⟨nLabel,[1,2],false,4,0,0⟩
def spRul:Spc:=⟨nRule,[1,1],true,4,0,0⟩
theorem find_cal {x:It} (h:x.name=nCalendar):findS 1 x.name=some spCal:=by rw[h];rfl
theorem find_lab {x:It} (h:x.name=nLabel):findS 1 x.name=some spLab:=by rw[h];rfl
theorem find_rul {x:It} (h:x.name=nRule):findS 1 x.name=some spRul:=by rw[h];rfl
theorem form_cal {x:It} :FormS spCal x↔x.block=false∧∃t,x.words= [t]∧t.k=1∧(t.s=nMonth∨t.s=nQuarter):=by
 unfold FormS It.w0 It.w1
 constructor
 ·rintro⟨h1,h2,h3,_⟩
  refine⟨h1,?_⟩
  cases hx:x.words with
  |nil=>rw[hx]at h2;exact h2.elim
  |cons t l=>
   cases l with
   |nil=>
    rw[hx]at h2 h3
    refine⟨t,rfl,h2.1.resolve_right (fun e=>absurd e.1 (by decide)),h3 rfl⟩
   |cons u l=>rw[hx]at h2;exact h2.2.elim
 ·rintro⟨h1,t,h2,h3,h4⟩
  rw[h2]
  exact⟨h1,⟨My h3,trivial⟩,fun _=>h4,fun e=>absurd e (by decide)⟩
theorem form_lab {x:It} :FormS spLab x↔x.block=false∧∃t u,x.words= [t,u]∧t.k=1∧u.k=2:=by
 unfold FormS It.w0 It.w1
 constructor
 ·rintro⟨h1,h2,h3,_⟩
  refine⟨h1,?_⟩
  cases hx:x.words with
  |nil=>rw[hx]at h2;exact h2.elim
  |cons t l=>
   cases l with
   |nil=>rw[hx]at h2;exact h2.2.elim
   |cons u l=>
    cases l with
    |nil=>
     rw[hx]at h2
     exact⟨t,u,rfl,h2.1.resolve_right (fun e=>absurd e.1 (by decide)),h2.2.1.resolve_right (fun e=>absurd e.1 (by decide))⟩
    |cons v l=>rw[hx]at h2;exact h2.2.2.elim
 ·rintro⟨h1,t,u,h2,h3,h4⟩
  rw[h2]
  exact⟨h1,⟨My h3,My h4,trivial⟩,fun e=>absurd e (by decide),fun e=>absurd e (by decide)⟩
theorem form_rul {x:It} :FormS spRul x↔x.block=true∧∃t u,x.words= [t,u]∧t.k=1∧u.k=1∧(u.s=nPage∨u.s=nTicket):=by
 unfold FormS It.w0 It.w1
 constructor
 ·rintro⟨h1,h2,_,h3⟩
  refine⟨h1,?_⟩
  cases hx:x.words with
  |nil=>rw[hx]at h2;exact h2.elim
  |cons t l=>
   cases l with
   |nil=>rw[hx]at h2;exact h2.2.elim
   |cons u l=>
    cases l with
    |nil=>
     rw[hx]at h2 h3
     exact⟨t,u,rfl,h2.1.resolve_right (fun e=>absurd e.1 (by decide)),h2.2.1.resolve_right (fun e=>absurd e.1 (by decide)),h3 rfl⟩
    |cons v l=>rw[hx]at h2;exact h2.2.2.elim
 ·rintro⟨h1,t,u,h2,h3,h4,h5⟩
  rw[h2]
  exact⟨h1,⟨My h3,My h4,trivial⟩,fun e=>absurd e (by decide),fun _=>h5⟩
theorem known_two {p:Spc} {cs:List It} {x:It} (h1:p.most≠1) (hm:MultiS x.name) (hs:secS x≠⟨#[]⟩):KnownS p cs x↔cntF cs x.name (secS x)≠0:=by
 rw[cntF_known hs]
 unfold KnownS
 have e: ∀c:It,c.name=x.name→(secS c=c.w0.s∧secS x=x.w0.s):=fun c hc=>by
  unfold secS
  rw[if_pos hm,if_pos (by rw[hc];exact hm)]
  exact⟨rfl,rfl⟩
 constructor
 ·rintro⟨c,h2,h3,h4⟩
  exact⟨c,h2,h3,by rw[(e c h3).1,(e c h3).2];exact h4.resolve_left h1⟩
 ·rintro⟨c,h2,h3,h4⟩
  exact⟨c,h2,h3,Mx (by rw[←(e c h3).1,←(e c h3).2];exact h4)⟩
section
variable {base:Nat} {fpv:Value} {X:List Flt→Foot→World→Prop} {gb:Nat} {nm:ByteArray}
theorem cal_enters: ∀args W,(callFunc 96 args).run Tryz.prog W= .ok (.enter 96 args) W:=enters_of Tryz.func96 (by kernel_rfl) rfl
theorem lab_enters: ∀args W,(callFunc 97 args).run Tryz.prog W= .ok (.enter 97 args) W:=enters_of Tryz.func97 (by kernel_rfl) rfl
theorem calendar_handler (hX:CtxC fpv X) {K S:Foot} {w0:World} {x:It} {wv kv:Value} (hn:x.name=nCalendar) (hwd:WordsIs w0 S wv x.words) (hSK: ∀b,S b→K b) (hwo:WordsOk x.words):HandlerC 1 subG (M1 base fpv X gb nm) K w0 x wv kv 96 #[.pointer (some ⟨gb,0,none⟩)] #[]:=by
 intro W cs F O ib mb hin
 have hp:=find_cal hn
 have hwW:WordsIs W S wv x.words:=hwd.keep (fun _ h=>h) (fun b hb=>hin.kept b (hSK b hb))
 have hsub:subG x= []:=by unfold subG;rw[if_neg (by rw[hn];decide)]
 have hsec:secS x=⟨#[]⟩:=by unfold secS;rw[if_neg (by rw[hn];decide)]
 show Calls Tryz.prog 96 #[.pointer (some ⟨gb,0,none⟩), .pointer (some ⟨ib,0,none⟩)] W _
 by_cases hf1:x.words.length=1∧x.block=false
 ·obtain⟨t,hx⟩:=lit_of hf1.1 rfl
  have hto:=hwo t (by rw[hx];simp)
  have hk:1≤t.k∧t.k≤6:=⟨hto.1.lo,hto.1.hi⟩
  have e0:x.w0=t:=by unfold It.w0;rw[hx];rfl
  by_cases hF:FormS spCal x
  ·obtain⟨hb,t',hx',hk1,hmq⟩:=form_cal.mp hF
   rw[hx]at hx'
   injection hx' with hx'
   subst hx'
   have hnum:numS x=0:=by
    rw[numS_one hx]
    unfold numW
    rw[if_neg (by rw[hn];rintro⟨e,_⟩;exact absurd e (by decide)),(right_name hto.1 hk1).1]
   by_cases hf:cntF cs x.name ⟨#[]⟩=0
   ·have hm0:manyS cs x.name=0:=by rw[←cntF_many];exact hf
    have hc0:codeS 1 cs x=0:=code_fine hp hF (fun h=>(known_one (p:=spCal) rfl).mp h hm0) (by rw[hm0];decide) (by rw[hnum];decide)
    have hOl:=(M1.ctx (base:=base) (gb:=gb) (nm:=nm) hX cs).lt _ _ _ hin.m
    obtain⟨hOg,l,hV,hl⟩:=M1.var hin.m
    have fin: ∀v W1,Below W.heap.size W W1→v=(if x.w0.s=nMonth then 1 else 2:Int)→∃O',M1 base fpv X gb nm (cs++ [x]) (F++subG x) O' (W1.setCell ⟨gb,6,none⟩ (.int .i64 v))∧Frm (fun i=>O i∨i=ib) W (W1.setCell ⟨gb,6,none⟩ (.int .i64 v))∧Grown O O' W.heap.size∧VarL (W1.setCell ⟨gb,6,none⟩ (.int .i64 v)) ib (itemL x wv kv mb (secS x)):=fun v W1 hb hv=>by
     have hM1:=(M1.ctx (base:=base) (gb:=gb) (nm:=nm) hX cs).keep _ _ _ _ hin.m (fun b h=>hb.block b (hOl b h))
     refine⟨O,?_,Frm.set (O:=fun i=>O i∨i=ib) (Frm.of hb) (My hOg) _ _,Grown.refl _ _,?_⟩
     ·rw[hsub,List.append_nil]
      exact M1.num hX hM1 (fun lv rv pv=>by rw[hv];exact goal_cal hn fpv nm lv rv pv) (by decide) (lab_ne (by rw[hn];decide) cs) (rul_ne (by rw[hn];decide) cs) (plc_ne (by rw[hn];decide) cs)
     ·rw[hsec]
      exact(hin.item.after hb).stay (lset_else _ _ _ _ _ (fun e=>hin.io (by rw[e];exact hOg)))
    by_cases hm:t.s=nMonth
    ·refine(cal_setm x t S W gb ib mb wv kv ⟨#[]⟩ hin.item hx hf1.2 hwW hk (cntF cs) hin.cnt hf ⟨hk1,hm⟩ l hV hl).mono ?_
     rintro e W' ⟨rfl,W1,hb,rfl⟩
     exact Mx ⟨hc0,rfl,fin 1 W1 hb (by rw[e0,if_pos hm])⟩
    ·refine(cal_setq x t S W gb ib mb wv kv ⟨#[]⟩ hin.item hx hf1.2 hwW hk (cntF cs) hin.cnt hf ⟨hk1,hm,hmq.resolve_left hm⟩ l hV hl).mono ?_
     rintro e W' ⟨rfl,W1,hb,rfl⟩
     exact Mx ⟨hc0,rfl,fin 2 W1 hb (by rw[e0,if_neg hm])⟩
   ·have hc18:codeS 1 cs x=18:=code_known hp hF ((known_one (p:=spCal) rfl).mpr (by rw[←cntF_many];exact hf))
    by_cases hm:t.s=nMonth
    ·refine(cal_knownm x t S W gb ib mb wv kv ⟨#[]⟩ hin.item hx hf1.2 hwW hk (cntF cs) hin.cnt hf ⟨hk1,hm⟩).mono ?_
     rintro e W' ⟨rfl,hb⟩
     exact My ⟨by rw[hc18];decide,by rw[hc18],hb⟩
    ·refine(cal_knownq x t S W gb ib mb wv kv ⟨#[]⟩ hin.item hx hf1.2 hwW hk (cntF cs) hin.cnt hf ⟨hk1,hm,hmq.resolve_left hm⟩).mono ?_
     rintro e W' ⟨rfl,hb⟩
     exact My ⟨by rw[hc18];decide,by rw[hc18],hb⟩
  ·have hc6:codeS 1 cs x=6:=code_form hp hF
   by_cases hk1:t.k=1
   ·have hno:t.s≠nMonth∧t.s≠nQuarter:=⟨fun e=>hF (form_cal.mpr ⟨hf1.2,t,hx,hk1,My e⟩),fun e=>hF (form_cal.mpr ⟨hf1.2,t,hx,hk1,Mx e⟩)⟩
    refine(cal_none x t S W gb ib mb wv kv ⟨#[]⟩ hin.item hx hf1.2 hwW hk ⟨hk1,hno⟩).mono ?_
    rintro e W' ⟨rfl,hb⟩
    exact My ⟨by rw[hc6];decide,by rw[hc6],hb⟩
   ·refine(cal_kind x t S W gb ib mb wv kv ⟨#[]⟩ hin.item hx hf1.2 hwW hk hk1).mono ?_
    rintro e W' ⟨rfl,hb⟩
    exact My ⟨by rw[hc6];decide,by rw[hc6],hb⟩
 ·have hc6:codeS 1 cs x=6:=code_form hp (fun h=>by obtain⟨h1,t',h2,_⟩:=form_cal.mp h;exact hf1 ⟨by rw[h2];rfl,h1⟩)
  obtain⟨wa,wc,hwv⟩:=hwd.size
  have hit:=hin.item
  rw[hwv]at hit
  refine(cal_form x W gb ib mb wa wc kv ⟨#[]⟩ hit hf1).mono ?_
  rintro e W' ⟨rfl,hb⟩
  exact My ⟨by rw[hc6];decide,by rw[hc6],hb⟩
theorem own_new {v v':Value} {n:Nat} (h:v'.ownBlock=v.ownBlock∨∃b,v'.ownBlock=some b∧n≤b) {b:Nat} (hb:v'.ownBlock=some b):v.ownBlock=some b∨n≤b:=by
 rcases h with h|⟨c,h,h2⟩
 ·exact My (h.symm.trans hb)
 ·rw[h]at hb;injection hb with hb;exact Mx (by omega)
theorem label_handler (hX:CtxC fpv X) {K S:Foot} {w0:World} {x:It} {wv kv:Value} (hn:x.name=nLabel) (hwd:WordsIs w0 S wv x.words) (hSK: ∀b,S b→K b) (hKl: ∀b,K b→b<w0.heap.size) (hwo:WordsOk x.words):HandlerC 1 subG (M1 base fpv X gb nm) K w0 x wv kv 97 #[.pointer (some ⟨gb,0,none⟩)] #[]:=by
 intro W cs F O ib mb hin
 have hp:=find_lab hn
 have hWsz:w0.heap.size≤W.heap.size:=Kz hin.isz (Nat.le_of_lt hin.item.s)
 have hwW:WordsIs W S wv x.words:=hwd.keep (fun _ h=>h) (fun b hb=>hin.kept b (hSK b hb))
 have hSl: ∀b,S b→b<W.heap.size:=fun b hb=>Kx (hKl b (hSK b hb)) hWsz
 have hsub:subG x= []:=by unfold subG;rw[if_neg (by rw[hn];decide)]
 have hmu:MultiS x.name:=by rw[hn];decide
 have hsec:secS x=x.w0.s:=if_pos hmu
 show Calls Tryz.prog 97 #[.pointer (some ⟨gb,0,none⟩), .pointer (some ⟨ib,0,none⟩)] W _
 by_cases hf1:x.words.length=2∧x.block=false
 ·obtain⟨t,u,hx⟩:=lit_of2 hf1.1
  have hto:=hwo t (by rw[hx];simp)
  have huo:=hwo u (by rw[hx];simp)
  have hk:1≤t.k∧t.k≤6:=⟨hto.1.lo,hto.1.hi⟩
  have hk2:1≤u.k∧u.k≤6:=⟨huo.1.lo,huo.1.hi⟩
  have e0:x.w0=t:=by unfold It.w0;rw[hx];rfl
  have e1:x.w1=u:=by unfold It.w1;rw[hx];rfl
  by_cases hF:FormS spLab x
  ·obtain⟨hb,t',u',hx',hk1,hk3⟩:=form_lab.mp hF
   rw[hx]at hx'
   injection hx' with hx1 hx2
   injection hx2 with hx2
   subst hx1 hx2
   have hsne:secS x≠⟨#[]⟩:=by rw[hsec,e0];exact(right_name hto.1 hk1).2
   have hkn:=known_two (p:=spLab) (cs:=cs) (by decide) hmu hsne
   rw[hsec,e0]at hkn
   by_cases hf:cntF cs x.name t.s=0
   ·have hnk: ¬KnownS spLab cs x:=fun h=>hkn.mp h hf
    have hlim:=hin.lim x.name spLab hp
    by_cases h4:manyS cs x.name=4
    ·have hc9:codeS 1 cs x=9:=code_long hp hF hnk (by rw[h4];exact Nat.le_refl _)
     refine(lab_long x t u S W gb ib mb wv kv ⟨#[]⟩ hin.item hx hf1.2 hwW hSl hk hk2 (cntF cs) hin.cnt ⟨hk1,hk3⟩ hin.im hf (by rw[cntF_many];exact h4)).mono ?_
     rintro e W' ⟨rfl,hb⟩
     exact My ⟨by rw[hc9];decide,by rw[hc9],hb⟩
    ·have hc0:codeS 1 cs x=0:=code_fine hp hF hnk (fun e=>h4 (Nat.le_antisymm hlim e)) (fun e=>absurd e.1 (by decide))
     have hOl:=(M1.ctx (base:=base) (gb:=gb) (nm:=nm) hX cs).lt _ _ _ hin.m
     obtain⟨O1,lv,rv,pv,h1,ho⟩:=hin.m
     have hgi:gb≠ib:=fun e=>hin.io ((ho ib).mpr (Mx (My e.symm)))
     have hOx: ∀b,O1 b→b<W.heap.size:=fun b hb=>hOl b ((ho b).mpr (My hb))
     have hog: ∀ {i},ownG gb lv rv pv i→i<W.heap.size:=fun h=>h1.olt h
     refine(lab_set x t u S W gb ib mb wv kv ⟨#[]⟩ hin.item hx hf1.2 hwW hSl hk hk2 (cntF cs) hin.cnt ⟨hk1,hk3⟩ hin.im hf _ (cntF_many cs x.name) h4 _ h1.var lv _ base rfl h1.lab (Kz h1.bg (Nat.le_of_lt h1.var.s)) (by rw[Ky];have:=labC_le cs;have:=hin.cs1;omega) hgi (fun b e=>⟨(h1.lx b e).1,fun e2=>hin.io ((ho ib).mpr (Mx (Mx (My (by rw[←e2];exact e.symm)))))⟩)).mono ?_
     rintro e W' ⟨rfl,lv',q1,q2,q3,q4,q5⟩
     have hkO: ∀b,O1 b→W'.heap[b]?=W.heap[b]?:=fun b hb=>q4.keep b (hOx b hb) (fun e=>by
      rcases e with rfl|rfl|e
      ·exact h1.gx hb
      ·exact hin.io ((ho _).mpr (My hb))
      ·exact(h1.lx b e.symm).2 hb)
     have hkeep: ∀b,(rv.ownBlock=some b∨pv.ownBlock=some b)→W'.heap[b]?=W.heap[b]?:=fun b hb=>q4.keep b (by rcases hb with hb|hb;exact(h1.rul.lt hb).2;exact(h1.plc.lt hb).2) (fun e=>by
      rcases e with rfl|rfl|e
      ·rcases hb with hb|hb
       ·exact(h1.rx _ hb).1 rfl
       ·exact(h1.px _ hb).1 rfl
      ·rcases hb with hb|hb
       ·exact hin.io ((ho _).mpr (Mx (Mx (Mx (My hb.symm)))))
       ·exact hin.io ((ho _).mpr (Mx (Mx (Mx (Mx hb.symm)))))
      ·rcases hb with hb|hb
       ·exact h1.lr b e.symm hb
       ·exact h1.lp b e.symm hb)
     refine Mx ⟨hc0,rfl,fun i=>O1 i∨ownG gb lv' rv pv i,⟨O1,lv',rv,pv,⟨?_,?_,?_,?_,?_,h1.gx,fun b e=>?_,h1.rx,h1.px,fun b e=>?_,fun b e=>?_,h1.rp,h1.bg⟩,fun i=>Iff.rfl⟩,?_,fun i hi=>?_,?_⟩
     ·rw[hsub,List.append_nil]
      exact hX.keep _ _ _ _ h1.x hkO
     ·rw[goal_ne (by rw[hn];decide) (by rw[hn];decide) (by rw[hn];decide) (by rw[hn];decide) (by rw[hn];decide)]
      exact q1
     ·rw[labC_app,List.map_append]
      have:labC [x]= [(t.s,u.s)]:=by simp only[labC];rw[if_pos hn,e0,e1];rfl
      rw[this]
      exact q2
     ·rw[rul_ne (by rw[hn];decide)]
      exact h1.rul.kept (fun b e=>hkeep b (My e))
     ·rw[plc_ne (by rw[hn];decide)]
      exact h1.plc.kept (fun b e=>hkeep b (Mx e))
     ·rcases own_new q5 e with h|h
      ·exact h1.lx b h
      ·exact⟨fun e=>by have:=h1.var.s;omega,fun e=>by have:=hOx b e;omega⟩
     ·rcases own_new q5 e with h|h
      ·exact h1.lr b h
      ·exact fun e=>by have:=(h1.rul.lt e).2;omega
     ·rcases own_new q5 e with h|h
      ·exact h1.lp b h
      ·exact fun e=>by have:=(h1.plc.lt e).2;omega
     ·exact q4.wider (fun i hi=>by
       rcases hi with rfl|rfl|e
       ·exact My ((ho _).mpr (Mx (My rfl)))
       ·exact Mx rfl
       ·exact My ((ho _).mpr (Mx (Mx (My e)))))
     ·rcases hi with hi|rfl|e|e|e
      ·exact My ((ho _).mpr (My hi))
      ·exact My ((ho _).mpr (Mx (My rfl)))
      ·rcases own_new q5 e.symm with h|h
       ·exact My ((ho _).mpr (Mx (Mx (My h.symm))))
       ·exact Mx h
      ·exact My ((ho _).mpr (Mx (Mx (Mx (My e)))))
      ·exact My ((ho _).mpr (Mx (Mx (Mx (Mx e)))))
     ·rw[hsec,e0];exact q3
   ·have hc18:codeS 1 cs x=18:=code_known hp hF (hkn.mpr hf)
    refine(lab_known x t u S W gb ib mb wv kv ⟨#[]⟩ hin.item hx hf1.2 hwW hSl hk hk2 (cntF cs) hin.cnt ⟨hk1,hk3⟩ hin.im hf).mono ?_
    rintro e W' ⟨rfl,hb⟩
    exact My ⟨by rw[hc18];decide,by rw[hc18],hb⟩
  ·have hc6:codeS 1 cs x=6:=code_form hp hF
   by_cases hk1:t.k=1
   ·have hk3:u.k≠2:=fun e=>hF (form_lab.mpr ⟨hf1.2,t,u,hx,hk1,e⟩)
    refine(lab_k2 x t u S W gb ib mb wv kv ⟨#[]⟩ hin.item hx hf1.2 hwW hSl hk hk2 ⟨hk1,hk3⟩).mono ?_
    rintro e W' ⟨rfl,hb⟩
    exact My ⟨by rw[hc6];decide,by rw[hc6],hb⟩
   ·refine(lab_k1 x t u S W gb ib mb wv kv ⟨#[]⟩ hin.item hx hf1.2 hwW hSl hk hk2 hk1).mono ?_
    rintro e W' ⟨rfl,hb⟩
    exact My ⟨by rw[hc6];decide,by rw[hc6],hb⟩
 ·have hc6:codeS 1 cs x=6:=code_form hp (fun h=>by obtain⟨h1,t',u',h2,_⟩:=form_lab.mp h;exact hf1 ⟨by rw[h2];rfl,h1⟩)
  obtain⟨wa,wc,hwv⟩:=hwd.size
  have hit:=hin.item
  rw[hwv]at hit
  refine(lab_form x W gb ib mb wa wc kv ⟨#[]⟩ hit hf1).mono ?_
  rintro e W' ⟨rfl,hb⟩
  exact My ⟨by rw[hc6];decide,by rw[hc6],hb⟩
end
end
section
open Go.RowKit
section
variable {wh:Nat} {sub:It→List Flt} {M:List It→List Flt→Foot→World→Prop} {fpv:Value} {K S:Foot} {w0:World} {x:It} {p:Spc} {hm:ByteArray→Option Value} {b1 tb ti:Nat} {v:Value} {ik:IntKind}
theorem numat_cell {w:World} {B:Nat} {ofn:FuncId} {lo hi:Int} {sv:Value} (h:NumAt w B ofn lo hi sv):B+3<w.heap.size:=World.block_lt_of_cell? _ _ h.c3
theorem span_handles (hD:Doing M fpv) (hp:findS wh x.name=some p) (hs:NumSpec wh p 6 (fun t=>t.k=6) (fun t=>t.n)) (hsub:sub x= []) (hsec:secS x=⟨#[]⟩)
  (hv:SpanV b1 101 102 p.lo p.hi tb ti v w0) (hKn: ∀b,b1≤b→b<w0.heap.size→K b) (hKl: ∀b,K b→b<w0.heap.size)
  (hvar: ∀cs F O W,M cs F O W→O tb∧∃l,VarL W tb l∧ti<l.length) (hset: ∀cs F O W,M cs F O W→codeS wh cs x=0→M (cs++ [x]) F O (W.setCell ⟨tb,ti,none⟩ (.int .i64 (numS x))))
  (hSK: ∀b,S b→K b) (hwo:WordsOk x.words) (hm1:hm x.name=some v):HandlesC wh sub M K w0 hm S x:=by
 obtain⟨bx,B,e,h1,h2,h3,h4⟩:=hv
 have hB:=numat_cell h4
 have hbx:bx<w0.heap.size:=World.block_lt_of_cell? _ _ h3
 rw[e]at hm1
 refine Mx ⟨p,_, #[],_,hp,hm1,num_enters,fun D wv kv hw hk=>?_⟩
 exact number_handler hD hp hs hsub hsec h4 (fun i hi=>hKn _ (by omega) (by omega)) hKl span_of (span_sets h3 (hKn bx h1 hbx)) hvar hset hw hSK hwo
theorem count_handles (hD:Doing M fpv) (hp:findS wh x.name=some p) (hs:NumSpec wh p 3 (fun t=>t.k=3) (fun t=>t.n)) (hsub:sub x= []) (hsec:secS x=⟨#[]⟩)
  (hv:SpanV b1 99 100 p.lo p.hi tb ti v w0) (hKn: ∀b,b1≤b→b<w0.heap.size→K b) (hKl: ∀b,K b→b<w0.heap.size)
  (hvar: ∀cs F O W,M cs F O W→O tb∧∃l,VarL W tb l∧ti<l.length) (hset: ∀cs F O W,M cs F O W→codeS wh cs x=0→M (cs++ [x]) F O (W.setCell ⟨tb,ti,none⟩ (.int .i64 (numS x))))
  (hSK: ∀b,S b→K b) (hwo:WordsOk x.words) (hm1:hm x.name=some v):HandlesC wh sub M K w0 hm S x:=by
 obtain⟨bx,B,e,h1,h2,h3,h4⟩:=hv
 have hB:=numat_cell h4
 have hbx:bx<w0.heap.size:=World.block_lt_of_cell? _ _ h3
 rw[e]at hm1
 refine Mx ⟨p,_, #[],_,hp,hm1,num_enters,fun D wv kv hw hk=>?_⟩
 exact number_handler hD hp hs hsub hsec h4 (fun i hi=>hKn _ (by omega) (by omega)) hKl count_of (count_sets h3 (hKn bx h1 hbx)) hvar hset hw hSK hwo
theorem plain_handles (hD:Doing M fpv) (hp:findS wh x.name=some p) {k0:Int} {ok:Tk3→Prop} {val:Tk3→Int} (hs:NumSpec wh p k0 ok val) (hsub:sub x= []) (hsec:secS x=⟨#[]⟩) {ofn:FuncId} (hof:OfC ofn ok val) {sv:Value}
  (hv:PlainV b1 ofn p.lo p.hi sv v w0) (hKn: ∀b,b1≤b→b<w0.heap.size→K b) (hKl: ∀b,K b→b<w0.heap.size) (hsv:SetsC K w0 sv tb ti ik)
  (hvar: ∀cs F O W,M cs F O W→O tb∧∃l,VarL W tb l∧ti<l.length) (hset: ∀cs F O W,M cs F O W→codeS wh cs x=0→M (cs++ [x]) F O (W.setCell ⟨tb,ti,none⟩ (.int ik (numS x))))
  (hSK: ∀b,S b→K b) (hwo:WordsOk x.words) (hm1:hm x.name=some v):HandlesC wh sub M K w0 hm S x:=by
 obtain⟨B,e,h2,h4⟩:=hv
 have hB:=numat_cell h4
 rw[e]at hm1
 refine Mx ⟨p,_, #[],_,hp,hm1,num_enters,fun D wv kv hw hk=>?_⟩
 exact number_handler hD hp hs hsub hsec h4 (fun i hi=>hKn _ (by omega) (by omega)) hKl hof hsv hvar hset hw hSK hwo
end
theorem sec_none {x:It} (h: ¬MultiS x.name):secS x=⟨#[]⟩:=if_neg h
abbrev tabR:List (ByteArray×Nat×Nat):= [(nLong,12,11),(nShort,15,14),(nFactor,18,17),(nFor,21,20),(nKeep,24,23)]
def byTab (tab:List (ByteArray×Nat×Nat)) (u:Nat→Value) (s:ByteArray):Option Value:=(tab.find? (fun t=>t.1=s)).map (fun t=>u t.2.2)
section
variable {fpv:Value} {X:List Flt→Foot→World→Prop} {rb:Nat} {nm:ByteArray} {pg:Bool}
theorem M2.var {cs:List It} {F:List Flt} {O:Foot} {W:World} (h:M2 X rb nm pg cs F O W) {i:Nat} (hi:i<7):O rb∧∃l,VarL W rb l∧i<l.length:=⟨(SepV.var h).1,_,(SepV.var h).2,hi⟩
theorem M2.set (hX:CtxC fpv X) {cs:List It} {F:List Flt} {O:Foot} {W:World} (h:M2 X rb nm pg cs F O W) {x:It} {i:Nat} {v:Value} (hi:i<7) (e:ruleL nm pg (cs++ [x])=(ruleL nm pg cs).set i v):M2 X rb nm pg (cs++ [x]) F O (W.setCell ⟨rb,i,none⟩ v):=by
 unfold M2
 rw[e]
 exact SepV.set hX h i v hi
def RuleT (b1 rb:Nat) (u:Nat→Value) (w:World):Prop:=
 SpanV b1 101 102 1 34560000 rb 2 (u 11) w∧SpanV b1 101 102 1 34560000 rb 3 (u 14) w∧
 PlainV b1 124 1 1000000 (.func (.func 125) #[] #[.pointer (some ⟨rb,0,none⟩)]) (u 17) w∧
 SpanV b1 101 102 0 604800 rb 5 (u 20) w∧SpanV b1 101 102 0 604800 rb 6 (u 23) w
theorem rule_handles (hX:CtxC fpv X) {K S:Foot} {w:World} {b1:Nat} {u:Nat→Value} (h:RuleT b1 rb u w) (hKn: ∀b,b1≤b→b<w.heap.size→K b) (hKl: ∀b,K b→b<w.heap.size) (hSK: ∀b,S b→K b) (y:It) (hwo:WordsOk y.words):HandlesC 2 sub2 (M2 X rb nm pg) K w (byTab tabR u) S y:=by
 obtain⟨h1,h2,h3,h4,h5⟩:=h
 have hD:=M2.doing hX rb nm pg
 by_cases e1:y.name=nLong
 ·exact span_handles hD (p:=⟨nLong,[6],false,1,1,34560000⟩) (by rw[e1];rfl) (span_spec rfl rfl rfl (by decide) (by decide) (by decide) (by decide) (by decide)) rfl (sec_none (by rw[e1];decide)) h1 hKn hKl (fun _ _ _ _ hM=>M2.var hM (by decide)) (fun _ _ _ _ hM hc=>M2.set hX hM (by decide) (rule_long e1 hc nm pg)) hSK hwo (by rw[e1];rfl)
 by_cases e2:y.name=nShort
 ·exact span_handles hD (p:=⟨nShort,[6],false,1,1,34560000⟩) (by rw[e2];rfl) (span_spec rfl rfl rfl (by decide) (by decide) (by decide) (by decide) (by decide)) rfl (sec_none (by rw[e2];decide)) h2 hKn hKl (fun _ _ _ _ hM=>M2.var hM (by decide)) (fun _ _ _ _ hM hc=>M2.set hX hM (by decide) (rule_short e2 hc nm pg)) hSK hwo (by rw[e2];rfl)
 by_cases e3:y.name=nFactor
 ·exact plain_handles hD (p:=⟨nFactor,[4],false,1,1,1000000⟩) (by rw[e3];rfl) factor_spec rfl (sec_none (by rw[e3];decide)) factor_of h3 hKn hKl (factor_sets K w rb) (fun _ _ _ _ hM=>M2.var hM (by decide)) (fun _ _ _ _ hM hc=>M2.set hX hM (by decide) (rule_factor e3 hc nm pg)) hSK hwo (by rw[e3];rfl)
 by_cases e4:y.name=nFor
 ·exact span_handles hD (p:=⟨nFor,[6],false,1,0,604800⟩) (by rw[e4];rfl) (span_spec rfl rfl rfl (by decide) (by decide) (by decide) (by decide) (by decide)) rfl (sec_none (by rw[e4];decide)) h4 hKn hKl (fun _ _ _ _ hM=>M2.var hM (by decide)) (fun _ _ _ _ hM hc=>M2.set hX hM (by decide) (rule_for e4 hc nm pg)) hSK hwo (by rw[e4];rfl)
 by_cases e5:y.name=nKeep
 ·exact span_handles hD (p:=⟨nKeep,[6],false,1,0,604800⟩) (by rw[e5];rfl) (span_spec rfl rfl rfl (by decide) (by decide) (by decide) (by decide) (by decide)) rfl (sec_none (by rw[e5];decide)) h5 hKn hKl (fun _ _ _ _ hM=>M2.var hM (by decide)) (fun _ _ _ _ hM hc=>M2.set hX hM (by decide) (rule_keep e5 hc nm pg)) hSK hwo (by rw[e5];rfl)
 refine My ⟨?_,?_⟩
 ·unfold byTab
  rw[List.find?_eq_none.mpr (fun t ht=>by
   simp only[tabR,List.mem_cons,List.not_mem_nil,or_false]at ht
   rcases ht with rfl|rfl|rfl|rfl|rfl<;>simp only[decide_eq_true_eq]<;>exact fun e=>by first|exact e1 e.symm|exact e2 e.symm|exact e3 e.symm|exact e4 e.symm|exact e5 e.symm)]
  rfl
 ·unfold findS
  rw[List.find?_eq_none.mpr (fun t ht=>by
   simp only[specsL,List.mem_cons,List.not_mem_nil,or_false]at ht
   rcases ht with rfl|rfl|rfl|rfl|rfl<;>simp only[decide_eq_true_eq]<;>exact fun e=>by first|exact e1 e.symm|exact e2 e.symm|exact e3 e.symm|exact e4 e.symm|exact e5 e.symm)]
end
theorem has_get {n:ByteArray} (o:Int): ∀ {cs:List It},hasS cs n=true→∃c∈cs,c.name=n∧getS cs n o=numS c
 |c::cs,h=>by
  rw[hasS]at h
  rw[getS]
  by_cases hc:c.name=n
  ·rw[if_pos hc];exact⟨c,Jz ..,hc,rfl⟩
  ·rw[if_neg hc]at h ⊢
   obtain⟨d,hd,h1,h2⟩:=has_get o h
   exact⟨d,Jy _ hd,h1,h2⟩
theorem has_zero {wh:Nat} {sub:It→List Flt} {l:List It} {n:ByteArray} {p:Spc} (hp:findS wh n=some p) (h1:p.most=1) (h0:1≤p.lo):getS (lookS wh sub l).1 n 0=0↔hasS (lookS wh sub l).1 n=false:=by
 constructor
 ·intro h
  cases hh:hasS (lookS wh sub l).1 n with
  |false=>rfl
  |true=>
   obtain⟨c,hc,h2,h3⟩:=has_get 0 hh
   obtain⟨_,cs,h4⟩:=lookS_mem wh sub l c hc
   obtain⟨q,hq,_,_,_,hb⟩:=codeS_zero h4
   rw[h2,hp]at hq
   injection hq with hq
   subst hq
   have:=(hb h1).1
   rw[h3]at h
   omega
 ·intro h
  exact getS_none 0 (hasS_none.mp h)
theorem rule_miss (x:It):(hasS (ruleK x) nLong=false∨hasS (ruleK x) nShort=false∨hasS (ruleK x) nFactor=false)↔(getS (ruleK x) nLong 0=0∨getS (ruleK x) nShort 0=0∨getS (ruleK x) nFactor 0=0):=by
 unfold ruleK
 rw[has_zero (p:=⟨nLong,[6],false,1,1,34560000⟩) rfl rfl (by decide),has_zero (p:=⟨nShort,[6],false,1,1,34560000⟩) rfl rfl (by decide),has_zero (p:=⟨nFactor,[4],false,1,1,1000000⟩) rfl rfl (by decide)]
end
section
open Go.RowKit
theorem items_ps {d:Nat} {w:World} {S:Nat→Prop} {a:Option Addr} {n c:Nat} {L:List It} (h:ItemsIs (d+1) w S (.slice a n c) L): ∃ps:List ItV,ps.map ItV.x=L∧n=ps.length∧CellsAt 6 w a (ps.map ItV.cells)∧∀p∈ps,WordsIs w S p.wv p.x.words∧ItemsIs d w S p.kv p.x.kids:=by
 obtain⟨a',c',e,_,hc⟩:=h
 simp only[Value.slice.injEq]at e
 obtain⟨rfl,rfl,_⟩:=e
 have hx: ∀i,∃p:ItV,i<L.length→p.x=L.getD i default∧(∃b off,a=some ⟨b,off,none⟩∧∀j,j<6→w.cell? ⟨b,off+i*6+j,none⟩=some (p.cells.getD j undef))∧WordsIs w S p.wv p.x.words∧ItemsIs d w S p.kv p.x.kids:=fun i=>by
  by_cases hi:i<L.length
  ·obtain⟨b,off,wv,kv,h0,_,h1,h2,h3,h4,h5,h6,h7,h8⟩:=hc i hi
   refine⟨⟨L.getD i default,wv,kv⟩,fun _=>⟨rfl,⟨b,off,h0,fun j hj=>?_⟩,h7,h8⟩⟩
   have:j=0∨j=1∨j=2∨j=3∨j=4∨j=5:=by omega
   rcases this with rfl|rfl|rfl|rfl|rfl|rfl
   ·exact h1
   ·exact h2
   ·exact h3
   ·exact h4
   ·exact h5
   ·exact h6
  ·exact⟨⟨default,undef,undef⟩,fun h=>absurd h hi⟩
 have hf: ∀i,i<L.length→_:=fun i=>Classical.choose_spec (hx i)
 refine⟨(List.range L.length).map (fun i=>Classical.choose (hx i)),?_,by simp,⟨fun u hu=>?_,fun i hi=>?_⟩,fun p hp=>?_⟩
 ·apply List.ext_getElem
  ·simp
  ·intro i h1 h2
   simp only[List.getElem_map,List.getElem_range]
   rw[(hf i h2).1,Mk,Kh h2];rfl
 ·obtain⟨p,_,rfl⟩:=List.mem_map.mp hu
  rfl
 ·simp only[Ky,List.length_range]at hi
  obtain⟨b,off,h0,h1⟩:=(hf i hi).2.1
  refine⟨b,off,h0,fun j hj=>?_⟩
  rw[h1 j hj]
  simp[Mk,List.getElem?_map,List.getElem?_range hi]
 ·obtain⟨i,hi,rfl⟩:=List.mem_map.mp hp
  exact(hf i (List.mem_range.mp hi)).2.2
theorem RowK.putRow {t:TypeId} {sz base g n cap:Nat} {i:Nat} : ∀(ys pre zs:List Value) (w:World) (vs:List (List Value)),RowK t sz w base (.slice (some ⟨g,0,none⟩) n cap) vs→i<vs.length→vs.getD i []=pre++zs→zs.length=ys.length→(∀y∈ys,y.oneCell'=true)→RowK t sz (putL g (i*sz+pre.length) ys w) base (.slice (some ⟨g,0,none⟩) n cap) (vs.set i (pre++ys))
 | [],pre,zs,w,vs,h,hi,hg,hl,_=>by
  obtain rfl:zs= []:=List.eq_nil_of_length_eq_zero (by simpa using hl)
  have e:vs.set i (pre++ [])=vs:=by
   rw[←hg,Mk,Kh hi]
   exact List.set_getElem_self hi
  rw[e];exact h
 |y::ys,pre,z::zs,w,vs,h,hi,hg,hl,ho=>by
  have hsz:(vs.getD i []).length=sz:=h.wid _ (by rw[Mk,Kh hi];exact List.getElem_mem _)
  have hpl:pre.length<sz:=by rw[←hsz,hg];simp
  have h1:=h.set i pre.length y hi hpl (ho y (Jz ..))
  rw[hg,List.set_append_right _ _ (Nat.le_refl _),Nat.sub_self]at h1
  have e2:(vs.set i (pre++(z::zs).set 0 y)).getD i []=(pre++ [y])++zs:=by
   rw[Mk,List.getElem?_set_self hi];simp
  have:=RowK.putRow ys (pre++ [y]) zs _ _ h1 (by rw[List.length_set];exact hi) e2 (by simpa using hl) (fun y hy=>ho y (Jy _ hy))
  rw[List.set_set,List.length_append,List.length_singleton,List.append_assoc]at this
  rw[putL]
  exact this
 |_::_,_,[],_,_,_,_,_,hl,_=>by cases hl
theorem RowK.putAll' {t:TypeId} {sz base g n cap:Nat} {w:World} {vs:List (List Value)} (h:RowK t sz w base (.slice (some ⟨g,0,none⟩) n cap) vs) (i:Nat) (hi:i<vs.length) (y:List Value) (hy:y.length=sz) (ho: ∀u∈y,u.oneCell'=true):RowK t sz (putL g (i*sz) y w) base (.slice (some ⟨g,0,none⟩) n cap) (vs.set i y):=
 RowK.putRow y [] (vs.getD i []) w vs h hi rfl (by rw[hy];exact h.wid _ (by rw[Mk,Kh hi];exact List.getElem_mem _)) ho
theorem swap_set {A:Type} (L:List A) (k:Nat) (x y:A) (hx:L[k]?=some x) (hy:L[k+1]?=some y):(L.set k y).set (k+1) x=L.take k++y::x::L.drop (k+2):=by
 obtain⟨hk,_⟩:=List.getElem?_eq_some_iff.mp hy
 apply List.ext_getElem?
 intro i
 rcases Nat.lt_trichotomy i k with h|h|h
 ·rw[List.getElem?_set_ne (by omega),List.getElem?_set_ne (by omega),List.getElem?_append_left (by rw[List.length_take];omega),List.getElem?_take_of_lt h]
 ·subst h
  rw[List.getElem?_set_ne (by omega),List.getElem?_set_self (by omega),List.getElem?_append_right (by rw[List.length_take];omega),List.length_take,Nat.min_eq_left (by omega),Nat.sub_self];rfl
 ·rw[List.getElem?_append_right (by rw[List.length_take];omega),List.length_take,Nat.min_eq_left (by omega)]
  by_cases h2:i=k+1
  ·subst h2
   rw[List.getElem?_set_self (by rw[List.length_set];omega),show k+1-k=1 by omega];rfl
  ·rw[List.getElem?_set_ne (by omega),List.getElem?_set_ne (by omega)]
   obtain⟨j,rfl⟩: ∃j,i=k+2+j:=⟨i-(k+2),by omega⟩
   rw[show k+2+j-k=j+2 by omega]
   show _=(L.drop (k+2))[j]?
   rw[List.getElem?_drop]
def GivesSw (d:Nat) (S:Nat→Prop) (K:List It) (w:World) (e:Ending) (w':World):Prop:= ∃v ps,e= .returned v∧ListIs d w' S w.heap.size v ps∧ps.map ItV.x=K∧Below w.heap.size w w'
theorem swapped_any (d:Nat) (S:Nat→Prop) (L:List It) (v:Value) (i:Int) (w:World) (h:ItemsIs (d+1) w S v L) (hS: ∀b,S b→b<w.heap.size) (hl:L.length≤100000) (hi0: -9223372036854775808≤i) (hi1:i≤9223372036854775807):Calls Tryz.prog 16 #[v, .int .i64 i] w (GivesSw d S (swL L i) w):=by
 obtain⟨a,c,rfl⟩:=h.size
 obtain⟨n,hn⟩: ∃y,L.length=y:=⟨_,rfl⟩
 rw[hn]at h hl ⊢
 obtain⟨ps,hp1,hp2,hp3,hp4⟩:=items_ps h
 subst hp2
 obtain⟨B,W0,hB,hW0,V0,b0,z0⟩:=boxL w [] 47
 have r0:RowK 47 6 W0 B (.slice (some ⟨B,0,none⟩) 0 0) []:=by rw[←hW0];exact RowK.fresh _ 6 w _ _ hB.symm (Nat.le_refl _)
 have hSB: ∀b,S b→b<B:=fun b hb=>by rw[←hB];exact hS b hb
 have hcw: ∀W,Below w.heap.size w W→CellsAt 6 W a (ps.map ItV.cells):=fun W hW=>⟨hp3.1,fun i hi=>by
  obtain⟨b,off,e,hc⟩:=hp3.2 i hi
  exact⟨b,off,e,fun j hj=>CK.of hW _ _ (hc j hj)⟩⟩
 have HR0:=Lh r0
 have HCE:=Lh (hcw W0 b0)
 have HCW:=Lh hcw
 have HPO:Hid (∀u∈ps.map ItV.cells,∀x∈u,x.oneCell'=true):=Lh (fun u hu x hx=>by
  obtain⟨p,hp,rfl⟩:=List.mem_map.mp hu
  exact itv_one (hp4 p hp).1.one (hp4 p hp).2.one x hx)
 have HLN:Hid (([]:List (List Value)).length+(ps.map ItV.cells).length≤1000000):=Lh (by rw[Ky];simp;omega)
 have HSZ:Hid (B≤W0.heap.size):=Lh (by omega)
 have HNP:Hid (ps.length=(ps.map ItV.cells).length):=Lh (by rw[Ky])
 have HB0:=Lh b0
 have HBB:=Lh hB
 have HSB:=Lh hSB
 have HPS:=Lh hp4
 have HPX:=Lh hp1
 have HPL:Hid (ps.length≤100000):=Lh hl
 obtain⟨m,hm⟩: ∃y,ps.length=y:=⟨_,rfl⟩
 have HM:=Lh hm
 rw[hm]at HNP ⊢
 have HI0:=Lh hi0
 have HI1:=Lh hi1
 clear h hS hl hp1 hp3 hp4 V0 b0 z0 r0 hSB hcw hm hi0 hi1 hn
 go_enter Tryz.func16,Tryz.ntmps16
 go_wp2_with (at_builtin;(refine wp_rowKs (T:=34) (t:=47) (sz:=6) rfl _ _ rfl Tryz.underlying34 info_item rfl (by decide) (by decide) B _ _ rfl HR0.out a m c (ps.map ItV.cells) rfl HNP.out HCE.out HPO.out HLN.out HSZ.out ?_))
 intro v1 w1 hr1 ho1 hob1
 have HB1:Hid (Below B w w1):=Lh (Below.trans (by rw[←HBB.out];exact HB0.out) ho1.bel)
 have HL1:Hid (ListIs d w1 S B v1 ps):=Lh ⟨hr1,fun p hp=>((HPS.out p hp).1).keep (fun _ h=>h) (fun b hb=>HB1.out.block b (HSB.out b hb)),fun p hp=>((HPS.out p hp).2).keep (fun _ h=>h) (fun b hb=>HB1.out.block b (HSB.out b hb)),fun b hb hs=>by have h1:=(hr1.lt hb).1;have h2:=HSB.out b hs;omega⟩
 obtain⟨va,vc,hv1⟩:=hr1.size
 rw[Ky,HM.out]at hv1
 subst hv1
 have HZ1:Hid (B≤w1.heap.size):=Lh (by have h1:=HB1.out.size;have h2:=HBB.out;omega)
 have HM1:Hid (m≤100000):=Lh (by have:=HPL.out;rw[HM.out]at this;exact this)
 clear hr1 ho1 hob1 hB hW0
 by_cases h0:0≤i
 ·obtain⟨k,rfl⟩: ∃k:Nat,i=(k:Int):=⟨i.toNat,by omega⟩
  have hw1:IntKind.i64.wrap ((m:Int)-1)=(m:Int)-1:=by rw[IntKind.wrap_i64];have:=HM1.out;omega
  by_cases hk:k+1<m
  ·have hk1:(k:Int)<(m:Int)-1:=by omega
   have hw2:IntKind.i64.wrap ((k:Int)+1)=((k+1:Nat):Int):=by rw[IntKind.wrap_i64];have:=HM1.out;omega
   have hka:k<ps.length:=by rw[HM.out];omega
   have hkb:k+1<ps.length:=by rw[HM.out];omega
   obtain⟨p,hp⟩: ∃p,ps[k]?=some p:=⟨_,Kh hka⟩
   obtain⟨q,hq⟩: ∃q,ps[k+1]?=some q:=⟨_,Kh hkb⟩
   have hLk:L.getD k default=p.x:=by rw[←HPX.out,Mk,List.getElem?_map,hp];rfl
   have hLq:L.getD (k+1) default=q.x:=by rw[←HPX.out,Mk,List.getElem?_map,hq];rfl
   have hbw:Below w.heap.size w w1:=by rw[HBB.out];exact HB1.out
   obtain⟨b,off,hab,c1⟩:=(HCW.out w1 hbw).2 k (by rw[Ky];exact hka)
   obtain⟨b',off',hab',c2⟩:=(HCW.out w1 hbw).2 (k+1) (by rw[Ky];exact hkb)
   rw[hab]at hab'
   simp only[Option.some.injEq,Addr.mk.injEq,and_true]at hab'
   obtain⟨rfl,rfl⟩:=hab'
   subst hab
   have ep:(ps.map ItV.cells).getD k []=p.cells:=by rw[Mk,List.getElem?_map,hp];rfl
   have eq:(ps.map ItV.cells).getD (k+1) []=q.cells:=by rw[Mk,List.getElem?_map,hq];rfl
   rw[ep]at c1
   rw[eq]at c2
   have hpm:=List.mem_of_getElem? hp
   have hqm:=List.mem_of_getElem? hq
   obtain⟨⟨pn,pw,pk,pkids,pa,pb⟩,pwv,pkv⟩:=p
   obtain⟨⟨qn,qw,qk,qkids,qa,qb⟩,qwv,qkv⟩:=q
   obtain⟨a1,n1,hpw⟩:=(HPS.out _ hpm).1.size
   obtain⟨a2,n2,hpk⟩:=(HPS.out _ hpm).2.size
   obtain⟨a3,n3,hqw⟩:=(HPS.out _ hqm).1.size
   obtain⟨a4,n4,hqk⟩:=(HPS.out _ hqm).2.size
   obtain⟨m1,hm1⟩: ∃y,pw.length=y:=⟨_,rfl⟩
   obtain⟨m2,hm2⟩: ∃y,pkids.length=y:=⟨_,rfl⟩
   obtain⟨m3,hm3⟩: ∃y,qw.length=y:=⟨_,rfl⟩
   obtain⟨m4,hm4⟩: ∃y,qkids.length=y:=⟨_,rfl⟩
   simp only[It.words,It.kids]at hpw hpk hqw hqk
   rw[hm1]at hpw
   rw[hm2]at hpk
   rw[hm3]at hqw
   rw[hm4]at hqk
   subst hpw hpk hqw hqk
   have x0:=c1 0 (by decide)
   have x1:=c1 1 (by decide)
   have x2:=c1 2 (by decide)
   have x3:=c1 3 (by decide)
   have x4:=c1 4 (by decide)
   have x5:=c1 5 (by decide)
   have y0:=c2 0 (by decide)
   have y1:=c2 1 (by decide)
   have y2:=c2 2 (by decide)
   have y3:=c2 3 (by decide)
   have y4:=c2 4 (by decide)
   have y5:=c2 5 (by decide)
   simp only[ItV.cells,It.name,It.block,It.a,It.b,List.getD_cons_zero,List.getD_cons_succ,Nat.add_zero]at x0 x1 x2 x3 x4 x5 y0 y1 y2 y3 y4 y5
   have HP:=Lh (And.intro hp hq)
   have HLL:=Lh (And.intro hLk hLq)
   clear c1 c2 ep eq hpm hqm hm1 hm2 hm3 hm4 hka hkb hLk hLq hp hq hbw
   by_cases hnm:pn=qn
   ·subst hnm
    have HSW:Hid (swL L (k:Int)=L):=Lh (by unfold swL;rw[if_neg];rintro⟨_,_,h⟩;simp only[Int.toNat_natCast]at h;rw[HLL.out.1,HLL.out.2]at h;exact h rfl)
    go_wp2
    go_quiet (fail)
    have hbn:=Go.below_drewN (Mj w1.heap.size w1) nq
    have HB2:=Lh (HB1.out.trans (hbn.mono HZ1.out))
    have HL2:=Lh (HL1.out.keep (w':=w1.drewN nq) (fun _ h=>h) (fun b hb=>hbn.block b (Kx (HSB.out b hb) HZ1.out)) (fun b hb=>hbn.block b (HL1.out.row.lt hb).2) HL1.out.out)
    generalize w1.drewN nq=w2 at HB2 HL2 hbn ⊢
    go_wp2
    go_ret
    exact⟨_,ps,rfl,by rw[HBB.out];exact HL2.out,by rw[HSW.out];exact HPX.out,by rw[HBB.out];exact HB2.out⟩
   ·have hz:(pn.toList==qn.toList)=false:=by rw[←beq_toListBytes,ba_beq];exact decide_eq_false hnm
    have HSW:Hid (swL L (k:Int)=L.take k++L.getD (k+1) default::L.getD k default::L.drop (k+2)):=Lh (by
     unfold swL
     have hlen:L.length=m:=by rw[←HPX.out,Ky];exact HM.out
     rw[if_pos ⟨by omega,by rw[hlen];omega,by simp only[Int.toNat_natCast];rw[HLL.out.1,HLL.out.2];exact hnm⟩]
     simp only[Int.toNat_natCast])
    clear hnm
    go_wp2
    go_quiet (fail)
    have hbn:=Go.below_drewN (Mj w1.heap.size w1) nq
    have HB2:=Lh (HB1.out.trans (hbn.mono HZ1.out))
    have HL2:=Lh (HL1.out.keep (w':=w1.drewN nq) (fun _ h=>h) (fun b hb=>hbn.block b (Kx (HSB.out b hb) HZ1.out)) (fun b hb=>hbn.block b (HL1.out.row.lt hb).2) HL1.out.out)
    generalize w1.drewN nq=w2 at HB2 HL2 hbn ⊢
    obtain⟨g,cg,hgv,hg1,hg2,_⟩:=HL2.out.row.form (by rw[Ky,HM.out];omega)
    rw[Ky,HM.out]at hgv
    simp only[Value.slice.injEq]at hgv
    obtain⟨rfl,_,rfl⟩:=hgv
    have HRW:=Lh HL2.out.row
    have hx0:=CK.of hbn _ _ x0
    have hx1:=CK.of hbn _ _ x1
    have hx2:=CK.of hbn _ _ x2
    have hx3:=CK.of hbn _ _ x3
    have hx4:=CK.of hbn _ _ x4
    have hx5:=CK.of hbn _ _ x5
    have hy0:=CK.of hbn _ _ y0
    have hy1:=CK.of hbn _ _ y1
    have hy2:=CK.of hbn _ _ y2
    have hy3:=CK.of hbn _ _ y3
    have hy4:=CK.of hbn _ _ y4
    have hy5:=CK.of hbn _ _ y5
    have hkr:k<(ps.map ItV.cells).length:=by rw[Ky,HM.out];omega
    have hkr2:k+1<(ps.map ItV.cells).length:=by rw[Ky,HM.out];omega
    have u0:=HRW.out.at k 0 hkr (by decide)
    have v0:=HRW.out.free (k*6+0)
    have u1:=HRW.out.at k 1 hkr (by decide)
    have v1:=HRW.out.free (k*6+1)
    have u2:=HRW.out.at k 2 hkr (by decide)
    have v2:=HRW.out.free (k*6+2)
    have u3:=HRW.out.at k 3 hkr (by decide)
    have v3:=HRW.out.free (k*6+3)
    have u4:=HRW.out.at k 4 hkr (by decide)
    have v4:=HRW.out.free (k*6+4)
    have u5:=HRW.out.at k 5 hkr (by decide)
    have v5:=HRW.out.free (k*6+5)
    obtain⟨W8,hW8⟩: ∃W8,putL g (k*6) [.string qn, .slice a3 m3 n3, .bool qk, .slice a4 m4 n4, .int .i64 qa, .int .i64 qb] w2=W8:=⟨_,rfl⟩
    have r8:=HRW.out.putAll' k hkr [.string qn, .slice a3 m3 n3, .bool qk, .slice a4 m4 n4, .int .i64 qa, .int .i64 qb] rfl (by intro u hu;simp only[List.mem_cons,List.not_mem_nil,or_false]at hu;rcases hu with rfl|rfl|rfl|rfl|rfl|rfl<;>rfl)
    rw[hW8]at r8
    have hkr3:k+1<((ps.map ItV.cells).set k [.string qn, .slice a3 m3 n3, .bool qk, .slice a4 m4 n4, .int .i64 qa, .int .i64 qb]).length:=by rw[List.length_set];exact hkr2
    have t0:=r8.at (k+1) 0 hkr3 (by decide)
    have s0:=r8.free ((k+1)*6+0)
    have t1:=r8.at (k+1) 1 hkr3 (by decide)
    have s1:=r8.free ((k+1)*6+1)
    have t2:=r8.at (k+1) 2 hkr3 (by decide)
    have s2:=r8.free ((k+1)*6+2)
    have t3:=r8.at (k+1) 3 hkr3 (by decide)
    have s3:=r8.free ((k+1)*6+3)
    have t4:=r8.at (k+1) 4 hkr3 (by decide)
    have s4:=r8.free ((k+1)*6+4)
    have t5:=r8.at (k+1) 5 hkr3 (by decide)
    have s5:=r8.free ((k+1)*6+5)
    obtain⟨W9,hW9⟩: ∃W9,putL g ((k+1)*6) [.string pn, .slice a1 m1 n1, .bool pk, .slice a2 m2 n2, .int .i64 pa, .int .i64 pb] W8=W9:=⟨_,rfl⟩
    have r9:=r8.putAll' (k+1) hkr3 [.string pn, .slice a1 m1 n1, .bool pk, .slice a2 m2 n2, .int .i64 pa, .int .i64 pb] rfl (by intro u hu;simp only[List.mem_cons,List.not_mem_nil,or_false]at hu;rcases hu with rfl|rfl|rfl|rfl|rfl|rfl<;>rfl)
    rw[hW9]at r9
    have HKP:Hid (∀j,j≠g→W9.heap[j]?=w2.heap[j]?):=Lh (fun j hj=>by rw[←hW9,putL_else g _ _ _ _ hj,←hW8,putL_else g _ _ _ _ hj])
    have HB9:Hid (Below w.heap.size w W9):=Lh (by rw[HBB.out,←hW9];exact putL_below g hg1 _ _ (by rw[←hW8];exact putL_below g hg1 _ _ HB2.out))
    have hb8: ∀j,j≠g→W8.heap[j]?=w2.heap[j]?:=fun j hj=>by rw[←hW8,putL_else g _ _ _ _ hj]
    have hgb:b≠g:=fun e=>by
     have h1:=cell_lt x0
     have h2:b<w.heap.size:=by
      obtain⟨b9,off9,h9,c9⟩:=(HCW.out w (Mj _ _)).2 k hkr
      simp only[Option.some.injEq,Addr.mk.injEq,and_true]at h9
      rw[h9.1]
      exact cell_lt (c9 0 (by decide))
     have h3:=HBB.out
     omega
    have X0:=(Kk (a:=⟨b,off+k*6,none⟩) (hb8 b hgb)).trans hx0
    have X1:=(Kk (a:=⟨b,off+k*6+1,none⟩) (hb8 b hgb)).trans hx1
    have X2:=(Kk (a:=⟨b,off+k*6+2,none⟩) (hb8 b hgb)).trans hx2
    have X3:=(Kk (a:=⟨b,off+k*6+3,none⟩) (hb8 b hgb)).trans hx3
    have X4:=(Kk (a:=⟨b,off+k*6+4,none⟩) (hb8 b hgb)).trans hx4
    have X5:=(Kk (a:=⟨b,off+k*6+5,none⟩) (hb8 b hgb)).trans hx5
    have HR9:=Lh r9
    have HGS:Hid (∀j,S j→j≠g):=Lh (fun j hj e=>by have h1:=HSB.out j hj;omega)
    have HS2:Hid (B≤w2.heap.size):=Lh (Kz hg1 (Nat.le_of_lt hg2))
    simp only[putL,Nat.add_assoc,Nat.reduceAdd]at hW8 hW9
    simp only[Nat.add_zero]at u0 v0 t0 s0
    clear r8 r9 hb8 hgb hkr hkr2 hkr3 x0 x1 x2 x3 x4 x5 y0 y1 y2 y3 y4 y5 hbn
    go_wp2
    go_ret
    refine⟨_,(ps.set k ⟨.mk qn qw qk qkids qa qb, .slice a3 m3 n3, .slice a4 m4 n4⟩).set (k+1) ⟨.mk pn pw pk pkids pa pb, .slice a1 m1 n1, .slice a2 m2 n2⟩,rfl,⟨?_,fun p hp=>?_,fun p hp=>?_,fun b' e hs=>?_⟩,?_,HB9.out⟩
    ·rw[List.map_set,List.map_set,HBB.out]
     exact HR9.out
    ·have hm:p∈ps:=by
      rcases List.mem_or_eq_of_mem_set hp with h|rfl
      ·rcases List.mem_or_eq_of_mem_set h with h|rfl
       ·exact h
       ·exact List.mem_of_getElem? HP.out.2
      ·exact List.mem_of_getElem? HP.out.1
     exact(HL2.out.ws p hm).keep (fun _ h=>h) (fun j hj=>HKP.out j (HGS.out j hj))
    ·have hm:p∈ps:=by
      rcases List.mem_or_eq_of_mem_set hp with h|rfl
      ·rcases List.mem_or_eq_of_mem_set h with h|rfl
       ·exact h
       ·exact List.mem_of_getElem? HP.out.2
      ·exact List.mem_of_getElem? HP.out.1
     exact(HL2.out.ks p hm).keep (fun _ h=>h) (fun j hj=>HKP.out j (HGS.out j hj))
    ·exact HL2.out.out b' e hs
    ·rw[HSW.out,HLL.out.1,HLL.out.2,List.map_set,List.map_set,HPX.out]
     refine swap_set L k _ _ ?_ ?_
     ·rw[←HPX.out,List.getElem?_map,HP.out.1];rfl
     ·rw[←HPX.out,List.getElem?_map,HP.out.2];rfl
  ·have hk1: ¬(k:Int)<(m:Int)-1:=by omega
   have hk2:decide ((k:Int)<(m:Int)-1)=false:=by simpa using hk1
   have HSW:Hid (swL L (k:Int)=L):=Lh (by
    have hlen:L.length=m:=by rw[←HPX.out,Ky];exact HM.out
    unfold swL
    rw[if_neg (fun e=>by have h:=e.2.1;rw[hlen]at h;exact hk1 h)])
   go_wp2
   go_quiet (fail)
   have hbn:=Go.below_drewN (Mj w1.heap.size w1) nq
   have HB2:=Lh (HB1.out.trans (hbn.mono HZ1.out))
   have HL2:=Lh (HL1.out.keep (w':=w1.drewN nq) (fun _ h=>h) (fun b hb=>hbn.block b (Kx (HSB.out b hb) HZ1.out)) (fun b hb=>hbn.block b (HL1.out.row.lt hb).2) HL1.out.out)
   generalize w1.drewN nq=w2 at HB2 HL2 hbn ⊢
   go_wp2
   go_ret
   exact⟨_,ps,rfl,by rw[HBB.out];exact HL2.out,by rw[HSW.out];exact HPX.out,by rw[HBB.out];exact HB2.out⟩
 ·have hd0:decide (0≤i)=false:=by simpa using h0
  have hd1:decide (i≥0)=false:=by simpa using h0
  have HSW:Hid (swL L i=L):=Lh (by unfold swL;rw[if_neg (fun e=>h0 e.1)])
  go_wp2
  go_quiet (fail)
  have hbn:=Go.below_drewN (Mj w1.heap.size w1) nq
  have HB2:=Lh (HB1.out.trans (hbn.mono HZ1.out))
  have HL2:=Lh (HL1.out.keep (w':=w1.drewN nq) (fun _ h=>h) (fun b hb=>hbn.block b (Kx (HSB.out b hb) HZ1.out)) (fun b hb=>hbn.block b (HL1.out.row.lt hb).2) HL1.out.out)
  generalize w1.drewN nq=w2 at HB2 HL2 hbn ⊢
  go_wp2
  go_ret
  exact⟨_,ps,rfl,by rw[HBB.out];exact HL2.out,by rw[HSW.out];exact HPX.out,by rw[HBB.out];exact HB2.out⟩
end
end Go.Proofs.YtalcagmhdppdjaaGreatDoor
