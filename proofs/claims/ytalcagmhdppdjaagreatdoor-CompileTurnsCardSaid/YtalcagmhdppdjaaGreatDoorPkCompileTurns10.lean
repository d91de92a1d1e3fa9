/-
  Package tree's reader: next, word, fail, begin, walked.
-/
import Derived.Test.YtalcagmhdppdjaaGreatDoorPkCompileTurns09
set_option maxRecDepth 100000
set_option maxHeartbeats 8000000
namespace Go.Proofs.YtalcagmhdppdjaaGreatDoor
open Lib renaming hid→Lh
open Go.RowKit.Below renaming refl→Mj
open List renaming getD_eq_getElem?_getD→Mk,getElem?_eq_getElem→Kh,length_append→Kq,length_map→Ky,length_cons→Jq,mem_cons_of_mem→Jy,mem_cons_self→Jz
open Nat renaming le_refl→Mz
open World renaming cell?_of_block→Kk
section
def Each2 (R:It→It→Prop):List It→List It→Prop
 | [],[]=>True
 |x::l,y::m=>R x y∧Each2 R l m
 |_,_=>False
theorem Each2.refl {R:It→It→Prop} (h: ∀x,R x x): ∀l,Each2 R l l
 | []=>trivial
 |x::l=>⟨h x,Each2.refl h l⟩
theorem Each2.imp {R Q:It→It→Prop} (h: ∀x y,R x y→Q x y): ∀ {l m:List It},Each2 R l m→Each2 Q l m
 | [],[],_=>trivial
 |x::_,y::_,⟨h1,h2⟩=>⟨h x y h1,Each2.imp h h2⟩
 | [],_::_,e=>e.elim
 |_::_,[],e=>e.elim
theorem Each2.snoc {R:It→It→Prop} {x y:It} (hx:R x y): ∀ {l m:List It},Each2 R l m→Each2 R (l++ [x]) (m++ [y])
 | [],[],_=>⟨hx,trivial⟩
 |_::_,_::_,⟨h1,h2⟩=>⟨h1,Each2.snoc hx h2⟩
 | [],_::_,e=>e.elim
 |_::_,[],e=>e.elim
theorem Each2.len {R:It→It→Prop} : ∀ {l m:List It},Each2 R l m→l.length=m.length
 | [],[],_=>rfl
 |a::l,b::m,⟨_,h2⟩=>by rw[Jq,Jq,Each2.len h2]
 | [],_::_,e=>e.elim
 |_::_,[],e=>e.elim
def nmd (n:ByteArray) (l:List It):List It:=l.filter (fun c=>c.name=n)
theorem nmd_cons (n:ByteArray) (x:It) (l:List It):nmd n (x::l)=(if x.name=n then [x]else [])++nmd n l:=by
 unfold nmd
 by_cases h:x.name=n<;>simp[h]
theorem nmd_app (n:ByteArray) (l m:List It):nmd n (l++m)=nmd n l++nmd n m:=List.filter_append ..
theorem Each2.named {R:It→It→Prop} (hn: ∀x y,R x y→x.name=y.name) (n:ByteArray): ∀ {l m:List It},Each2 R l m→Each2 R (nmd n l) (nmd n m)
 | [],[],_=>trivial
 |a::l,b::m,⟨h1,h2⟩=>by
  rw[nmd_cons,nmd_cons,hn a b h1]
  by_cases h:b.name=n
  ·rw[if_pos h,if_pos h];exact⟨h1,Each2.named hn n h2⟩
  ·rw[if_neg h,if_neg h];exact Each2.named hn n h2
 | [],_::_,e=>e.elim
 |_::_,[],e=>e.elim
def ByName (R:It→It→Prop) (l m:List It):Prop:= ∀n,Each2 R (nmd n l) (nmd n m)
structure Hq (x y:It):Prop where
 name:x.name=y.name
 block:x.block=y.block
 words:x.words.map Tk3.bare=y.words.map Tk3.bare
theorem Hq.refl (x:It):Hq x x:=⟨rfl,rfl,rfl⟩
theorem bare_getD: ∀(l m:List Tk3) (i:Nat),l.map Tk3.bare=m.map Tk3.bare→((l.getD i {}).k=(m.getD i {}).k∧(l.getD i {}).s=(m.getD i {}).s)∧(l.getD i {}).n=(m.getD i {}).n
 | [],[],_,_=>⟨⟨rfl,rfl⟩,rfl⟩
 | [],_::_,_,h=>by cases h
 |_::_,[],_,h=>by cases h
 |x::l,y::m,i,h=>by
  rw[List.map_cons,List.map_cons]at h
  injection h with h1 h2
  cases i with
  |zero=>
   unfold Tk3.bare at h1
   injection h1 with e1 e2 e3
   exact⟨⟨e1,e2⟩,e3⟩
  |succ i=>exact bare_getD l m i h2
theorem Hq.len {x y:It} (h:Hq x y):x.words.length=y.words.length:=by
 have:=congrArg List.length h.words
 simpa using this
theorem Hq.w0 {x y:It} (h:Hq x y):x.w0.k=y.w0.k∧x.w0.s=y.w0.s∧x.w0.n=y.w0.n:=by
 have:=bare_getD _ _ 0 h.words
 exact⟨this.1.1,this.1.2,this.2⟩
theorem Hq.w1 {x y:It} (h:Hq x y):x.w1.s=y.w1.s:=(bare_getD _ _ 1 h.words).1.2
theorem Hq.num {x y:It} (h:Hq x y):numS x=numS y:=by
 unfold numS
 rw[h.len,h.name,h.w0.1,h.w0.2.2]
theorem kindsS_bare (n:ByteArray): ∀(ks:List Int) (l m:List Tk3),l.map Tk3.bare=m.map Tk3.bare→(kindsS n ks l↔kindsS n ks m)
 | [],[],[],_=>Iff.rfl
 |_::_,[],[],_=>Iff.rfl
 |_,[],_::_,h=>by cases h
 |_,_::_,[],h=>by cases h
 | [],_::_,_::_,_=>Iff.rfl
 |k::ks,x::l,y::m,h=>by
  rw[List.map_cons,List.map_cons]at h
  injection h with h1 h2
  unfold Tk3.bare at h1
  injection h1 with e1 e2 e3
  rw[kindsS,kindsS,kindsS_bare n ks l m h2,e1]
theorem Hq.form {x y:It} (h:Hq x y) (p:Spc):FormS p x↔FormS p y:=by
 unfold FormS
 rw[h.block,kindsS_bare _ _ _ _ h.words,h.w0.2.1,h.w1]
theorem Hq.known {x y:It} (h:Hq x y) (p:Spc): ∀ {cs ds:List It},Each2 Hq cs ds→(KnownS p cs x↔KnownS p ds y)
 | [],[],_=>⟨fun⟨_,hc,_⟩=>absurd hc (List.not_mem_nil),fun⟨_,hc,_⟩=>absurd hc (List.not_mem_nil)⟩
 |a::l,b::m,⟨h1,h2⟩=>by
  have ih:=h.known p h2
  unfold KnownS at ih ⊢
  simp only[List.mem_cons,exists_eq_or_imp]
  rw[ih,h1.name,h.name,h1.w0.2.1,h.w0.2.1]
 | [],_::_,e=>e.elim
 |_::_,[],e=>e.elim
theorem code_head {wh:Nat} {cs ds:List It} {x y:It} (hc:Each2 Hq cs ds) (h:Hq x y):codeS wh cs x=codeS wh ds y:=by
 have hm:manyS cs x.name=manyS ds y.name:=by
  rw[h.name]
  exact(Each2.named (R:=Hq) (fun _ _ h=>h.name) y.name hc).len
 cases hf:findS wh y.name with
 |none=>rw[codeS_none hf,codeS_none (by rw[h.name];exact hf)]
 |some p=>
  have hf2:findS wh x.name=some p:=by rw[h.name];exact hf
  rw[codeS_some hf,codeS_some hf2,hm,h.num]
  simp only[h.form p,h.known p hc]
theorem code_named (wh:Nat) (cs:List It) (x:It):codeS wh cs x=codeS wh (nmd x.name cs) x:=by
 have hm:manyS cs x.name=manyS (nmd x.name cs) x.name:=by unfold manyS nmd;rw[List.filter_filter];simp
 have hk: ∀p,KnownS p cs x↔KnownS p (nmd x.name cs) x:=fun p=>by
  unfold KnownS nmd
  constructor
  ·rintro⟨c,h1,h2,h3⟩;exact⟨c,List.mem_filter.mpr ⟨h1,by simpa using h2⟩,h2,h3⟩
  ·rintro⟨c,h1,h2⟩;exact⟨c,(List.mem_filter.mp h1).1,h2⟩
 cases hf:findS wh x.name with
 |none=>rw[codeS_none hf,codeS_none hf]
 |some p=>
  rw[codeS_some hf,codeS_some hf,hm]
  simp only[hk p]
def FineA (wh:Nat) (sub:It→List Flt):List It→List It→Prop
 |_,[]=>True
 |cs,x::l=>codeS wh cs x=0∧sub x= []∧FineA wh sub (cs++ [x]) l
theorem fineA_look {wh:Nat} {sub:It→List Flt} : ∀ {l cs:List It} {F:List Flt},FineA wh sub cs l→l.foldl (stepS wh sub) (cs,F)=(cs++l,F)
 | [],cs,F,_=>by simp
 |x::l,cs,F,h=>by
  obtain⟨h1,h2,h3⟩:=h
  rw[List.foldl_cons]
  have e:stepS wh sub (cs,F) x=(cs++ [x],F):=by unfold stepS;rw[if_pos h1,h2,List.append_nil]
  rw[e,fineA_look h3,List.append_assoc];rfl
theorem look_more (wh:Nat) (sub:It→List Flt): ∀(l cs:List It) (F:List Flt),∃G,(l.foldl (stepS wh sub) (cs,F)).2=F++G
 | [],cs,F=>⟨[],by simp⟩
 |x::l,cs,F=>by
  rw[List.foldl_cons]
  by_cases h:codeS wh cs x=0
  ·rw[show stepS wh sub (cs,F) x=(cs++ [x],F++sub x) from if_pos h]
   obtain⟨G,hG⟩:=look_more wh sub l (cs++ [x]) (F++sub x)
   exact⟨sub x++G,by rw[hG,List.append_assoc]⟩
  ·rw[show stepS wh sub (cs,F) x=(cs,F++ [(codeS wh cs x,x.a,x.b)]) from if_neg h]
   obtain⟨G,hG⟩:=look_more wh sub l cs (F++ [(codeS wh cs x,x.a,x.b)])
   exact⟨_::G,by rw[hG,List.append_assoc];rfl⟩
theorem look_fineA {wh:Nat} {sub:It→List Flt} : ∀ {l cs:List It} {F:List Flt},(l.foldl (stepS wh sub) (cs,F)).2=F→FineA wh sub cs l
 | [],cs,F,_=>trivial
 |x::l,cs,F,h=>by
  rw[List.foldl_cons]at h
  by_cases h0:codeS wh cs x=0
  ·rw[show stepS wh sub (cs,F) x=(cs++ [x],F++sub x) from if_pos h0]at h
   obtain⟨G,hG⟩:=look_more wh sub l (cs++ [x]) (F++sub x)
   rw[hG,List.append_assoc]at h
   have h1:sub x++G= []:=by simpa using h
   obtain⟨h2,h3⟩:=List.append_eq_nil_iff.mp h1
   refine⟨h0,h2,look_fineA (F:=F) ?_⟩
   rw[h2,List.append_nil]at hG
   rw[hG,h3,List.append_nil]
  ·rw[show stepS wh sub (cs,F) x=(cs,F++ [(codeS wh cs x,x.a,x.b)]) from if_neg h0]at h
   obtain⟨G,hG⟩:=look_more wh sub l cs (F++ [(codeS wh cs x,x.a,x.b)])
   rw[hG,List.append_assoc]at h
   simp at h
theorem look_fine {wh:Nat} {sub:It→List Flt} {l:List It} :(lookS wh sub l).2= []↔FineA wh sub [] l:=by
 constructor
 ·exact fun h=>look_fineA h
 ·intro h
  unfold lookS
  rw[fineA_look h]
theorem look_all {wh:Nat} {sub:It→List Flt} {l:List It} (h:FineA wh sub [] l):(lookS wh sub l).1=l:=by
 unfold lookS
 rw[fineA_look h];rfl
theorem fine_named (wh:Nat) (sub:It→List Flt): ∀(l cs:List It),FineA wh sub cs l↔∀n,FineA wh sub (nmd n cs) (nmd n l)
 | [],cs=>⟨fun _ _=>trivial,fun _=>trivial⟩
 |x::l,cs=>by
  rw[FineA,fine_named wh sub l (cs++ [x]),code_named]
  constructor
  ·rintro⟨h1,h2,h3⟩ n
   have:=h3 n
   rw[nmd_app]at this
   rw[nmd_cons]
   by_cases h:x.name=n
   ·subst h
    rw[if_pos rfl]
    rw[nmd_cons,if_pos rfl,show nmd x.name []= [] from rfl,List.append_nil]at this
    exact⟨h1,h2,this⟩
   ·rw[if_neg h]
    rw[nmd_cons,if_neg h,show nmd n []= [] from rfl,List.append_nil,List.append_nil]at this
    exact this
  ·intro hall
   have hx:=hall x.name
   rw[nmd_cons,if_pos rfl]at hx
   obtain⟨h1,h2,_⟩:=hx
   refine⟨h1,h2,fun n=>?_⟩
   have:=hall n
   rw[nmd_cons]at this
   rw[nmd_app,nmd_cons]
   by_cases h:x.name=n
   ·rw[if_pos h]at this ⊢
    exact this.2.2
   ·rw[if_neg h]at this ⊢
    rw[show nmd n []= [] from rfl,List.append_nil,List.append_nil]
    exact this
theorem fine_each {wh:Nat} {sub:It→List Flt} {R:It→It→Prop} (hR: ∀x y,R x y→Hq x y) (hs: ∀x y,R x y→sub x= []→sub y= []): ∀ {l m cs ds:List It},Each2 R l m→Each2 Hq cs ds→FineA wh sub cs l→FineA wh sub ds m
 | [],[],_,_,_,_,_=>trivial
 |x::l,y::m,cs,ds,⟨h1,h2⟩,hc,⟨f1,f2,f3⟩=>⟨by rw[←code_head hc (hR x y h1)];exact f1,hs x y h1 f2,fine_each hR hs h2 (hc.snoc (hR x y h1)) f3⟩
 | [],_::_,_,_,e,_,_=>e.elim
 |_::_,[],_,_,e,_,_=>e.elim
theorem fine_byname {wh:Nat} {sub:It→List Flt} {R:It→It→Prop} (hR: ∀x y,R x y→Hq x y) (hs: ∀x y,R x y→sub x= []→sub y= []) {l m:List It} (h:ByName R l m) (hf:FineA wh sub [] l):FineA wh sub [] m:=
 (fine_named wh sub m []).mpr fun n=>fine_each (cs:= []) (ds:= []) hR hs (h n) trivial ((fine_named wh sub l []).mp hf n)
theorem getS_named (n:ByteArray) (o:Int): ∀l:List It,getS l n o=getS (nmd n l) n o
 | []=>rfl
 |x::l=>by
  rw[nmd_cons,getS,getS_named n o l]
  by_cases h:x.name=n
  ·rw[if_pos h,if_pos h,List.singleton_append,getS,if_pos h]
  ·rw[if_neg h,if_neg h,List.nil_append]
theorem hasS_named (n:ByteArray): ∀l:List It,hasS l n=hasS (nmd n l) n
 | []=>rfl
 |x::l=>by
  rw[nmd_cons,hasS,hasS_named n l]
  by_cases h:x.name=n
  ·rw[if_pos h,if_pos h,List.singleton_append,hasS,if_pos h]
  ·rw[if_neg h,if_neg h,List.nil_append]
theorem getS_each (n:ByteArray) (o:Int): ∀ {l m:List It},Each2 Hq l m→getS l n o=getS m n o
 | [],[],_=>rfl
 |x::l,y::m,⟨h1,h2⟩=>by rw[getS,getS,getS_each n o h2,h1.name,h1.num]
 | [],_::_,e=>e.elim
 |_::_,[],e=>e.elim
theorem hasS_each (n:ByteArray): ∀ {l m:List It},Each2 Hq l m→hasS l n=hasS m n
 | [],[],_=>rfl
 |x::l,y::m,⟨h1,h2⟩=>by rw[hasS,hasS,hasS_each n h2,h1.name]
 | [],_::_,e=>e.elim
 |_::_,[],e=>e.elim
theorem getS_byname {l m:List It} (h:ByName Hq l m) (n:ByteArray) (o:Int):getS l n o=getS m n o:=by
 rw[getS_named,getS_each n o (h n),←getS_named]
theorem hasS_byname {l m:List It} (h:ByName Hq l m) (n:ByteArray):hasS l n=hasS m n:=by
 rw[hasS_named,hasS_each n (h n),←hasS_named]
structure EqR (x y:It):Prop where
 head:Hq x y
 kids:ByName Hq x.kids y.kids
theorem EqR.refl (x:It):EqR x x:=⟨Hq.refl x,fun _=>Each2.refl Hq.refl _⟩
theorem flat_fine {wh:Nat} {l m:List It} (h:ByName Hq l m) (hf:FineA wh sub2 [] l):FineA wh sub2 [] m:=fine_byname (fun _ _ h=>h) (fun _ _ _ _=>rfl) h hf
theorem ruleK_fine {x:It} (h:FineA 2 sub2 [] x.kids):ruleK x=x.kids:=look_all h
theorem EqR.all {x y:It} (h:EqR x y) (hf:FineA 2 sub2 [] x.kids):ruleC x=ruleC y∧(∀g,OffS g x↔OffS g y)∧(wholeR x (ruleK x)= []→wholeR y (ruleK y)= []):=by
 have hg:=flat_fine h.kids hf
 have e1:=getS_byname h.kids
 have e2:=hasS_byname h.kids
 refine⟨?_,fun g=>?_,?_⟩
 ·unfold ruleC ruleB
  rw[ruleK_fine hf,ruleK_fine hg,e1,e1,e1,e1,e1,h.head.w0.2.1,h.head.w1]
 ·unfold OffS
  rw[ruleK_fine hf,ruleK_fine hg,e1,e1]
 ·unfold wholeR
  rw[ruleK_fine hf,ruleK_fine hg,e1,e1,e2,e2,e2]
  intro hx
  split at hx
  ·cases hx
  split at hx
  ·cases hx
  rename_i h1 h2
  rw[if_neg h1,if_neg h2]
theorem subG_fine {x:It} (h:subG x= []) (hn:x.name=nRule):FineA 2 sub2 [] x.kids∧wholeR x (ruleK x)= []:=by
 unfold subG at h
 rw[if_pos hn]at h
 obtain⟨h1,h2⟩:=List.append_eq_nil_iff.mp h
 exact⟨look_fine.mp h1,h2⟩
theorem EqR.sub {x y:It} (h:EqR x y) (hx:subG x= []):subG y= []:=by
 unfold subG
 by_cases hn:y.name=nRule
 ·obtain⟨f1,f2⟩:=subG_fine hx (h.head.name.trans hn)
  rw[if_pos hn,look_fine.mpr (flat_fine h.kids f1),(h.all f1).2.2 f2];rfl
 ·rw[if_neg hn]
theorem labC_named: ∀l:List It,labC l=labC (nmd nLabel l)
 | []=>rfl
 |x::l=>by
  rw[nmd_cons,labC,labC_named l,labC_app]
  by_cases h:x.name=nLabel
  ·rw[if_pos h,if_pos h,labC,if_pos h];rfl
  ·rw[if_neg h,if_neg h];rfl
theorem rulC_named: ∀l:List It,rulC l=rulC (nmd nRule l)
 | []=>rfl
 |x::l=>by
  rw[nmd_cons,rulC,rulC_named l,rulC_app]
  by_cases h:x.name=nRule
  ·rw[if_pos h,if_pos h,rulC,if_pos h];rfl
  ·rw[if_neg h,if_neg h];rfl
theorem calC_named: ∀(l:List It) (c:Int),calC l c=calC (nmd nCalendar l) c
 | [],_=>rfl
 |x::l,c=>by
  rw[nmd_cons,calC,calC_named l,calC_app]
  by_cases h:x.name=nCalendar
  ·rw[if_pos h,if_pos h,calC,if_pos h];rfl
  ·rw[if_neg h,if_neg h];rfl
theorem offsS_named (g:Int): ∀l:List It,offsS g l=offsS g (nmd nRule l)
 | []=>rfl
 |x::l=>by
  rw[nmd_cons,offsS,offsS_named g l,offsS_app]
  by_cases h:x.name=nRule
  ·rw[if_pos h,offsS];simp[offsS]
  ·rw[if_neg h,if_neg (fun e=>h e.1)];rfl
theorem labC_each: ∀ {l m:List It},Each2 EqR l m→labC l=labC m
 | [],[],_=>rfl
 |x::l,y::m,⟨h1,h2⟩=>by rw[labC,labC,labC_each h2,h1.head.name,h1.head.w0.2.1,h1.head.w1]
 | [],_::_,e=>e.elim
 |_::_,[],e=>e.elim
theorem calC_each: ∀ {l m:List It} (c:Int),Each2 EqR l m→calC l c=calC m c
 | [],[],_,_=>rfl
 |x::l,y::m,c,⟨h1,h2⟩=>by rw[calC,calC,calC_each _ h2,h1.head.name,h1.head.w0.2.1]
 | [],_::_,_,e=>e.elim
 |_::_,[],_,e=>e.elim
theorem rulC_each: ∀ {l m:List It},Each2 EqR l m→(∀x∈l,subG x= [])→rulC l=rulC m
 | [],[],_,_=>rfl
 |x::l,y::m,⟨h1,h2⟩,hs=>by
  rw[rulC,rulC,rulC_each h2 (fun z hz=>hs z (Jy _ hz)),h1.head.name]
  by_cases hn:y.name=nRule
  ·rw[if_pos hn,if_pos hn,(h1.all (subG_fine (hs x (Jz ..)) (h1.head.name.trans hn)).1).1]
  ·rw[if_neg hn,if_neg hn]
 | [],_::_,e,_=>e.elim
 |_::_,[],e,_=>e.elim
theorem offsS_each (g:Int): ∀ {l m:List It},Each2 EqR l m→(∀x∈l,subG x= [])→offsS g l= []→offsS g m= []
 | [],[],_,_,_=>rfl
 |x::l,y::m,⟨h1,h2⟩,hs,h=>by
  rw[offsS]at h ⊢
  obtain⟨e1,e2⟩:=List.append_eq_nil_iff.mp h
  rw[offsS_each g h2 (fun z hz=>hs z (Jy _ hz)) e2,List.append_nil]
  by_cases hn:y.name=nRule
  ·have hx:=h1.head.name.trans hn
   have:=(h1.all (subG_fine (hs x (Jz ..)) hx).1).2.1 g
   split at e1
   ·cases e1
   ·rename_i h3
    rw[if_neg (fun e=>h3 ⟨hx,this.mpr e.2⟩)]
  ·rw[if_neg (fun e=>hn e.1)]
 | [],_::_,e,_,_=>e.elim
 |_::_,[],e,_,_=>e.elim
theorem fine_sub {wh:Nat} {sub:It→List Flt} : ∀ {l cs:List It},FineA wh sub cs l→∀x∈l,sub x= []
 | [],_,_,x,hx=>by cases hx
 |y::l,cs,⟨_,h2,h3⟩,x,hx=>by
  rcases List.mem_cons.mp hx with rfl|hx
  ·exact h2
  ·exact fine_sub h3 x hx
theorem nmd_sub {n:ByteArray} {l:List It} {x:It} (h:x∈nmd n l):x∈l:=(List.mem_filter.mp h).1
structure EqG (x y:It):Prop where
 head:Hq x y
 kids:ByName EqR x.kids y.kids
theorem EqG.refl (x:It):EqG x x:=⟨Hq.refl x,fun _=>Each2.refl EqR.refl _⟩
theorem EqG.flat {x y:It} (h:EqG x y):ByName Hq x.kids y.kids:=fun n=>(h.kids n).imp fun _ _ h=>h.head
theorem goalB_byname {k m:List It} (h:ByName EqR k m) (hf:FineA 1 subG [] k) (nm:ByteArray):goalB nm k=goalB nm m:=by
 have e1:=getS_byname (l:=k) (m:=m) (fun n=>(h n).imp fun _ _ h=>h.head)
 have hs:=fine_sub hf
 unfold goalB
 rw[e1,e1,e1,e1,calC_named,labC_named,rulC_named k,calC_each _ (h _),labC_each (h _),rulC_each (h _) (fun x hx=>hs x (nmd_sub hx)),←calC_named,←labC_named,←rulC_named]
theorem wholeG_byname {k m:List It} (h:ByName EqR k m) (hf:FineA 1 subG [] k) (x y:It) (hw:wholeG x k= []):wholeG y m= []:=by
 have hb:ByName Hq k m:=fun n=>(h n).imp fun _ _ h=>h.head
 have e1:=getS_byname hb
 have e2:=hasS_byname hb
 have hs:=fine_sub hf
 unfold wholeG at hw ⊢
 rw[e1,e1,e2,e2]at hw
 obtain⟨q1,q2⟩:=List.append_eq_nil_iff.mp hw
 obtain⟨q3,q4⟩:=List.append_eq_nil_iff.mp q2
 have p3:offsS (getS m nGrain 60) m= []:=by
  rw[offsS_named]at q3 ⊢
  exact offsS_each _ (h _) (fun x hx=>hs x (nmd_sub hx)) q3
 rw[p3]
 split at q1
 ·cases q1
 rename_i h1
 split at q4
 ·cases q4
 rename_i h2
 rw[if_neg h1,if_neg h2];rfl
theorem goal_fine {k m:List It} (h:ByName EqR k m) (hf:FineA 1 subG [] k):FineA 1 subG [] m:=fine_byname (fun _ _ h=>h.head) (fun _ _ h=>h.sub) h hf
theorem goalK_fine {x:It} (h:FineA 1 subG [] x.kids):goalK x=x.kids:=look_all h
theorem notK_fine {x:It} (h:FineA 3 sub2 [] x.kids):notK x=x.kids:=look_all h
theorem subT_goal {x:It} (h:subT x= []) (hn:x.name=nObjective):FineA 1 subG [] x.kids∧wholeG x (goalK x)= []:=by
 unfold subT at h
 rw[if_pos hn]at h
 obtain⟨h1,h2⟩:=List.append_eq_nil_iff.mp h
 exact⟨look_fine.mp h1,h2⟩
theorem subT_not {x:It} (h:subT x= []) (hn:x.name=nNotify):FineA 3 sub2 [] x.kids∧wholeN x (notK x)= []:=by
 unfold subT at h
 rw[if_neg (by rw[hn];decide),if_pos hn]at h
 obtain⟨h1,h2⟩:=List.append_eq_nil_iff.mp h
 exact⟨look_fine.mp h1,h2⟩
theorem EqG.sub {x y:It} (h:EqG x y) (hx:subT x= []):subT y= []:=by
 unfold subT
 by_cases hn:y.name=nObjective
 ·obtain⟨f1,f2⟩:=subT_goal hx (h.head.name.trans hn)
  have f3:=goal_fine h.kids f1
  rw[goalK_fine f1]at f2
  rw[if_pos hn,look_fine.mpr f3,goalK_fine f3,wholeG_byname h.kids f1 x y f2];rfl
 rw[if_neg hn]
 by_cases hn2:y.name=nNotify
 ·obtain⟨f1,f2⟩:=subT_not hx (h.head.name.trans hn2)
  have f3:=flat_fine h.flat f1
  rw[notK_fine f1]at f2
  rw[if_pos hn2,look_fine.mpr f3,notK_fine f3]
  have e1:=getS_byname h.flat
  unfold wholeN at f2 ⊢
  rw[e1,e1,e1,e1]at f2
  split at f2
  ·cases f2
  ·rename_i h1
   rw[if_neg h1];rfl
 ·rw[if_neg hn2]
theorem EqG.goal {x y:It} (h:EqG x y) (hx:subT x= []) (hn:x.name=nObjective):goalC x=goalC y:=by
 obtain⟨f1,f2⟩:=subT_goal hx hn
 unfold goalC
 rw[goalK_fine f1,goalK_fine (goal_fine h.kids f1),goalB_byname h.kids f1,h.head.w0.2.1]
theorem golC_named: ∀l:List It,golC l=golC (nmd nObjective l)
 | []=>rfl
 |x::l=>by
  rw[nmd_cons,golC,golC_named l,golC_app]
  by_cases h:x.name=nObjective
  ·rw[if_pos h,if_pos h,golC,if_pos h];rfl
  ·rw[if_neg h,if_neg h];rfl
theorem golC_each: ∀ {l m:List It},Each2 EqG l m→(∀x∈l,subT x= [])→golC l=golC m
 | [],[],_,_=>rfl
 |x::l,y::m,⟨h1,h2⟩,hs=>by
  rw[golC,golC,golC_each h2 (fun z hz=>hs z (Jy _ hz)),h1.head.name]
  by_cases hn:y.name=nObjective
  ·rw[if_pos hn,if_pos hn,h1.goal (hs x (Jz ..)) (h1.head.name.trans hn)]
  ·rw[if_neg hn,if_neg hn]
 | [],_::_,e,_=>e.elim
 |_::_,[],e,_=>e.elim
theorem notC_named: ∀(l n:List It),(∀x∈l,x.name=nObjective∨x.name=nNotify)→notC l n=notC (nmd nNotify l) n
 | [],_,_=>rfl
 |x::l,n,hx=>by
  rw[nmd_cons,notC,notC_named l _ (fun y hy=>hx y (Jy _ hy)),notC_app]
  rcases hx x (Jz ..)with h|h
  ·rw[if_pos h,if_neg (by rw[h];decide)];rfl
  ·rw[if_pos h,if_neg (by rw[h];decide),notC,if_neg (by rw[h];decide)];rfl
theorem notC_each: ∀ {l m:List It} (n n':List It),Each2 EqG l m→(∀x∈l,subT x= [])→(∀x∈l,x.name=nNotify)→(∀a o,getS n a o=getS n' a o)→∀a o,getS (notC l n) a o=getS (notC m n') a o
 | [],[],_,_,_,_,_,h=>h
 |x::l,y::m,n,n',⟨h1,h2⟩,hs,hn,h=>by
  have hx:=hn x (Jz ..)
  have hy:y.name=nNotify:=h1.head.name.symm.trans hx
  rw[notC,notC,if_neg (by rw[hx];decide),if_neg (by rw[hy];decide)]
  obtain⟨f1,_⟩:=subT_not (hs x (Jz ..)) hx
  refine notC_each _ _ h2 (fun z hz=>hs z (Jy _ hz)) (fun z hz=>hn z (Jy _ hz)) fun a o=>?_
  rw[notK_fine f1,notK_fine (flat_fine h1.flat f1)]
  exact getS_byname h1.flat a o
 | [],_::_,_,_,e,_,_,_=>e.elim
 |_::_,[],_,_,e,_,_,_=>e.elim
theorem find0 {n:ByteArray} {p:Spc} (h:findS 0 n=some p):n=nObjective∨n=nNotify:=by
 obtain⟨h1,h2⟩:=findS_name h
 rcases List.mem_cons.mp h2 with rfl|h2
 ·exact Or.inl h1.symm
 ·rw[List.mem_singleton.mp h2]at h1;exact Or.inr h1.symm
theorem fine_names {wh:Nat} {sub:It→List Flt} : ∀ {l cs:List It},FineA wh sub cs l→∀x∈l,∃p,findS wh x.name=some p
 | [],_,_,x,hx=>by cases hx
 |y::l,cs,⟨h1,_,h3⟩,x,hx=>by
  rcases List.mem_cons.mp hx with rfl|hx
  ·obtain⟨p,hp,_⟩:=codeS_zero h1;exact⟨p,hp⟩
  ·exact fine_names h3 x hx
theorem conf_byname {l m:List It} (h:ByName EqG l m) (hf:FineA 0 subT [] l):FineA 0 subT [] m∧confC l=confC m:=by
 have hg:FineA 0 subT [] m:=fine_byname (fun _ _ h=>h.head) (fun _ _ h=>h.sub) h hf
 refine⟨hg,?_⟩
 have hs:=fine_sub hf
 have hln: ∀x∈l,x.name=nObjective∨x.name=nNotify:=fun x hx=>by obtain⟨p,hp⟩:=fine_names hf x hx;exact find0 hp
 have hmn: ∀x∈m,x.name=nObjective∨x.name=nNotify:=fun x hx=>by obtain⟨p,hp⟩:=fine_names hg x hx;exact find0 hp
 have hgo:golC l=golC m:=by rw[golC_named,golC_named m];exact golC_each (h _) (fun x hx=>hs x (nmd_sub hx))
 have hno: ∀a o,getS (notC l []) a o=getS (notC m []) a o:=by
  rw[notC_named l [] hln,notC_named m [] hmn]
  exact notC_each [] [] (h _) (fun x hx=>hs x (nmd_sub hx)) (fun x hx=>by simpa using(List.mem_filter.mp hx).2) (fun _ _=>rfl)
 unfold confC confB
 rw[look_all hf,look_all hg,hgo,hno,hno,hno,hno,hno]
theorem swap_byname {R:It→It→Prop} (hr: ∀x,R x x) (p q:List It) {x y:It} (hn:x.name≠y.name):ByName R (p++x::y::q) (p++y::x::q):=fun n=>by
 have e:nmd n (p++x::y::q)=nmd n (p++y::x::q):=by
  rw[nmd_app,nmd_app,nmd_cons,nmd_cons,nmd_cons,nmd_cons]
  by_cases h:x.name=n
  ·rw[if_pos h,if_neg (fun e=>hn (h.trans e.symm))];rfl
  ·rw[if_neg h];rfl
 rw[e]
 exact Each2.refl hr _
theorem Each2.byname {R:It→It→Prop} (hn: ∀x y,R x y→x.name=y.name) {l m:List It} (h:Each2 R l m):ByName R l m:=fun n=>h.named hn n
end
section
open Go.RowKit
def WordsIs (w:World) (S:Nat→Prop) (v:Value) (l:List Tk3):Prop:=
 ∃a cap,v= .slice a l.length cap∧l.length≤cap∧∀i,i<l.length→∃b off,a=some ⟨b,off,none⟩∧S b∧w.cell? ⟨b,off+i*5,none⟩=some (.int .i64 (l.getD i {}).k)∧w.cell? ⟨b,off+i*5+1,none⟩=some (.string (l.getD i {}).s)∧
  w.cell? ⟨b,off+i*5+2,none⟩=some (.int .u64 (l.getD i {}).n)∧w.cell? ⟨b,off+i*5+3,none⟩=some (.int .i64 (l.getD i {}).a)∧w.cell? ⟨b,off+i*5+4,none⟩=some (.int .i64 (l.getD i {}).b)
def ItemsIs:Nat→World→(Nat→Prop)→Value→List It→Prop
 |0,_,_,v,L=>L= []∧∃a cap,v= .slice a 0 cap
 |d+1,w,S,v,L=> ∃a cap,v= .slice a L.length cap∧L.length≤cap∧∀i,i<L.length→∃b off wv kv,a=some ⟨b,off,none⟩∧S b∧w.cell? ⟨b,off+i*6,none⟩=some (.string (L.getD i default).name)∧w.cell? ⟨b,off+i*6+1,none⟩=some wv∧
   w.cell? ⟨b,off+i*6+2,none⟩=some (.bool (L.getD i default).block)∧w.cell? ⟨b,off+i*6+3,none⟩=some kv∧w.cell? ⟨b,off+i*6+4,none⟩=some (.int .i64 (L.getD i default).a)∧w.cell? ⟨b,off+i*6+5,none⟩=some (.int .i64 (L.getD i default).b)∧
   WordsIs w S wv (L.getD i default).words∧ItemsIs d w S kv (L.getD i default).kids
theorem WordsIs.keep {w w':World} {S S':Nat→Prop} {v:Value} {l:List Tk3} (h:WordsIs w S v l) (hs: ∀b,S b→S' b) (hw: ∀b,S b→w'.heap[b]?=w.heap[b]?):WordsIs w' S' v l:=by
 obtain⟨a,cap,rfl,hc,hcell⟩:=h
 refine⟨a,cap,rfl,hc,fun i hi=>?_⟩
 obtain⟨b,off,rfl,hb,h0,h1,h2,h3,h4⟩:=hcell i hi
 have e:=hw b hb
 exact⟨b,off,rfl,hs b hb,(Kk (a:=⟨b,off+i*5,none⟩) e).trans h0,(Kk (a:=⟨b,off+i*5+1,none⟩) e).trans h1,(Kk (a:=⟨b,off+i*5+2,none⟩) e).trans h2,
  (Kk (a:=⟨b,off+i*5+3,none⟩) e).trans h3,(Kk (a:=⟨b,off+i*5+4,none⟩) e).trans h4⟩
theorem ItemsIs.keep: ∀ {d:Nat} {w w':World} {S S':Nat→Prop} {v:Value} {L:List It},ItemsIs d w S v L→(∀b,S b→S' b)→(∀b,S b→w'.heap[b]?=w.heap[b]?)→ItemsIs d w' S' v L
 |0,_,_,_,_,_,_,h,_,_=>h
 |d+1,w,w',S,S',v,L,h,hs,hw=>by
  obtain⟨a,cap,rfl,hc,hcell⟩:=h
  refine⟨a,cap,rfl,hc,fun i hi=>?_⟩
  obtain⟨b,off,wv,kv,rfl,hb,h0,h1,h2,h3,h4,h5,hwd,hk⟩:=hcell i hi
  have e:=hw b hb
  exact⟨b,off,wv,kv,rfl,hs b hb,(Kk (a:=⟨b,off+i*6,none⟩) e).trans h0,(Kk (a:=⟨b,off+i*6+1,none⟩) e).trans h1,(Kk (a:=⟨b,off+i*6+2,none⟩) e).trans h2,
   (Kk (a:=⟨b,off+i*6+3,none⟩) e).trans h3,(Kk (a:=⟨b,off+i*6+4,none⟩) e).trans h4,(Kk (a:=⟨b,off+i*6+5,none⟩) e).trans h5,hwd.keep hs hw,ItemsIs.keep hk hs hw⟩
theorem ItemsIs.size {d:Nat} {w:World} {S:Nat→Prop} {v:Value} {L:List It} (h:ItemsIs d w S v L): ∃a cap,v= .slice a L.length cap:=by
 cases d with
 |zero=>obtain⟨rfl,a,cap,rfl⟩:=h;exact⟨a,cap,rfl⟩
 |succ d=>obtain⟨a,cap,rfl,_⟩:=h;exact⟨a,cap,rfl⟩
theorem WordsIs.size {w:World} {S:Nat→Prop} {v:Value} {l:List Tk3} (h:WordsIs w S v l): ∃a cap,v= .slice a l.length cap:=by
 obtain⟨a,cap,rfl,_⟩:=h;exact⟨a,cap,rfl⟩
theorem ItemsIs.at {d:Nat} {w:World} {S:Nat→Prop} {a:Option Addr} {n cap:Nat} {L:List It} (h:ItemsIs d w S (.slice a n cap) L) (i:Nat) (hi:i<L.length): ∃d',d=d'+1∧∃b off wv kv,a=some ⟨b,off,none⟩∧S b∧w.cell? ⟨b,off+i*6,none⟩=some (.string (L.getD i default).name)∧w.cell? ⟨b,off+i*6+1,none⟩=some wv∧
   w.cell? ⟨b,off+i*6+2,none⟩=some (.bool (L.getD i default).block)∧w.cell? ⟨b,off+i*6+3,none⟩=some kv∧w.cell? ⟨b,off+i*6+4,none⟩=some (.int .i64 (L.getD i default).a)∧w.cell? ⟨b,off+i*6+5,none⟩=some (.int .i64 (L.getD i default).b)∧
   WordsIs w S wv (L.getD i default).words∧ItemsIs d' w S kv (L.getD i default).kids:=by
 cases d with
 |zero=>obtain⟨rfl,_⟩:=h;cases hi
 |succ d=>
  obtain⟨a',cap',he,hc,hcell⟩:=h
  injection he with e1 e2 e3
  subst e1
  exact⟨d,rfl,hcell i hi⟩
def cntK (L:List It):Nat→Nat
 |0=>0
 |i+1=>cntK L i+1+cntL (L.getD i default).kids
def depK (L:List It):Nat→Nat
 |0=>0
 |i+1=>max (depK L i) (1+depL (L.getD i default).kids)
theorem cntK_cons (x:It) (L:List It): ∀i,cntK (x::L) (i+1)=1+cntL x.kids+cntK L i
 |0=>by simp[cntK]
 |i+1=>by
  rw[cntK,cntK_cons x L i,cntK]
  simp only[List.getD_cons_succ]
  omega
theorem depK_cons (x:It) (L:List It): ∀i,depK (x::L) (i+1)=max (1+depL x.kids) (depK L i)
 |0=>by simp[depK]
 |i+1=>by
  rw[depK,depK_cons x L i,depK]
  simp only[List.getD_cons_succ]
  omega
theorem cntK_all: ∀L:List It,cntK L L.length=cntL L
 | []=>by simp[cntK,cntL]
 | .mk n w k kids a b::L=>by
  rw[Jq,cntK_cons,cntK_all L,cntL];rfl
theorem depK_all: ∀L:List It,depK L L.length=depL L
 | []=>by simp[depK,depL]
 | .mk n w k kids a b::L=>by
  rw[Jq,depK_cons,depK_all L,depL];rfl
theorem cntK_mono (L:List It) {i j:Nat} (h:i≤j):cntK L i≤cntK L j:=by
 induction j with
 | zero => obtain rfl : i = 0 := by omega
           exact Mz _
 |succ j ih=>
  by_cases e:i=j+1
  ·rw[e];exact Mz _
  ·have:=ih (by omega);rw[cntK];omega
theorem depK_mono (L:List It) {i j:Nat} (h:i≤j):depK L i≤depK L j:=by
 induction j with
 | zero => obtain rfl : i = 0 := by omega
           exact Mz _
 |succ j ih=>
  by_cases e:i=j+1
  ·rw[e];exact Mz _
  ·have:=ih (by omega);rw[depK];omega
theorem len_cnt: ∀L:List It,L.length≤cntL L
 | []=>by simp
 | .mk n w k kids a b::L=>by
  have:=len_cnt L
  simp only[Jq,cntL];omega
def AllW:List It→Prop
 | []=>True
 | .mk _ w _ kids _ _::l=>w.length≤1000000000∧AllW kids∧AllW l
end
section
open Go.RowKit
theorem flatten_set {sz:Nat} : ∀(vs:List (List Value)) (i j:Nat) (x:Value),(∀u∈vs,u.length=sz)→i<vs.length→j<sz→(vs.set i ((vs.getD i []).set j x)).flatten=vs.flatten.set (i*sz+j) x
 | [],i,j,x,_,h,_=>by cases h
 |u::vs,0,j,x,h,_,hj=>by
  have h1:=h u (Jz ..)
  rw[List.set_cons_zero,List.flatten_cons,List.flatten_cons,Nat.zero_mul,Nat.zero_add,List.set_append_left _ _ (by omega)]
  rfl
 |u::vs,i+1,j,x,h,hi,hj=>by
  have h1:=h u (Jz ..)
  have ih:=flatten_set vs i j x (fun y hy=>h y (Jy _ hy)) (by simpa using hi) hj
  rw[List.set_cons_succ,List.flatten_cons,List.flatten_cons]
  have e:(i+1)*sz+j=u.length+(i*sz+j):=by rw[Nat.add_mul,h1];omega
  rw[e,List.set_append_right _ _ (by omega),Nat.add_sub_cancel_left,←ih]
  rfl
theorem RowK.len {t:TypeId} {sz:Nat} {w:World} {base g n cap:Nat} {vs:List (List Value)} (h:RowK t sz w base (.slice (some ⟨g,0,none⟩) n cap) vs):n=vs.length:=by
 rcases h.own.2 with⟨e,_⟩|⟨g',cap',cur,e,_⟩
 ·cases e
 ·simp only[Value.slice.injEq]at e;exact e.2.1
theorem RowK.free {t:TypeId} {sz:Nat} {w:World} {base g n cap:Nat} {vs:List (List Value)} (h:RowK t sz w base (.slice (some ⟨g,0,none⟩) n cap) vs) (j:Nat):w.frozen? ⟨g,j,none⟩=false:=by
 have e:=h.len
 subst e
 exact h.own.frozenAt j
theorem RowK.set {t:TypeId} {sz:Nat} {w:World} {base g n cap:Nat} {vs:List (List Value)} (h:RowK t sz w base (.slice (some ⟨g,0,none⟩) n cap) vs) (i j:Nat) (x:Value) (hi:i<vs.length) (hj:j<sz) (hx:x.oneCell'=true):
  RowK t sz (w.setCell ⟨g,i*sz+j,none⟩ x) base (.slice (some ⟨g,0,none⟩) n cap) (vs.set i ((vs.getD i []).set j x)):=by
 have e:=h.len
 subst e
 have hm:vs.getD i []∈vs:=by rw[Mk,Kh hi];exact List.getElem_mem _
 obtain⟨hs,_⟩:=h.own.stored (i*sz+j) x
 refine⟨?_,fun u hu=>?_,fun u hu=>?_⟩
 ·rw[List.length_set,flatten_set vs i j x h.wid hi hj];exact hs
 ·rcases List.mem_or_eq_of_mem_set hu with hu|rfl
  ·exact h.wid u hu
  ·rw[List.length_set];exact h.wid _ hm
 ·rcases List.mem_or_eq_of_mem_set hu with hu|rfl
  ·exact h.one u hu
  ·intro y hy
   rcases List.mem_or_eq_of_mem_set hy with hy|rfl
   ·exact h.one _ hm y hy
   ·exact hx
end
section
open Go.RowKit
def CellsAt (sz:Nat) (w:World) (a:Option Addr) (ys:List (List Value)):Prop:=
 (∀u∈ys,u.length=sz)∧∀i,i<ys.length→∃b off,a=some ⟨b,off,none⟩∧∀j,j<sz→w.cell? ⟨b,off+i*sz+j,none⟩=some ((ys.getD i []).getD j undef)
theorem add_plainK (b off n:Nat):(⟨b,off,none⟩:Addr).add n=⟨b,off+n,none⟩:=by unfold Addr.add;split<;>simp_all
theorem flatten_len {sz:Nat} : ∀(ys:List (List Value)),(∀u∈ys,u.length=sz)→ys.flatten.length=ys.length*sz
 | [],_=>by simp
 |u::ys,h=>by
  rw[List.flatten_cons,Kq,h u (Jz ..),flatten_len ys (fun x hx=>h x (Jy _ hx)),Jq,Nat.add_mul]
  omega
theorem CellsAt.flat {sz:Nat} {w:World} {b off:Nat} {ys:List (List Value)} (h:CellsAt sz w (some ⟨b,off,none⟩) ys) (hsz:0<sz): ∀j u,ys.flatten[j]?=some u→w.cell? ((⟨b,off,none⟩:Addr).add j)=some u:=fun j u hj=>by
 have hlt:=(List.getElem?_eq_some_iff.1 hj).1
 rw[flatten_len ys h.1]at hlt
 have hi:j/sz<ys.length:=Nat.div_lt_of_lt_mul (by rw[Nat.mul_comm];exact hlt)
 have hk:j%sz<sz:=Nat.mod_lt _ hsz
 obtain⟨b',off',e,hc⟩:=h.2 (j/sz) hi
 injection e with e
 injection e with e1 e2
 subst e1 e2
 have hx:=hc (j%sz) hk
 have hg:=getD_flatten ys (j/sz) (j%sz) h.1 hi hk
 have ej:j/sz*sz+j%sz=j:=by rw[Nat.mul_comm];exact Nat.div_add_mod j sz
 rw[ej]at hg
 rw[hg]at hj
 injection hj with hj
 have e2:off+j/sz*sz+j%sz=off+j:=by omega
 rw[e2]at hx
 rw[add_plainK,←hj]
 exact hx
theorem run_rowKs {w:World} {T t:TypeId} {z:Value} {sz bts:Nat} (hT:Tryz.prog.underlying T=some (.slice t)) (hinf:(Tryz.prog.info? t).map (fun i=>(i.zero,i.size,i.bytes))=some (some z,sz,bts)) (hzs:z.cells.size=sz) (hsz:0<sz) (hbt:bts≤128)
  (base:Nat) (v:Value) (vs:List (List Value)) (hown:RowK t sz w base v vs) (a:Option Addr) (c:Nat) (ys:List (List Value)) (hcell:CellsAt sz w a ys) (hy: ∀u∈ys,∀x∈u,x.oneCell'=true) (hlen:vs.length+ys.length≤1000000) (hbase:base≤w.heap.size) (ty:TypeId):
  ∃v' w',(Builtin.append_ #[T,T] ty #[v, .slice a ys.length c]).run Tryz.prog w= .ok v' w'∧RowK t sz w' base v' (vs++ys)∧OnlyO base (fun i=>some i=v.ownBlock) w w'∧(v'.ownBlock=v.ownBlock∨v'.ownBlock=some w.heap.size):=by
 obtain⟨i0,hi,hz0,hz1,hz2⟩:=info_parts hinf
 cases a with
 |some ad=>
  obtain⟨b,off,sp⟩:=ad
  have hby:(vs.length+ys.length)*bts≤1000000*128:=Nat.mul_le_mul hlen hbt
  have hnews: ∀j u,ys.flatten[j]?=some u→w.cell? ((⟨b,off,sp⟩:Addr).add j)=some u:=by
   cases ys with
   |nil=>intro j u hj;simp at hj
   |cons y ys=>
    obtain⟨b',off',e,_⟩:=hcell.2 0 (by simp)
    injection e with e
    injection e with e1 e2 e3
    subst e3
    exact hcell.flat hsz
  obtain⟨v',w',hr,h2,h3,h4,h5⟩:=run_append_own_at (P:=Tryz.prog) w base T ty t i0 z sz bts hT hi hz0 hz1 hz2 hzs hsz v vs.length vs.flatten hown.own ⟨b,off,sp⟩ ys.length c ys.flatten (flatten_len ys hcell.1) hnews
   (fun u hu=>by obtain⟨y,hy1,hy2⟩:=List.mem_flatten.mp hu;exact hy y hy1 u hy2) (by unfold maxLen;omega) (by omega) hbase
  refine⟨v',w',hr,⟨?_,fun u hm=>?_,fun u hm=>?_⟩,⟨(Mj base w).grown h3 hbase (fun b hk=>(hown.lt hk).1),fun i hi hne=>h3.block i hi hne⟩,h5⟩
  ·rw[Kq,List.flatten_append]
   exact h2
  ·rcases List.mem_append.mp hm with hm|hm
   ·exact hown.wid u hm
   ·exact hcell.1 u hm
  ·rcases List.mem_append.mp hm with hm|hm
   ·exact hown.one u hm
   ·exact hy u hm
 |none=>
  have h0:ys= []:=by
   cases ys with
   |nil=>rfl
   |cons y ys=>obtain⟨b',off',e,_⟩:=hcell.2 0 (by simp);cases e
  subst h0
  refine⟨v,w,?_,by rw[List.append_nil];exact hown,⟨Mj _ _,fun _ _ _=>rfl⟩,Or.inl rfl⟩
  rcases hown.own.2 with⟨rfl,hn⟩|⟨g,cap,cur,rfl,_,hg,hnc,_,_,_⟩
  ·simp[Builtin.append_,run_underlying hT,sizeOf,typeInfo,hi,Builtin.lenOf,Builtin.firstCells]
  ·simp[Builtin.append_,run_underlying hT,sizeOf,typeInfo,hi,Builtin.lenOf,hnc,Builtin.firstCells,loadCells,storeCells]
theorem wp_rowKs {w:World} {ops:Array Oper} {rest:List Oper} {o:Oper} {a:Act} {Q:Exit→Act→World→Prop} {T t:TypeId} {z:Value} {sz bts:Nat} (hgd:o.guard=none) (s x:Operand)
  (ho:o.op= .call { callee:= .builtin .append,args:= #[s,x],argTypes:= #[T,T] }) (hT:Tryz.prog.underlying T=some (.slice t)) (hinf:(Tryz.prog.info? t).map (fun i=>(i.zero,i.size,i.bytes))=some (some z,sz,bts)) (hzs:z.cells.size=sz) (hsz:0<sz) (hbt:bts≤128)
  (base:Nat) (v:Value) (vs:List (List Value)) (hs:a.eval s=v) (hown:RowK t sz w base v vs) (ad:Option Addr) (n c:Nat) (ys:List (List Value)) (hx:a.eval x= .slice ad n c) (hn:n=ys.length) (hcell:CellsAt sz w ad ys) (hy: ∀u∈ys,∀x∈u,x.oneCell'=true)
  (hlen:vs.length+ys.length≤1000000) (hbase:base≤w.heap.size)
  (h: ∀v' w',RowK t sz w' base v' (vs++ys)→OnlyO base (fun i=>some i=v.ownBlock) w w'→(v'.ownBlock=v.ownBlock∨v'.ownBlock=some w.heap.size)→wpList Tryz.prog ops Q rest (a.put o.dst v') w'):wpList Tryz.prog ops Q (o::rest) a w:=by
 subst hn
 obtain⟨v',w',hr,h1,h2,h3⟩:=run_rowKs hT hinf hzs hsz hbt base v vs hown ad c ys hcell hy hlen hbase o.type
 exact Lib.wpList_append_run w hgd s x _ _ ho v _ hs hx _ w' hr (h v' w' h1 h2 h3)
end
section
open Go.RowKit
def tkV (t:Tk3):List Value:= [.int .i64 t.k, .string t.s, .int .u64 t.n, .int .i64 t.a, .int .i64 t.b]
theorem tkV_one (t:Tk3): ∀u∈tkV t,u.oneCell'=true:=fun u hu=>by
 simp only[tkV,List.mem_cons,List.not_mem_nil,or_false]at hu
 rcases hu with rfl|rfl|rfl|rfl|rfl<;>rfl
theorem toksV_tk3 (l:List Int) (L:List (TkV×Nat)):toksV l L=(L.map (tk3 l)).map tkV:=by
 unfold toksV
 rw[List.map_map];rfl
theorem RowK.words {w:World} {base:Nat} {v:Value} {l:List Tk3} {S:Nat→Prop} (h:RowK 78 5 w base v (l.map tkV)) (hS: ∀b,v.ownBlock=some b→S b):WordsIs w S v l:=by
 by_cases h0:l.length=0
 ·obtain rfl:l= []:=List.eq_nil_of_length_eq_zero h0
  obtain⟨a,cap,rfl⟩:=h.size
  exact⟨a,cap,rfl,Nat.zero_le _,fun i hi=>by cases hi⟩
 ·obtain⟨g,cap,rfl,_,_,hc⟩:=h.form (by rw[Ky];omega)
  rw[Ky]at hc h
  refine⟨some ⟨g,0,none⟩,cap,by rw[Ky],hc,fun i hi=>⟨g,0,rfl,hS g rfl,?_⟩⟩
  have hi2:i<(l.map tkV).length:=by rw[Ky];exact hi
  have e:(l.map tkV).getD i []=tkV (l.getD i {}):=by
   rw[Mk,Mk,List.getElem?_map,Kh hi];rfl
  have c0:=h.at i 0 hi2 (by decide)
  have c1:=h.at i 1 hi2 (by decide)
  have c2:=h.at i 2 hi2 (by decide)
  have c3:=h.at i 3 hi2 (by decide)
  have c4:=h.at i 4 hi2 (by decide)
  rw[e]at c0 c1 c2 c3 c4
  simp only[Nat.zero_add]
  exact⟨c0,c1,c2,c3,c4⟩
theorem WordsIs.one {w:World} {S:Nat→Prop} {v:Value} {l:List Tk3} (h:WordsIs w S v l):v.oneCell'=true:=by obtain⟨a,cap,rfl⟩:=h.size;rfl
theorem ItemsIs.one {d:Nat} {w:World} {S:Nat→Prop} {v:Value} {L:List It} (h:ItemsIs d w S v L):v.oneCell'=true:=by obtain⟨a,cap,rfl⟩:=h.size;rfl
theorem WordsIs.first {w:World} {S:Nat→Prop} {v:Value} {t:Tk3} {l:List Tk3} (h:WordsIs w S v (t::l)): ∃b off cap,v= .slice (some ⟨b,off,none⟩) (l.length+1) cap∧l.length+1≤cap∧S b∧w.cell? ⟨b,off,none⟩=some (.int .i64 t.k)∧w.cell? ⟨b,off+1,none⟩=some (.string t.s)∧
  w.cell? ⟨b,off+2,none⟩=some (.int .u64 t.n)∧w.cell? ⟨b,off+3,none⟩=some (.int .i64 t.a)∧w.cell? ⟨b,off+4,none⟩=some (.int .i64 t.b)∧∀c,l.length≤c→WordsIs w S (.slice (some ⟨b,off+5,none⟩) l.length c) l:=by
 obtain⟨a,cap,rfl,hc,hcell⟩:=h
 obtain⟨b,off,rfl,hb,h0,h1,h2,h3,h4⟩:=hcell 0 (by simp)
 simp only[Nat.zero_mul,Nat.add_zero]at h0 h1 h2 h3 h4
 refine⟨b,off,cap,rfl,hc,hb,h0,h1,h2,h3,h4,fun c hc2=>⟨some ⟨b,off+5,none⟩,c,rfl,hc2,fun i hi=>?_⟩⟩
 obtain⟨b',off',e,hb',q0,q1,q2,q3,q4⟩:=hcell (i+1) (by simp only[Jq];omega)
 injection e with e
 injection e with e1 e2
 subst e1 e2
 have e5:off+(i+1)*5=off+5+i*5:=by omega
 rw[e5]at q0 q1 q2 q3 q4
 exact⟨b,off+5,rfl,hb,q0,q1,q2,q3,q4⟩
theorem WordsIs.none' (w:World) (S:Nat→Prop) (a:Option Addr) (c:Nat):WordsIs w S (.slice a 0 c) []:=⟨a,c,rfl,Nat.zero_le _,fun i hi=>by cases hi⟩
theorem ItemsIs.none' (d:Nat) (w:World) (S:Nat→Prop) (a:Option Addr) (c:Nat):ItemsIs d w S (.slice a 0 c) []:=by
 cases d with
 |zero=>exact⟨rfl,a,c,rfl⟩
 |succ d=>exact⟨a,c,rfl,Nat.zero_le _,fun i hi=>by cases hi⟩
structure ItV where
 x:It
 wv:Value
 kv:Value
def ItV.cells (p:ItV):List Value:= [.string p.x.name,p.wv, .bool p.x.block,p.kv, .int .i64 p.x.a, .int .i64 p.x.b]
structure ListIs (d:Nat) (w:World) (S:Nat→Prop) (base:Nat) (v:Value) (ps:List ItV):Prop where
 row:RowK 47 6 w base v (ps.map ItV.cells)
 ws: ∀p∈ps,WordsIs w S p.wv p.x.words
 ks: ∀p∈ps,ItemsIs d w S p.kv p.x.kids
 out: ∀b,v.ownBlock=some b→¬S b
theorem ListIs.nil (d:Nat) (w:World) (S:Nat→Prop) (base:Nat):ListIs d w S base (.slice none 0 0) []:=⟨RowK.nil _ _ _ _,(fun p hp=>by cases hp),(fun p hp=>by cases hp),(fun b e=>by cases e)⟩
theorem ListIs.keep {d:Nat} {w w':World} {S S':Nat→Prop} {base:Nat} {v:Value} {ps:List ItV} (h:ListIs d w S base v ps) (hs: ∀b,S b→S' b) (hw: ∀b,S b→w'.heap[b]?=w.heap[b]?) (hr: ∀b,v.ownBlock=some b→w'.heap[b]?=w.heap[b]?) (ho: ∀b,v.ownBlock=some b→¬S' b):ListIs d w' S' base v ps:=
 ⟨h.row.kept hr,fun p hp=>(h.ws p hp).keep hs hw,fun p hp=>(h.ks p hp).keep hs hw,ho⟩
theorem ListIs.items {d:Nat} {w:World} {S S':Nat→Prop} {base:Nat} {v:Value} {ps:List ItV} (h:ListIs d w S base v ps) (hs: ∀b,S b→S' b) (hr: ∀b,v.ownBlock=some b→S' b):ItemsIs (d+1) w S' v (ps.map ItV.x):=by
 by_cases h0:ps.length=0
 ·obtain rfl:ps= []:=List.eq_nil_of_length_eq_zero h0
  obtain⟨a,cap,rfl⟩:=h.row.size
  exact ItemsIs.none' _ _ _ _ _
 ·obtain⟨g,cap,rfl,_,_,hc⟩:=h.row.form (by rw[Ky];omega)
  have hrow:=h.row
  rw[Ky]at hc hrow
  refine⟨some ⟨g,0,none⟩,cap,by rw[Ky,Ky],by rw[Ky];exact hc,fun i hi=>?_⟩
  rw[Ky]at hi
  have hi2:i<(ps.map ItV.cells).length:=by rw[Ky];exact hi
  have hm:ps[i]∈ps:=List.getElem_mem _
  have e:(ps.map ItV.cells).getD i []=(ps[i]).cells:=by
   rw[Mk,List.getElem?_map,Kh hi];rfl
  have e2:(ps.map ItV.x).getD i default=(ps[i]).x:=by
   rw[Mk,List.getElem?_map,Kh hi];rfl
  have c0:=hrow.at i 0 hi2 (by decide)
  have c1:=hrow.at i 1 hi2 (by decide)
  have c2:=hrow.at i 2 hi2 (by decide)
  have c3:=hrow.at i 3 hi2 (by decide)
  have c4:=hrow.at i 4 hi2 (by decide)
  have c5:=hrow.at i 5 hi2 (by decide)
  rw[e]at c0 c1 c2 c3 c4 c5
  rw[e2]
  refine⟨g,0,(ps[i]).wv,(ps[i]).kv,rfl,hr g rfl,?_⟩
  simp only[Nat.zero_add]
  exact⟨c0,c1,c2,c3,c4,c5,(h.ws _ hm).keep hs (fun _ _=>rfl),ItemsIs.keep (h.ks _ hm) hs (fun _ _=>rfl)⟩
theorem itv_one {p:ItV} (h1:p.wv.oneCell'=true) (h2:p.kv.oneCell'=true): ∀u∈p.cells,u.oneCell'=true:=fun u hu=>by
 simp only[ItV.cells,List.mem_cons,List.not_mem_nil,or_false]at hu
 rcases hu with rfl|rfl|rfl|rfl|rfl|rfl
 ·rfl
 ·exact h1
 ·rfl
 ·exact h2
 ·rfl
 ·rfl
theorem ListIs.push {d:Nat} {w w':World} {S S':Nat→Prop} {base:Nat} {v v':Value} {ps:List ItV} {p:ItV} (h:ListIs d w S base v ps) (hrow:RowK 47 6 w' base v' (ps.map ItV.cells++ [p.cells])) (hs: ∀b,S b→S' b) (hw: ∀b,S b→w'.heap[b]?=w.heap[b]?)
  (hp1:WordsIs w' S' p.wv p.x.words) (hp2:ItemsIs d w' S' p.kv p.x.kids) (ho: ∀b,v'.ownBlock=some b→¬S' b):ListIs d w' S' base v' (ps++ [p]):=by
 refine⟨by rw[List.map_append];exact hrow,fun q hq=>?_,fun q hq=>?_,ho⟩
 ·rcases List.mem_append.mp hq with hq|hq
  ·exact(h.ws q hq).keep hs hw
  ·rw[List.mem_singleton.mp hq];exact hp1
 ·rcases List.mem_append.mp hq with hq|hq
  ·exact(h.ks q hq).keep hs hw
  ·rw[List.mem_singleton.mp hq];exact hp2
theorem info_item:(Tryz.prog.info? 47).map (fun i=>(i.zero,i.size,i.bytes))=some (some (.agg #[.string ⟨#[]⟩, .slice none 0 0, .bool false, .slice none 0 0, .int .i64 0, .int .i64 0]),6,88):=by kernel_rfl
noncomputable def treR (s:ByteArray):Except (Int×Int×Int) (List It):=if s.size≤40000 then treF (runesOf (nums s))else .error (9,1,1)
def GivesTre (r:Except (Int×Int×Int) (List It)) (w:World) (e:Ending) (w':World):Prop:=
 Below w.heap.size w w'∧((∃c a b,r= .error (c,a,b)∧e= .returned (.tuple #[.slice none 0 0, .agg #[.int .i64 c, .int .i64 a, .int .i64 b]]))∨
  ∃L v,r= .ok L∧e= .returned (.tuple #[v, .agg #[.int .i64 0, .int .i64 0, .int .i64 0]])∧ItemsIs 5 w' (fun b=>w.heap.size≤b∧b<w'.heap.size) v L)
end
section
open Go.RowKit
theorem OnlyO.past {base:Nat} {O:Foot} {w W W':World} (h:OnlyO base O w W) (hb:Below w.heap.size W W') (hB:base≤w.heap.size):OnlyO base O w W':=
 ⟨h.bel.trans (hb.mono hB),fun i hi hne=>(hb.block i hi).trans (h.keep i hi hne)⟩
theorem OnlyO.step {base:Nat} {O:Foot} {w W W':World} (h:OnlyO base O w W) (g:OnlyO base O W W'):OnlyO base O w W':=h.trans g (Grown.refl _ _)
def tkA (t:Tk3):Value:= .agg #[.int .i64 t.k, .string t.s, .int .u64 t.n, .int .i64 t.a, .int .i64 t.b]
def RdM (w:World) (rb:Nat) (T:List Tk3) (n:Nat):Prop:= ∃v,Var2 w rb v (.int .i64 (n:Int))∧WordsIs w (fun b=>b<rb) v T
theorem Var2.set0 {W:World} {p:Nat} {x y:Value} (h:Var2 W p x y) (z:Value):Var2 (W.setCell ⟨p,0,none⟩ z) p z y:=by
 obtain⟨q0,q1,p0,p1,s⟩:=h
 refine⟨?_,?_,?_,?_,?_⟩<;>simp[go_sem, *]
theorem Var2.set1 {W:World} {p:Nat} {x y:Value} (h:Var2 W p x y) (z:Value):Var2 (W.setCell ⟨p,1,none⟩ z) p x z:=by
 obtain⟨q0,q1,p0,p1,s⟩:=h
 refine⟨?_,?_,?_,?_,?_⟩<;>simp[go_sem, *]
theorem RdM.lt {w:World} {rb:Nat} {T:List Tk3} {n:Nat} (h:RdM w rb T n):rb<w.heap.size:=by obtain⟨v,h,_⟩:=h;exact h.s
theorem RdM.keep {w w':World} {rb:Nat} {T:List Tk3} {n:Nat} (h:RdM w rb T n) (hb: ∀i,i≤rb→w'.heap[i]?=w.heap[i]?) (hs:w.heap.size≤w'.heap.size):RdM w' rb T n:=by
 obtain⟨v,h1,h2⟩:=h
 exact⟨v,h1.hold (hb rb (Mz _)) hs,h2.keep (fun _ h=>h) (fun b hb2=>hb b (Nat.le_of_lt hb2))⟩
theorem RdM.after {w w':World} {rb:Nat} {T:List Tk3} {n:Nat} (h:RdM w rb T n) (hb:Below w.heap.size w w'):RdM w' rb T n:=
 h.keep (fun i hi=>hb.block i (Nat.lt_of_le_of_lt hi h.lt)) hb.size
theorem Var5.besides {W:World} {p r:Nat} {x0 x1 x2 x3 x4:Value} (k:Var5 W p x0 x1 x2 x3 x4) (h:p≠r) (y0 y1 y2 y3 y4:Value):Var5 (put5 W r y0 y1 y2 y3 y4) p x0 x1 x2 x3 x4:=
 k.stay (by unfold put5;rw[sset_else _ _ _ _ _ h,sset_else _ _ _ _ _ h,sset_else _ _ _ _ _ h,sset_else _ _ _ _ _ h,sset_else _ _ _ _ _ h]) (by rw[put5_size];exact Mz _)
theorem under_toks:Tryz.prog.underlying 45=some (.slice 78):=by kernel_rfl
theorem elem_toks (W:World):(sizeOf (Tryz.prog.elem 45)).run Tryz.prog W= .ok 5 W:=by kernel_rfl
theorem toks_rest (b off n cap:Nat) (W:World) (hc:n+1≤cap): ∃a c,(Instr.slice 45 (.slice (some ⟨b,off,none⟩) (n+1) cap) (some (.int .i64 1)) none none).run Tryz.prog W= .ok (.slice a n c) W∧(n=0∨a=some ⟨b,off+5,none⟩)∧n≤c:=by
 refine⟨if cap=1 then some ⟨b,off,none⟩else some ⟨b,off+5,none⟩,cap-1,?_,?_,by omega⟩
 ·have:=run_slice_l W 45 (some ⟨b,off,none⟩) (n+1) cap under_toks .i64 1 (by omega) (by omega)
  rw[this,elem_toks]
  simp only[Result.andThen,sliced]
  by_cases h1:cap=1
  ·simp[h1]
  ·simp[h1,Addr.add]
 ·by_cases h1:cap=1
  ·exact Or.inl (by omega)
  ·exact Or.inr (if_neg h1)
theorem next_results {W:World} {g:Nat} {x0 x1 x2 x3 x4:Value} {tmps:Array Value} (h:Var5 W g x0 x1 x2 x3 x4) (h2:tmps.getD 2 undef= .pointer (some ⟨g,0,none⟩)):(results Tryz.f45 tmps).run Tryz.prog W= .ok (.agg #[x0,x1,x2,x3,x4]) W:=by
 have e:(asAddr (Value.pointer (some ⟨g,0,none⟩))).run Tryz.prog W= .ok ⟨g,0,none⟩ W:=rfl
 have hr:Tryz.f45.results= #[.cell 2 78]:=rfl
 have q2:tmps[2]?.getD undef= .pointer (some ⟨g,0,none⟩):=by simpa using h2
 simp only[results,hr]
 simp[Sem.run_bind,Result.andThen,q2,e,load_tok h]
theorem next_any (w:World) (rb n:Nat) (t:Tk3) (T:List Tk3) (h:RdM w rb (t::T) n):Calls Tryz.prog 45 #[.pointer (some ⟨rb,0,none⟩)] w fun e w'=>e= .returned (tkA t)∧RdM w' rb T n∧OnlyO rb (fun i=>i=rb) w w':=by
 obtain⟨v,hv,hw⟩:=h
 obtain⟨b,off,cap,rfl,hc,hb,t0,t1,t2,t3,t4,hrest⟩:=hw.first
 obtain⟨B,hB⟩: ∃B,w.heap.size=B:=⟨_,rfl⟩
 have hrB:rb<B:=hB▸hv.s
 have hb:b<rb:=hb
 obtain⟨W0,hW0⟩: ∃W,w.alloc (.cells #[.int .i64 0, .string ⟨#[]⟩, .int .u64 0, .int .i64 0, .int .i64 0] 78)=W:=⟨_,rfl⟩
 have V0:Var5 W0 B (.int .i64 0) (.string ⟨#[]⟩) (.int .u64 0) (.int .i64 0) (.int .i64 0):=by rw[←hW0];exact Var5.fresh _ _ _ _ _ _ _ _ hB.symm
 have g0:Below B w W0:=by rw[←hW0,←hB];exact(Mj _ _).alloc (Mz _) _
 have hs0:W0.heap.size=B+1:=by rw[←hW0];simp[hB]
 obtain⟨W1,hW1⟩: ∃W,W0.alloc (.cells #[.int .i64 0, .string ⟨#[]⟩, .int .u64 0, .int .i64 0, .int .i64 0] 78)=W:=⟨_,rfl⟩
 have U1:Var5 W1 (B+1) (.int .i64 0) (.string ⟨#[]⟩) (.int .u64 0) (.int .i64 0) (.int .i64 0):=by rw[←hW1];exact Var5.fresh _ _ _ _ _ _ _ _ hs0.symm
 have g1:Below B w W1:=by rw[←hW1];exact g0.alloc (by omega) _
 have b1:Below W0.heap.size W0 W1:=by rw[←hW1];exact(Mj _ _).alloc (Mz _) _
 obtain⟨k,s,m,x,y⟩:=t
 simp only at t0 t1 t2 t3 t4
 obtain⟨W2,hW2⟩: ∃W,put5 W1 (B+1) (.int .i64 k) (.string s) (.int .u64 m) (.int .i64 x) (.int .i64 y)=W:=⟨_,rfl⟩
 have U2:Var5 W2 (B+1) (.int .i64 k) (.string s) (.int .u64 m) (.int .i64 x) (.int .i64 y):=by rw[←hW2];exact U1.put _ _ _ _ _
 have g2:Below B w W2:=by rw[←hW2];exact below_put5 g1 (by omega) _ _ _ _ _
 have V2:Var5 W2 B (.int .i64 0) (.string ⟨#[]⟩) (.int .u64 0) (.int .i64 0) (.int .i64 0):=by rw[←hW2];exact(V0.after b1).besides (by omega) _ _ _ _ _
 have hW2':(((((W1.setCell ⟨B+1,0,none⟩ (.int .i64 k)).setCell ⟨B+1,1,none⟩ (.string s)).setCell ⟨B+1,2,none⟩ (.int .u64 m)).setCell ⟨B+1,3,none⟩ (.int .i64 x)).setCell ⟨B+1,4,none⟩ (.int .i64 y))=W2:=hW2
 have hz2:W2.heap.size=B+2:=by rw[←hW2,put5_size,←hW1];simp[hs0]
 obtain⟨a',c,hsl,hv',hc'⟩:=toks_rest b off T.length cap W2 hc
 obtain⟨W3,hW3⟩: ∃W,W2.setCell ⟨rb,0,none⟩ (.slice a' T.length c)=W:=⟨_,rfl⟩
 have U3:Var5 W3 (B+1) (.int .i64 k) (.string s) (.int .u64 m) (.int .i64 x) (.int .i64 y):=by rw[←hW3];exact U2.stay (sset_else _ _ _ _ _ (by omega)) (by simp)
 have V3:Var5 W3 B (.int .i64 0) (.string ⟨#[]⟩) (.int .u64 0) (.int .i64 0) (.int .i64 0):=by rw[←hW3];exact V2.stay (sset_else _ _ _ _ _ (by omega)) (by simp)
 have R2:=hv.after (hB▸g2)
 have R3:Var2 W3 rb (.slice a' T.length c) (.int .i64 (n:Int)):=by
  rw[←hW3]
  exact R2.set0 _
 have O3:OnlyO rb (fun i=>i=rb) w W3:=by rw[←hW3];exact(OnlyO.of (base:=rb) (O:=fun i=>i=rb) (by rw[hB];exact g2) (by omega)).set rfl (Mz _) _ _
 have HFIN:Hid (RdM (put5 W3 B (.int .i64 k) (.string s) (.int .u64 m) (.int .i64 x) (.int .i64 y)) rb T n∧OnlyO rb (fun i=>i=rb) w (put5 W3 B (.int .i64 k) (.string s) (.int .u64 m) (.int .i64 x) (.int .i64 y))):=by
  have hbp:Below B W3 (put5 W3 B (.int .i64 k) (.string s) (.int .u64 m) (.int .i64 x) (.int .i64 y)):=below_put5 (Mj _ _) (Mz _) _ _ _ _ _
  have O4:OnlyO rb (fun i=>i=rb) w (put5 W3 B (.int .i64 k) (.string s) (.int .u64 m) (.int .i64 x) (.int .i64 y)):=O3.past (hB▸hbp) (by omega)
  refine Lh ⟨⟨_,R3.hold (hbp.block rb hrB) hbp.size,?_⟩,O4⟩
  have hk: ∀i,i<rb→(put5 W3 B (.int .i64 k) (.string s) (.int .u64 m) (.int .i64 x) (.int .i64 y)).heap[i]?=w.heap[i]?:=fun i hi=>O4.keep i (by omega) (by omega)
  rcases hv' with h1|rfl
  ·obtain rfl:T= []:=List.eq_nil_of_length_eq_zero h1
   exact WordsIs.none' _ _ _ _
  ·exact(hrest c hc').keep (fun _ h=>h) hk
 have hb:b<rb:=hb
 have e0:=(g0.cell (p:=⟨b,off,none⟩) (by show b<B;omega)).trans t0
 have e1:=(g0.cell (p:=⟨b,off+1,none⟩) (by show b<B;omega)).trans t1
 have e2:=(g0.cell (p:=⟨b,off+2,none⟩) (by show b<B;omega)).trans t2
 have e3:=(g0.cell (p:=⟨b,off+3,none⟩) (by show b<B;omega)).trans t3
 have e4:=(g0.cell (p:=⟨b,off+4,none⟩) (by show b<B;omega)).trans t4
 have r0:=(g0.cell (p:=⟨rb,0,none⟩) hrB).trans hv.c0
 have r2:=R2.c0
 have f2:=R2.q0
 have hn1: ¬rb=B:=by omega
 have hn2: ¬rb=B+1:=by omega
 have c10:=U1.c0;have c11:=U1.c1;have c12:=U1.c2;have c13:=U1.c3;have c14:=U1.c4;have c1q:=U1.q
 have c30:=U3.c0;have c31:=U3.c1;have c32:=U3.c2;have c33:=U3.c3;have c34:=U3.c4
 have d0:=V3.c0;have d1:=V3.c1;have d2:=V3.c2;have d3:=V3.c3;have d4:=V3.c4;have dq:=V3.q
 have HV:=Lh V3
 have hl1:(0:Int)<(T.length:Int)+1:=by omega
 have hb:b<rb:=hb
 clear V0 g0 U1 g1 b1 U2 g2 V2 hz2 U3 V3 R2 R3 O3 hv hw hrest t0 t1 t2 t3 t4 hc hc' hb hv' hW2
 go_enter Tryz.func45,Tryz.ntmps45
 go_wp2
 refine bodyPost_ret (next_results (HV.out.put (.int .i64 k) (.string s) (.int .u64 m) (.int .i64 x) (.int .i64 y)) rfl) rfl ?_
 exact⟨rfl,HFIN.out⟩
def flies (c a b:Int):Ending:= .panicked [{ v:= .iface 41 (.agg #[.int .i64 c, .int .i64 a, .int .i64 b]),recovered:=false }]
theorem tok_box (w:World) (t:Tk3): ∃B W,w.heap.size=B∧w.alloc (.cells #[.int .i64 t.k, .string t.s, .int .u64 t.n, .int .i64 t.a, .int .i64 t.b] 78)=W∧Var5 W B (.int .i64 t.k) (.string t.s) (.int .u64 t.n) (.int .i64 t.a) (.int .i64 t.b)∧Below w.heap.size w W∧W.heap.size=B+1:=
 ⟨_,_,rfl,rfl,Var5.fresh _ _ _ _ _ _ _ _ rfl,(Mj _ _).alloc (Mz _) _,by simp⟩
theorem fail_any (c:Int) (t:Tk3) (w:World):Calls Tryz.prog 79 #[.int .i64 c,tkA t] w fun e w'=>e=flies c t.a t.b∧Below w.heap.size w w':=by
 obtain⟨B,W,hB,hW,V,hb,_⟩:=tok_box w t
 have HB:=Lh hb
 have HB2:Hid (Below B w W):=Lh (hB▸hb)
 obtain⟨c0,c1,c2,c3,c4,_,_⟩:=V
 unfold tkA
 clear hb
 go_enter Tryz.func79,Tryz.ntmps79
 go_wp2
 first|exact⟨rfl,rfl,HB.out⟩|exact⟨rfl,rfl,HB2.out⟩
theorem word_yes (t:Tk3) (w:World) (h1:1≤t.k) (h2:t.k≤6):Calls Tryz.prog 80 #[tkA t] w fun e w'=>e= .returned (.bool true)∧Below w.heap.size w w':=by
 obtain⟨B,W,hB,hW,V,hb,_⟩:=tok_box w t
 have HB:=Lh hb
 have HB2:Hid (Below B w W):=Lh (hB▸hb)
 obtain⟨c0,c1,c2,c3,c4,_,_⟩:=V
 unfold tkA
 clear hb
 go_enter Tryz.func80,Tryz.ntmps80
 go_wp2
 go_ret
 first|exact⟨rfl,HB.out⟩|exact⟨rfl,HB2.out⟩
theorem word_no (t:Tk3) (w:World) (h:t.k<1∨6<t.k):Calls Tryz.prog 80 #[tkA t] w fun e w'=>e= .returned (.bool false)∧Below w.heap.size w w':=by
 obtain⟨B,W,hB,hW,V,hb,_⟩:=tok_box w t
 have HB:=Lh hb
 have HB2:Hid (Below B w W):=Lh (hB▸hb)
 obtain⟨c0,c1,c2,c3,c4,_,_⟩:=V
 unfold tkA
 clear hb
 by_cases h1:t.k<1
 ·have h2: ¬1≤t.k:=by omega
  go_enter Tryz.func80,Tryz.ntmps80
  go_wp2
  go_ret
  first|exact⟨rfl,HB.out⟩|exact⟨rfl,HB2.out⟩
 ·have h2:1≤t.k:=by omega
  have h3: ¬t.k≤6:=by omega
  go_enter Tryz.func80,Tryz.ntmps80
  go_wp2
  go_ret
  first|exact⟨rfl,HB.out⟩|exact⟨rfl,HB2.out⟩
theorem begin_fine (d:Nat) (t:Tk3) (w:World) (rb n:Nat) (T:List Tk3) (h:RdM w rb T n) (hk:t.k=1) (hd:d≤4) (hn:n<300):Calls Tryz.prog 46 #[.pointer (some ⟨rb,0,none⟩),tkA t, .int .i64 (d:Int)] w fun e w'=>e= .returned (.tuple #[])∧RdM w' rb T (n+1)∧OnlyO rb (fun i=>i=rb) w w':=by
 obtain⟨v,hv,hw⟩:=h
 obtain⟨B,W,hB,hW,V,hb,_⟩:=tok_box w t
 have hr:rb<B:=hB▸hv.s
 have R:=hv.after hb
 have HFIN:Hid (RdM (W.setCell ⟨rb,1,none⟩ (.int .i64 ((n+1:Nat):Int))) rb T (n+1)∧OnlyO rb (fun i=>i=rb) w (W.setCell ⟨rb,1,none⟩ (.int .i64 ((n+1:Nat):Int)))):=by
  have O:OnlyO rb (fun i=>i=rb) w (W.setCell ⟨rb,1,none⟩ (.int .i64 ((n+1:Nat):Int))):=(OnlyO.of (base:=rb) (O:=fun i=>i=rb) hb (by omega)).set rfl (Mz _) _ _
  refine Lh ⟨⟨v,R.set1 _,hw.keep (fun _ h=>h) (fun b (hb2:b<rb)=>O.keep b (by omega) (by omega))⟩,O⟩
 have r1:=R.c1
 have f1:=R.q1
 have hne: ¬rb=B:=by omega
 obtain⟨c0,c1,c2,c3,c4,_,_⟩:=V
 obtain⟨k,s,m,x,y⟩:=t
 simp only at hk
 subst hk
 have hd': ¬(4:Int)<(d:Int):=by omega
 have hn':((n:Int)==300)=false:=by simp;omega
 have hi1:IntKind.i64.wrap ((n:Int)+1)=((n+1:Nat):Int):=by rw[IntKind.wrap_i64];omega
 unfold tkA
 clear hb R hv hw hn hd hr
 go_enter Tryz.func46,Tryz.ntmps46
 go_wp2
 first|go_end0|refine bodyPost_ret (results_none rfl _ _ _) rfl ?_
 exact⟨rfl,HFIN.out⟩
theorem begin_form (d:Nat) (t:Tk3) (w:World) (rb:Nat) (hk:t.k≠1):Calls Tryz.prog 46 #[.pointer (some ⟨rb,0,none⟩),tkA t, .int .i64 (d:Int)] w fun e w'=>e=flies 6 t.a t.b∧Below w.heap.size w w':=by
 obtain⟨B,W,hB,hW,V,hb,_⟩:=tok_box w t
 have HB:=Lh hb
 have HF:=Lh (fail_any 6 t W)
 obtain⟨c0,c1,c2,c3,c4,_,_⟩:=V
 unfold tkA flies at HF
 unfold tkA
 have hkb:(t.k !=1)=true:=by simpa using hk
 clear hb hk
 go_enter Tryz.func46,Tryz.ntmps46
 go_wp2_with (go_at_call 79;(with_reducible refine(HF.out).mono ?_);rintro e w1 ⟨rfl,g1⟩;have G1:=Lh (below_step HB.out g1);clear g1)
 exact⟨rfl,rfl,G1.out⟩
theorem begin_deep (d:Nat) (t:Tk3) (w:World) (rb:Nat) (hk:t.k=1) (hd:4<d):Calls Tryz.prog 46 #[.pointer (some ⟨rb,0,none⟩),tkA t, .int .i64 (d:Int)] w fun e w'=>e=flies 19 t.a t.b∧Below w.heap.size w w':=by
 obtain⟨B,W,hB,hW,V,hb,_⟩:=tok_box w t
 have HB:=Lh hb
 have HF:=Lh (fail_any 19 t W)
 obtain⟨c0,c1,c2,c3,c4,_,_⟩:=V
 unfold tkA flies at HF
 unfold tkA
 have hkb:(t.k !=1)=false:=by simpa using hk
 have hd':(4:Int)<(d:Int):=by omega
 clear hb hk hd
 go_enter Tryz.func46,Tryz.ntmps46
 go_wp2_with (go_at_call 79;(with_reducible refine(HF.out).mono ?_);rintro e w1 ⟨rfl,g1⟩;have G1:=Lh (below_step HB.out g1);clear g1)
 exact⟨rfl,rfl,G1.out⟩
theorem begin_long (d:Nat) (t:Tk3) (w:World) (rb:Nat) (T:List Tk3) (h:RdM w rb T 300) (hk:t.k=1) (hd:d≤4):Calls Tryz.prog 46 #[.pointer (some ⟨rb,0,none⟩),tkA t, .int .i64 (d:Int)] w fun e w'=>e=flies 9 t.a t.b∧Below w.heap.size w w':=by
 obtain⟨v,hv,_⟩:=h
 obtain⟨B,W,hB,hW,V,hb,_⟩:=tok_box w t
 have HB:=Lh hb
 have HF:=Lh (fail_any 9 t W)
 have r1:=(hv.after hb).c1
 have r1':W.cell? ⟨rb,1,none⟩=some (.int .i64 300):=r1
 obtain⟨c0,c1,c2,c3,c4,_,_⟩:=V
 unfold tkA flies at HF
 unfold tkA
 have hkb:(t.k !=1)=false:=by simpa using hk
 have hd': ¬(4:Int)<(d:Int):=by omega
 clear hb hk hd hv r1
 go_enter Tryz.func46,Tryz.ntmps46
 go_wp2_with (go_at_call 79;(with_reducible refine(HF.out).mono ?_);rintro e w1 ⟨rfl,g1⟩;have G1:=Lh (below_step HB.out g1);clear g1)
 exact⟨rfl,rfl,G1.out⟩
end
end Go.Proofs.YtalcagmhdppdjaaGreatDoor
