/-
  Package scan's Tokens, walked.
-/
import Derived.Test.YtalcagmhdppdjaaGreatDoorPkCompileTurns07
set_option maxRecDepth 100000
set_option maxHeartbeats 16000000
namespace Go.Proofs.YtalcagmhdppdjaaGreatDoor
open Lib renaming hid→Lh
open Go.RowKit.Below renaming refl→Mj
open List renaming getD_eq_getElem?_getD→Mk,length_cons→Jq,mem_cons_of_mem→Jy,mem_cons_self→Jz
open Or renaming inr→Mx,inl→My
open Nat renaming le_refl→Mz,le_trans→Kz
open World renaming cell?_of_block→Kk
section
structure Tk3 where
 k:Int:=0
 s:ByteArray:=⟨#[]⟩
 n:Int:=0
 a:Int:=0
 b:Int:=0
inductive It where
 |mk (name:ByteArray) (words:List Tk3) (block:Bool) (kids:List It) (a b:Int):It
instance:Inhabited It:=⟨.mk ⟨#[]⟩ [] false [] 0 0⟩
def It.name:It→ByteArray| .mk n _ _ _ _ _=>n
def It.words:It→List Tk3| .mk _ w _ _ _ _=>w
def It.block:It→Bool| .mk _ _ k _ _ _=>k
def It.kids:It→List It| .mk _ _ _ l _ _=>l
def It.a:It→Int| .mk _ _ _ _ a _=>a
def It.b:It→Int| .mk _ _ _ _ _ b=>b
def cntL:List It→Nat
 | []=>0
 | .mk _ _ _ kids _ _::l=>1+cntL kids+cntL l
def depL:List It→Nat
 | []=>0
 | .mk _ _ _ kids _ _::l=>max (1+depL kids) (depL l)
def Tk3.bare (t:Tk3):Tk3:= { t with a:=0,b:=0 }
def bareL:List It→List It
 | []=> []
 | .mk n w k kids _ _::l=> .mk n (w.map Tk3.bare) k (bareL kids) 0 0::bareL l
def toksL:List It→List Tk3
 | []=> []
 | .mk n w k kids a b::l=> { k:=1,s:=n,a:=a,b:=b } ::(w++(if k then { k:=7 } ::(toksL kids++ [{ k:=8 }])else [{ k:=9 }]))++toksL l
structure Hd where
 name:ByteArray:=⟨#[]⟩
 words:List Tk3:= []
 a:Int:=0
 b:Int:=0
def Hd.it (h:Hd) (block:Bool) (kids:List It):It:= .mk h.name h.words block kids h.a h.b
def pushS (x:It):List (Hd×List It)→List (Hd×List It)
 | []=> []
 |(h,l)::st=>(h,l++ [x])::st
def popS:List (Hd×List It)→List (Hd×List It)
 | []=> []
 |(h,l)::st=>pushS (h.it true l) st
def trF:List Tk3→List (Hd×List It)→Nat→Option Hd→Except (Int×Int×Int) (List It)
 | [],_,_,_=> .ok []
 |t::T,st,n,some h=>
  if t.k=9 then trF T (pushS (h.it false []) st) n none
  else if t.k=7 then trF T ((h,[])::st) n none
  else if t.k<1∨6<t.k then .error (6,t.a,t.b)
  else if 6≤h.words.length then .error (9,t.a,t.b)
  else trF T st n (some { h with words:=h.words++ [t] })
 |t::T,st,n,none=>
  if t.k=8∧2≤st.length then trF T (popS st) n none
  else if t.k=0∧st.length=1 then .ok (st.headD ({},[])).2
  else if t.k≠1 then .error (6,t.a,t.b)
  else if 5≤st.length then .error (19,t.a,t.b)
  else if 300≤n then .error (9,t.a,t.b)
  else trF T st (n+1) (some { name:=t.s,a:=t.a,b:=t.b })
theorem cntL_app (l m:List It):cntL (l++m)=cntL l+cntL m:=by
 induction l with
 |nil=>simp[cntL]
 |cons x l ih=>obtain⟨n,w,k,kids,a,b⟩:=x;simp only[List.cons_append,cntL,ih];omega
theorem depL_app (l m:List It):depL (l++m)=max (depL l) (depL m):=by
 induction l with
 |nil=>simp[depL]
 |cons x l ih=>obtain⟨n,w,k,kids,a,b⟩:=x;simp only[List.cons_append,depL,ih];omega
theorem bareL_app (l m:List It):bareL (l++m)=bareL l++bareL m:=by
 induction l with
 |nil=>simp[bareL]
 |cons x l ih=>obtain⟨n,w,k,kids,a,b⟩:=x;simp only[List.cons_append,bareL,ih]
def cntS:List (Hd×List It)→Nat
 | []=>0
 |(_,l)::st=>cntL l+(if st= []then 0 else 1)+cntS st
def depS:List (Hd×List It)→Nat
 | []=>0
 |(_,l)::st=>max (st.length+depL l) (depS st)
def oneO (o:Option Hd):Nat:=if o.isSome then 1 else 0
def depO (st:List (Hd×List It)) (o:Option Hd):Nat:=if o.isSome then max st.length (depS st)else depS st
theorem cntS_push (x:It) {st:List (Hd×List It)} (h:st≠ []):cntS (pushS x st)=cntS st+cntL [x]:=by
 cases st with
 |nil=>exact(h rfl).elim
 |cons y st=>obtain⟨hd,l⟩:=y;simp only[pushS,cntS,cntL_app];omega
theorem push_ne (x:It) {st:List (Hd×List It)} (h:st≠ []):pushS x st≠ []:=by
 cases st with
 |nil=>exact(h rfl).elim
 |cons y st=>obtain⟨hd,l⟩:=y;simp[pushS]
theorem depS_push (x:It) {st:List (Hd×List It)} (h:st≠ []):depS (pushS x st)=max (st.length-1+depL [x]) (depS st):=by
 cases st with
 |nil=>exact(h rfl).elim
 |cons y st=>obtain⟨hd,l⟩:=y;simp only[pushS,depS,depL_app,Jq];omega
theorem cntL_one (h:Hd) (k:Bool) (l:List It):cntL [h.it k l]=1+cntL l:=by simp[Hd.it,cntL]
theorem depL_one (h:Hd) (k:Bool) (l:List It):depL [h.it k l]=1+depL l:=by simp[Hd.it,depL]
def underS:List (Hd×List It)→List (Hd×List It)→List (Hd×List It)
 | [],K=>K
 | [(_,M)],K=>match K with
  | []=> []
  |(h,l)::R=>(h,l++M)::R
 |x::y::st,K=>x::underS (y::st) K
theorem under_len: ∀ {st K:List (Hd×List It)},st≠ []→K≠ []→(underS st K).length=st.length+K.length-1
 | [],_,h,_=>(h rfl).elim
 | [(_,M)],[],_,h=>(h rfl).elim
 | [(_,M)],(h,l)::R,_,_=>by simp[underS]
 |x::y::st,K,_,hK=>by
  have:=under_len (st:=y::st) (K:=K) (by simp) hK
  simp only[underS,Jq]at this ⊢
  omega
theorem under_push (x:It): ∀ {st K:List (Hd×List It)},st≠ []→K≠ []→underS (pushS x st) K=pushS x (underS st K)
 | [],_,h,_=>(h rfl).elim
 | [(_,M)],[],_,h=>(h rfl).elim
 | [(_,M)],(h,l)::R,_,_=>by simp[underS,pushS]
 |(hd,l)::y::st,K,_,hK=>by simp[underS,pushS]
theorem under_cons (x:Hd×List It) {st K:List (Hd×List It)} (h:st≠ []):underS (x::st) K=x::underS st K:=by
 cases st with
 |nil=>exact(h rfl).elim
 |cons y st=>rfl
theorem trF_step {t:Tk3} {T:List Tk3} {st:List (Hd×List It)} {n:Nat} {o:Option Hd} {L:List It} (h0:t.k≠0) (h:trF (t::T) st n o= .ok L):
  (∃hd,o=some hd∧t.k=9∧trF T (pushS (hd.it false []) st) n none= .ok L)∨(∃hd,o=some hd∧t.k=7∧trF T ((hd,[])::st) n none= .ok L)∨
  (∃hd,o=some hd∧1≤t.k∧t.k≤6∧hd.words.length<6∧trF T st n (some { hd with words:=hd.words++ [t] })= .ok L)∨
  (o=none∧t.k=8∧∃hd l y st',st=(hd,l)::y::st'∧trF T (pushS (hd.it true l) (y::st')) n none= .ok L)∨
  (o=none∧t.k=1∧st.length≤4∧n<300∧trF T st (n+1) (some { name:=t.s,a:=t.a,b:=t.b })= .ok L):=by
 cases o with
 |some hd=>
  rw[trF]at h
  by_cases h9:t.k=9
  ·rw[if_pos h9]at h;exact My ⟨hd,rfl,h9,h⟩
  rw[if_neg h9]at h
  by_cases h7:t.k=7
  ·rw[if_pos h7]at h;exact Mx (My ⟨hd,rfl,h7,h⟩)
  rw[if_neg h7]at h
  by_cases hw:t.k<1∨6<t.k
  ·rw[if_pos hw]at h;cases h
  rw[if_neg hw]at h
  by_cases hl:6≤hd.words.length
  ·rw[if_pos hl]at h;cases h
  rw[if_neg hl]at h
  exact Mx (Mx (My ⟨hd,rfl,by omega,by omega,by omega,h⟩))
 |none=>
  rw[trF]at h
  by_cases h8:t.k=8∧2≤st.length
  ·rw[if_pos h8]at h
   match st,h8,h with
   |(hd,l)::y::st',h8,h=>exact Mx (Mx (Mx (My ⟨rfl,h8.1,hd,l,y,st',rfl,h⟩)))
   | [_],h8,_=>exact absurd h8.2 (by simp)
   | [],h8,_=>exact absurd h8.2 (by simp)
  rw[if_neg h8,if_neg (fun e=>h0 e.1)]at h
  by_cases h1:t.k=1
  ·rw[if_neg (by omega)]at h
   by_cases h5:5≤st.length
   ·rw[if_pos h5]at h;cases h
   rw[if_neg h5]at h
   by_cases h3:300≤n
   ·rw[if_pos h3]at h;cases h
   rw[if_neg h3]at h
   exact Mx (Mx (Mx (Mx ⟨rfl,h1,by omega,by omega,h⟩)))
  ·rw[if_pos h1]at h;cases h
theorem trF_last {e:Tk3} (he:e.k=0) {st:List (Hd×List It)} {n:Nat} {o:Option Hd} {L:List It} (h:trF [e] st n o= .ok L):o=none∧∃h0,st= [(h0,L)]:=by
 cases o with
 |some hd=>
  rw[trF,if_neg (by omega),if_neg (by omega),if_pos (by omega)]at h;cases h
 |none=>
  rw[trF,if_neg (by omega)]at h
  by_cases h1:st.length=1
  ·rw[if_pos ⟨he,h1⟩]at h
   match st,h1,h with
   | [(h0,M)],_,h=>
    refine⟨rfl,h0,?_⟩
    injection h with h
    rw[←h];rfl
  ·rw[if_neg (fun x=>h1 x.2),if_pos (by omega)]at h;cases h
theorem run_more {e:Tk3} (he:e.k=0): ∀(T:List Tk3) (st:List (Hd×List It)) (n:Nat) (o:Option Hd) (L:List It),
  (∀t∈T,t.k≠0)→st≠ []→cntS st+oneO o=n→trF (T++ [e]) st n o= .ok L→n≤cntL L∧depO st o≤depL L
 | [],st,n,o,L,_,_,hc,h=>by
  obtain⟨rfl,h0,rfl⟩:=trF_last he h
  simp[cntS,oneO]at hc
  simp[depO,depS];omega
 |t::T,st,n,o,L,hT,hs,hc,h=>by
  have ih:=run_more he T
  have hT2: ∀t∈T,t.k≠0:=fun x hx=>hT x (Jy _ hx)
  have h0:=hT t (Jz ..)
  rcases trF_step h0 h with⟨hd,rfl,_,h⟩|⟨hd,rfl,_,h⟩|⟨hd,rfl,_,_,_,h'⟩|⟨rfl,_,hd,l,y,st',rfl,h'⟩|⟨rfl,_,_,_,h⟩
  ·have:=ih _ n none L hT2 (push_ne _ hs) (by rw[cntS_push _ hs,cntL_one];simp[oneO,cntL]at hc ⊢;omega) h
   simp only[depO,Option.isSome_none,Option.isSome_some,if_true,Bool.false_eq_true,if_false]at this ⊢
   rw[depS_push _ hs,depL_one]at this
   simp[depL]at this
   have hp:0<st.length:=List.length_pos_iff.mpr hs
   omega
  ·have:=ih _ n none L hT2 (by simp) (by simp[cntS,cntL,oneO,hs]at hc ⊢;omega) h
   simp only[depO,Option.isSome_none,Option.isSome_some,if_true,Bool.false_eq_true,if_false,depS]at this ⊢
   simp[depL]at this
   omega
  ·exact ih _ n (some { hd with words:=hd.words++ [t] }) L hT2 hs hc h'
  ·have hy:(y::st')≠ []:=by simp
   have:=ih _ n none L hT2 (push_ne _ hy) (by rw[cntS_push _ hy,cntL_one];simp[oneO,cntS]at hc ⊢;omega) h'
   simp only[depO,Option.isSome_none,Bool.false_eq_true,if_false]at this ⊢
   rw[depS_push _ hy,depL_one]at this
   rw[depS]
   simp only[Jq]at this ⊢
   omega
  ·have:=ih _ (n+1) _ L hT2 hs (by simp[oneO]at hc ⊢;omega) h
   simp only[depO,Option.isSome_none,Option.isSome_some,if_true,Bool.false_eq_true,if_false]at this ⊢
   omega
theorem ctx_run {K:List (Hd×List It)} (hK:K≠ []) (c:Nat) (T':List Tk3) (e:Tk3) (he:e.k=0): ∀(T:List Tk3) (st:List (Hd×List It)) (n:Nat) (o:Option Hd) (L:List It),
  (∀t∈T,t.k≠0)→st≠ []→cntS st+oneO o=n→n+c≤300→depO st o+(K.length-1)≤4→trF (T++ [e]) st n o= .ok L→
  (trF (T++T') (underS st K) (n+c) o=trF T' (underS [({},L)] K) (cntL L+c) none∧cntL L+c≤300∧depL L+(K.length-1)≤4)∨
  (∃a b,trF (T++T') (underS st K) (n+c) o= .error (9,a,b)∧300<cntL L+c)∨
  (∃a b,trF (T++T') (underS st K) (n+c) o= .error (19,a,b)∧4<depL L+(K.length-1))
 | [],st,n,o,L,_,hs,hc,hn,hd,h=>by
  obtain⟨rfl,h0,rfl⟩:=trF_last he h
  refine My ⟨?_,?_,?_⟩
  ·have e1:n=cntL L:=by simp[cntS,oneO]at hc;omega
   rw[e1]
   have e2:underS [(h0,L)] K=underS [({},L)] K:=by cases K<;>rfl
   rw[e2];rfl
  ·simp[cntS,oneO]at hc;omega
  ·simp[depO,depS]at hd;omega
 |t::T,st,n,o,L,hT,hs,hc,hn,hd,h=>by
  have ih:=ctx_run hK c T' e he T
  have hT2: ∀t∈T,t.k≠0:=fun x hx=>hT x (Jy _ hx)
  have h0:=hT t (Jz ..)
  have hp:0<st.length:=List.length_pos_iff.mpr hs
  have hkp:0<K.length:=List.length_pos_iff.mpr hK
  rcases trF_step h0 h with⟨hd',rfl,hk,h⟩|⟨hd',rfl,hk,h⟩|⟨hd',rfl,hk1,hk2,hl,h'⟩|⟨rfl,hk,hd',l,y,st',rfl,h'⟩|⟨rfl,hk,hl4,hn3,h⟩
  ·have:=ih _ n none L hT2 (push_ne _ hs) (by rw[cntS_push _ hs,cntL_one];simp[oneO,cntL]at hc ⊢;omega) hn (by
    simp only[depO,Option.isSome_none,Option.isSome_some,if_true,Bool.false_eq_true,if_false]at hd ⊢
    rw[depS_push _ hs,depL_one]
    simp[depL]
    omega) h
   rw[under_push _ hs hK]at this
   rw[List.cons_append,trF,if_pos hk]
   exact this
  ·have:=ih _ n none L hT2 (by simp) (by simp[cntS,cntL,oneO,hs]at hc ⊢;omega) hn (by
    simp only[depO,Option.isSome_none,Option.isSome_some,if_true,Bool.false_eq_true,if_false,depS]at hd ⊢
    simp[depL]
    omega) h
   rw[under_cons _ hs]at this
   rw[List.cons_append,trF,if_neg (by omega),if_pos hk]
   exact this
  ·have:=ih _ n (some { hd' with words:=hd'.words++ [t] }) L hT2 hs hc hn hd h'
   rw[List.cons_append,trF,if_neg (by omega),if_neg (by omega),if_neg (by omega),if_neg (by omega)]
   exact this
  ·have hy:(y::st')≠ []:=by simp
   have:=ih _ n none L hT2 (push_ne _ hy) (by rw[cntS_push _ hy,cntL_one];simp[oneO,cntS]at hc ⊢;omega) hn (by
    simp only[depO,Option.isSome_none,Bool.false_eq_true,if_false]at hd ⊢
    rw[depS_push _ hy,depL_one]
    rw[depS]at hd
    simp only[Jq]at hd ⊢
    omega) h'
   rw[under_push _ hy hK]at this
   have hul:=under_len (st:=y::st') (K:=K) hy hK
   have e1:underS ((hd',l)::y::st') K=(hd',l)::underS (y::st') K:=rfl
   rw[e1,List.cons_append,trF,if_pos ⟨hk,by simp only[Jq]at hul ⊢;omega⟩]
   exact this
  ·have hm:=run_more he T st (n+1) _ L hT2 hs (by simp[oneO]at hc ⊢;omega) h
   simp only[depO,Option.isSome_some,if_true]at hm
   have hul:=under_len hs hK
   rw[List.cons_append,trF,if_neg (by omega),if_neg (by omega),if_neg (by omega)]
   by_cases h5:5≤(underS st K).length
   ·rw[if_pos h5]
    exact Mx (Mx ⟨_,_,rfl,by omega⟩)
   rw[if_neg h5]
   by_cases h3:300≤n+c
   ·rw[if_pos h3]
    exact Mx (My ⟨_,_,rfl,by omega⟩)
   rw[if_neg h3]
   have:=ih st (n+1) _ L hT2 hs (by simp[oneO]at hc ⊢;omega) (by omega) (by
    simp only[depO,Option.isSome_none,Option.isSome_some,if_true,Bool.false_eq_true,if_false]at hd ⊢
    omega) h
   have e1:n+c+1=n+1+c:=by omega
   rw[e1]
   exact this
end
section
def Hd.bare (h:Hd):Hd:= { h with words:=h.words.map Tk3.bare,a:=0,b:=0 }
def bareS (st:List (Hd×List It)):List (Hd×List It):=st.map fun x=>(x.1.bare,bareL x.2)
def bareE:Except (Int×Int×Int) (List It)→Except (Int×Int×Int) (List It)
 | .ok L=> .ok (bareL L)
 | .error (c,_,_)=> .error (c,0,0)
theorem bare_it (h:Hd) (k:Bool) (l:List It):bareL [h.it k l]= [h.bare.it k (bareL l)]:=by simp[Hd.it,Hd.bare,bareL]
theorem bareL_nil:bareL []= []:=by simp[bareL]
theorem bare_push (h:Hd) (k:Bool) (l:List It) (st:List (Hd×List It)):bareS (pushS (h.it k l) st)=pushS (h.bare.it k (bareL l)) (bareS st):=by
 cases st with
 |nil=>rfl
 |cons x st=>
  simp only[pushS,bareS,List.map_cons,bareL_app]
  rw[bare_it]
theorem bare_pop (st:List (Hd×List It)):bareS (popS st)=popS (bareS st):=by
 cases st with
 |nil=>rfl
 |cons x st=>exact bare_push _ _ _ _
theorem trF_bare: ∀(T:List Tk3) (st:List (Hd×List It)) (n:Nat) (o:Option Hd),trF (T.map Tk3.bare) (bareS st) n (o.map Hd.bare)=bareE (trF T st n o)
 | [],_,_,_=>by simp[trF,bareE,bareL]
 |t::T,st,n,some h=>by
  rw[List.map_cons,Option.map_some,trF,trF]
  have hk:t.bare.k=t.k:=rfl
  rw[hk]
  by_cases h9:t.k=9
  ·rw[if_pos h9,if_pos h9,←trF_bare T,bare_push,bareL_nil];rfl
  rw[if_neg h9,if_neg h9]
  by_cases h7:t.k=7
  ·rw[if_pos h7,if_pos h7,←trF_bare T]
   show _=trF _ ((h.bare,bareL [])::bareS st) n none
   rw[bareL_nil]
  rw[if_neg h7,if_neg h7]
  by_cases hw:t.k<1∨6<t.k
  ·rw[if_pos hw,if_pos hw];rfl
  rw[if_neg hw,if_neg hw]
  have hl:h.bare.words.length=h.words.length:=by simp[Hd.bare]
  rw[hl]
  by_cases h6:6≤h.words.length
  ·rw[if_pos h6,if_pos h6];rfl
  rw[if_neg h6,if_neg h6,←trF_bare T]
  congr 1
  simp[Hd.bare]
 |t::T,st,n,none=>by
  rw[List.map_cons,Option.map_none,trF,trF]
  have hk:t.bare.k=t.k:=rfl
  have hl:(bareS st).length=st.length:=by simp[bareS]
  rw[hk,hl]
  by_cases h8:t.k=8∧2≤st.length
  ·rw[if_pos h8,if_pos h8,←trF_bare T,bare_pop];rfl
  rw[if_neg h8,if_neg h8]
  by_cases h0:t.k=0∧st.length=1
  ·rw[if_pos h0,if_pos h0]
   match st,h0 with
   | [(hd,l)],_=>rfl
  rw[if_neg h0,if_neg h0]
  by_cases h1:t.k≠1
  ·rw[if_pos h1,if_pos h1];rfl
  rw[if_neg h1,if_neg h1]
  by_cases h5:5≤st.length
  ·rw[if_pos h5,if_pos h5];rfl
  rw[if_neg h5,if_neg h5]
  by_cases h3:300≤n
  ·rw[if_pos h3,if_pos h3];rfl
  rw[if_neg h3,if_neg h3,←trF_bare T]
  rfl
def Hd.toks (h:Hd):List Tk3:= { k:=1,s:=h.name,a:=h.a,b:=h.b } ::h.words
def toksO:Option Hd→List Tk3
 |none=> []
 |some h=>h.toks
def toksS:List (Hd×List It)→List Tk3
 | []=> []
 |(h,l)::st=>toksS st++(if st= []then []else h.toks++ [{ k:=7 }])++toksL l
def Tk3.norm (t:Tk3):Tk3:=if t.k≤6 then t else { t with a:=0,b:=0 }
structure Tk3.Ok (t:Tk3):Prop where
 name:t.k=1→t.n=0
 mark:6<t.k→t.s=⟨#[]⟩∧t.n=0
end
section
theorem tokF_one_step {l:List Int} {i:Nat} (hi:i<l.length):
  ((gapB ((l.drop i).getD 0 0)=true∨(l.drop i).getD 0 0=35)∧tokF l i=tokF l (i+pieceN (l.drop i)))∨
  (gapB ((l.drop i).getD 0 0)=false∧(l.drop i).getD 0 0≠35∧tokF l i=if(tokP ((l.drop i).take (pieceN (l.drop i)))).2=0 then(tokF l (i+pieceN (l.drop i))).map (fun L=>((tokP ((l.drop i).take (pieceN (l.drop i)))).1,i)::L)else .error (i,(tokP ((l.drop i).take (pieceN (l.drop i)))).2)):=by
 have h0:(l.drop i).getD 0 0=l.getD i 0:=by
  rw[Mk,List.getElem?_drop,Mk];rfl
 rw[h0]
 by_cases h35:l.getD i 0=35
 ·exact My ⟨Mx h35,tokF_skip hi (Mx h35)⟩
 cases hg:gapB (l.getD i 0)with
 |true=>exact My ⟨My rfl,tokF_skip hi (My hg)⟩
 |false=>exact Mx ⟨rfl,h35,tokF_piece hi hg h35⟩
def laterE (k:Nat):Except (Nat×Int) (List (TkV×Nat))→Except (Nat×Int) (List (TkV×Nat))
 | .ok L=> .ok (L.map fun x=>(x.1,x.2+k))
 | .error (i,c)=> .error (i+k,c)
end
section
structure TkGood (t:TkV):Prop where
 some:t.kind≠0
 name:t.kind=1→t.n=0
 mark:6<t.kind→t.text= []∧t.n=0
theorem numT_good {k:Nat} {p:Nat×Int} (h1:k≠0) (h2:k≠1) (h3:k≤6) (h:(numT k p).2=0):TkGood (numT k p).1:=by
 unfold numT at h ⊢
 split
 ·exact⟨h1,fun e=>(h2 e).elim,fun e=>absurd e (by simp only;omega)⟩
 ·rename_i hn;rw[if_neg hn]at h;exact(hn h).elim
theorem valF_good {l:List Int} (h:(valF l).2=0):TkGood (valF l).1:=by
 by_cases h1:l= []∨digitB (l.getD 0 0)=false
 ·by_cases hn:NameL l
  ·rw[valF_name h1 hn];exact⟨fun e=>(by cases e),fun _=>rfl,fun e=>absurd e (by simp)⟩
  ·rw[valF_none h1 hn]at h;cases h
 by_cases h2:AllD (textR l)
 ·rw[valF_count h1 h2]at h ⊢;exact numT_good (by decide) (by decide) (by decide) h
 by_cases h3:(textR l).getD ((textR l).length-1) 0=37
 ·rw[valF_share h1 h2 h3]at h ⊢;exact numT_good (by decide) (by decide) (by decide) h
 by_cases h4:46∈textR l
 ·rw[valF_factor h1 h2 h3 h4]at h ⊢;exact numT_good (by decide) (by decide) (by decide) h
 ·rw[valF_span h1 h2 h3 h4]at h ⊢;exact numT_good (by decide) (by decide) (by decide) h
theorem tokP_good {p:List Int} (h:(tokP p).2=0):TkGood (tokP p).1:=by
 unfold tokP at h ⊢
 split
 ·exact⟨fun e=>(by cases e),fun e=>(by cases e),fun _=>⟨rfl,rfl⟩⟩
 split
 ·exact⟨fun e=>(by cases e),fun e=>(by cases e),fun _=>⟨rfl,rfl⟩⟩
 split
 ·exact⟨fun e=>(by cases e),fun e=>(by cases e),fun _=>⟨rfl,rfl⟩⟩
 split
 ·rename_i a b c d
  rw[if_neg a,if_neg b,if_neg c,if_pos d]at h
  split
  ·exact⟨fun e=>(by cases e),fun e=>(by cases e),fun e=>absurd e (by simp)⟩
  ·rename_i hn;rw[if_neg hn]at h;exact(hn h).elim
 ·rename_i a b c d
  rw[if_neg a,if_neg b,if_neg c,if_neg d]at h
  exact valF_good h
theorem tokF_good (l:List Int): ∀(n i:Nat) (L:List (TkV×Nat)),l.length-i≤n→tokF l i= .ok L→∀x∈L,TkGood x.1
 |n,i,L,hn,h=>by
  by_cases hi:i<l.length
  ·match n,hn with
   |0,hn=>omega
   |n+1,hn=>
    have hb:=pieceN_bd (m:=l.drop i) (by rw[List.length_drop];omega)
    rcases tokF_one_step hi with⟨_,e⟩|⟨_,_,e⟩
    ·rw[e]at h
     exact tokF_good l n _ L (by omega) h
    ·rw[e]at h
     by_cases hc:(tokP ((l.drop i).take (pieceN (l.drop i)))).2=0
     ·rw[if_pos hc]at h
      cases hr:tokF l (i+pieceN (l.drop i))with
      |error x=>rw[hr]at h;cases h
      |ok L2=>
       rw[hr]at h
       have el:L=((tokP ((l.drop i).take (pieceN (l.drop i)))).1,i)::L2:=by injection h with h;exact h.symm
       intro x hx
       rw[el]at hx
       rcases List.mem_cons.mp hx with rfl|hx
       ·exact tokP_good hc
       ·exact tokF_good l n _ L2 (by omega) hr x hx
     ·rw[if_neg hc]at h;cases h
  ·rw[tokF_end (by omega)]at h
   injection h with h
   subst h
   intro x hx;cases hx
def tk3 (l:List Int) (p:TkV×Nat):Tk3:= { k:=(p.1.kind:Int),s:=strOfNums p.1.text,n:=(p.1.n:Int),a:=(spotAt l p.2).1,b:=(spotAt l p.2).2 }
theorem tk3_good {l:List Int} {x:TkV×Nat} (h:TkGood x.1):(tk3 l x).k≠0∧(tk3 l x).Ok:=by
 refine⟨?_,?_,?_⟩
 ·have:=h.some;show(x.1.kind:Int)≠0;omega
 ·intro e
  have e2:(x.1.kind:Int)=1:=e
  have:=h.name (by omega)
  show(x.1.n:Int)=0;omega
 ·intro e
  have e2:6<(x.1.kind:Int):=e
  have:=h.mark (by omega)
  exact⟨by show strOfNums x.1.text=_;rw[this.1];rfl,by show(x.1.n:Int)=0;omega⟩
noncomputable def treF (l:List Int):Except (Int×Int×Int) (List It):=match tokF l 0 with
 | .error (k,c)=> .error (c,(spotAt l k).1,(spotAt l k).2)
 | .ok L=>trF (L.map (tk3 l)++ [tk3 l (tk0,l.length)]) [({},[])] 0 none
theorem treF_bad {l:List Int} {k:Nat} {c:Int} (h:tokF l 0= .error (k,c)):treF l= .error (c,(spotAt l k).1,(spotAt l k).2):=by unfold treF;rw[h]
theorem treF_fine {l:List Int} {L:List (TkV×Nat)} (h:tokF l 0= .ok L):treF l=trF (L.map (tk3 l)++ [tk3 l (tk0,l.length)]) [({},[])] 0 none:=by unfold treF;rw[h]
theorem treF_toks {l:List Int} {I:List It} (h:treF l= .ok I): ∃L,tokF l 0= .ok L∧trF (L.map (tk3 l)++ [tk3 l (tk0,l.length)]) [({},[])] 0 none= .ok I:=by
 cases ht:tokF l 0 with
 |error x=>obtain⟨k,c⟩:=x;rw[treF_bad ht]at h;cases h
 |ok L=>rw[treF_fine ht]at h;exact⟨L,rfl,h⟩
theorem cntL_bare: ∀L:List It,cntL (bareL L)=cntL L
 | []=>by simp[bareL]
 | .mk n w k kids a b::L=>by rw[bareL,cntL,cntL,cntL_bare kids,cntL_bare L]
theorem depL_bare: ∀L:List It,depL (bareL L)=depL L
 | []=>by simp[bareL]
 | .mk n w k kids a b::L=>by rw[bareL,depL,depL,depL_bare kids,depL_bare L]
def tkB (t:TkV):Tk3:= { k:=(t.kind:Int),s:=strOfNums t.text,n:=(t.n:Int) }
theorem bare_toks (l:List Int) (L:List (TkV×Nat)):(L.map (tk3 l)).map Tk3.bare=L.map (fun x=>tkB x.1):=by
 rw[List.map_map];rfl
theorem tre_bare {l:List Int} {L:List (TkV×Nat)} (hL:tokF l 0= .ok L):trF (L.map (fun x=>tkB x.1)++ [tkB tk0]) [({},[])] 0 none=bareE (treF l):=by
 rw[treF_fine hL,←trF_bare]
 have:bareS [({},[])]= [({},[])]:=by simp[bareS,bareL,Hd.bare]
 rw[List.map_append,bare_toks,this];rfl
theorem run_ok {T:List Tk3} {e:Tk3} (he:e.k=0) (hT: ∀t∈T,t.k≠0) {I:List It} (h:trF (T++ [e]) [({},[])] 0 none= .ok I):cntL I≤300∧depL I≤4:=by
 have hu:underS [(({} :Hd),([]:List It))] [({},[])]= [({},[])]:=rfl
 rcases ctx_run (K:= [({},[])]) (by simp) 0 [e] e he T [({},[])] 0 none I hT (by simp) (by simp[cntS,cntL,oneO]) (by omega) (by simp[depO,depS,depL]) h with⟨_,h1,h2⟩|⟨a,b,h1,_⟩|⟨a,b,h1,_⟩
 ·simp at h2;omega
 ·rw[hu,Nat.add_zero,h]at h1;cases h1
 ·rw[hu,Nat.add_zero,h]at h1;cases h1
theorem tkB_some {l:List Int} {L:List (TkV×Nat)} (hL:tokF l 0= .ok L): ∀t∈L.map (fun x=>tkB x.1),t.k≠0:=fun t ht=>by
 obtain⟨x,hx,rfl⟩:=List.mem_map.mp ht
 have:=(tokF_good l _ _ L (Mz _) hL x hx).some
 show(x.1.kind:Int)≠0;omega
theorem tre_few {l:List Int} {I:List It} (h:treF l= .ok I):cntL I≤300∧depL I≤4:=by
 obtain⟨L,hL,_⟩:=treF_toks h
 have hb:=tre_bare hL
 rw[h]at hb
 have:=run_ok (e:=tkB tk0) rfl (tkB_some hL) hb
 rw[cntL_bare,depL_bare]at this
 exact this
end
section
def TEnd (T:List Tk3):Prop:= ∃T1 e,T=T1++ [e]∧e.k=0∧∀t∈T1,t.k≠0
theorem TEnd.split {T:List Tk3} (h:TEnd T): ∃t T',T=t::T'∧(t.k=0∧T'= []∨t.k≠0∧TEnd T'):=by
 obtain⟨T1,e,rfl,he,h1⟩:=h
 cases T1 with
 |nil=>exact⟨e,[],rfl,My ⟨he,rfl⟩⟩
 |cons t T1=>exact⟨t,T1++ [e],rfl,Mx ⟨h1 t (Jz ..),T1,e,rfl,he,fun x hx=>h1 x (Jy _ hx)⟩⟩
def LRun (d:Nat) (T0:List Tk3) (n0:Nat) (acc:List It) (T:List Tk3) (n:Nat):Prop:= ∀h l R,R.length+1=d→trF T0 ((h,l)::R) n0 none=trF T ((h,l++acc)::R) n none
def LBad (d:Nat) (T0:List Tk3) (n0:Nat) (c a b:Int):Prop:= ∀h l R,R.length+1=d→trF T0 ((h,l)::R) n0 none= .error (c,a,b)
def LDone (d:Nat) (T0:List Tk3) (n0:Nat) (L:List It) (T:List Tk3) (n:Nat):Prop:=
 (d=1→∀h l,trF T0 [(h,l)] n0 none= .ok (l++L))∧(∀h l y R,R.length+2=d→trF T0 ((h,l)::y::R) n0 none=trF T (pushS (h.it true (l++L)) (y::R)) n none)
def IRun (d:Nat) (hd:Hd) (T0:List Tk3) (n0:Nat) (x:It) (T:List Tk3) (n:Nat):Prop:= ∀h l R,R.length+1=d→trF T0 ((h,l)::R) n0 (some hd)=trF T ((h,l++ [x])::R) n none
def IPart (d:Nat) (hd:Hd) (T0:List Tk3) (hd':Hd) (T:List Tk3):Prop:= ∀n h l R,R.length+1=d→trF T0 ((h,l)::R) n (some hd)=trF T ((h,l)::R) n (some hd')
def IBad (d:Nat) (hd:Hd) (T0:List Tk3) (n0:Nat) (c a b:Int):Prop:= ∀h l R,R.length+1=d→trF T0 ((h,l)::R) n0 (some hd)= .error (c,a,b)
theorem LRun.start (d:Nat) (T:List Tk3) (n:Nat):LRun d T n [] T n:=fun h l R _=>by rw[List.append_nil]
theorem IPart.start (d:Nat) (hd:Hd) (T:List Tk3):IPart d hd T hd T:=fun _ _ _ _ _=>rfl
theorem IPart.word {d:Nat} {hd hd':Hd} {T0 T:List Tk3} {t:Tk3} (h:IPart d hd T0 hd' (t::T)) (h1:1≤t.k) (h2:t.k≤6) (h3:hd'.words.length<6):IPart d hd T0 { hd' with words:=hd'.words++ [t] } T:=fun n x l R hR=>by
 rw[h n x l R hR,trF,if_neg (by omega),if_neg (by omega),if_neg (by omega),if_neg (by omega)]
theorem IPart.long {d n:Nat} {hd hd':Hd} {T0 T:List Tk3} {t:Tk3} (h:IPart d hd T0 hd' (t::T)) (h1:1≤t.k) (h2:t.k≤6) (h3:6≤hd'.words.length):IBad d hd T0 n 9 t.a t.b:=fun x l R hR=>by
 rw[h n x l R hR,trF,if_neg (by omega),if_neg (by omega),if_neg (by omega),if_pos h3]
theorem IPart.form {d n:Nat} {hd hd':Hd} {T0 T:List Tk3} {t:Tk3} (h:IPart d hd T0 hd' (t::T)) (h1:t.k<1∨6<t.k) (h2:t.k≠9) (h3:t.k≠7):IBad d hd T0 n 6 t.a t.b:=fun x l R hR=>by
 rw[h n x l R hR,trF,if_neg h2,if_neg h3,if_pos h1]
theorem IPart.stop {d n:Nat} {hd hd':Hd} {T0 T:List Tk3} {t:Tk3} (h:IPart d hd T0 hd' (t::T)) (h1:t.k=9):IRun d hd T0 n (hd'.it false []) T n:=fun x l R hR=>by
 rw[h n x l R hR,trF,if_pos h1];rfl
theorem IPart.block {d n n':Nat} {hd hd':Hd} {T0 T T':List Tk3} {t:Tk3} {L:List It} (h:IPart d hd T0 hd' (t::T)) (h1:t.k=7) (hL:LDone (d+1) T n L T' n'):IRun d hd T0 n (hd'.it true L) T' n':=fun x l R hR=>by
 rw[h n x l R hR,trF,if_neg (by omega),if_pos h1,hL.2 hd' [] (x,l) R (by omega)];rfl
theorem IPart.bad {d n:Nat} {hd hd':Hd} {T0 T:List Tk3} {t:Tk3} {c a b:Int} (h:IPart d hd T0 hd' (t::T)) (h1:t.k=7) (hL:LBad (d+1) T n c a b):IBad d hd T0 n c a b:=fun x l R hR=>by
 rw[h n x l R hR,trF,if_neg (by omega),if_pos h1]
 exact hL hd' [] ((x,l)::R) (by simp only[Jq];omega)
def endK (d:Nat):Int:=if d=1 then 0 else 8
theorem LRun.more {d n0 n n':Nat} {T0 T T':List Tk3} {acc:List It} {t:Tk3} {x:It} (h:LRun d T0 n0 acc (t::T) n) (hk:t.k=1) (hd:d≤4) (hn:n<300) (hi:IRun d { name:=t.s,a:=t.a,b:=t.b } T (n+1) x T' n'):LRun d T0 n0 (acc++ [x]) T' n':=fun y l R hR=>by
 rw[h y l R hR,trF,if_neg (by omega),if_neg (by omega),if_neg (by omega),if_neg (by simp only[Jq];omega),if_neg (by omega),hi y (l++acc) R hR,List.append_assoc]
theorem LRun.bad {d n0 n:Nat} {T0 T:List Tk3} {acc:List It} {t:Tk3} {c a b:Int} (h:LRun d T0 n0 acc (t::T) n) (hk:t.k=1) (hd:d≤4) (hn:n<300) (hi:IBad d { name:=t.s,a:=t.a,b:=t.b } T (n+1) c a b):LBad d T0 n0 c a b:=fun y l R hR=>by
 rw[h y l R hR,trF,if_neg (by omega),if_neg (by omega),if_neg (by omega),if_neg (by simp only[Jq];omega),if_neg (by omega),hi y (l++acc) R hR]
theorem LRun.form {d n0 n:Nat} {T0 T:List Tk3} {acc:List It} {t:Tk3} (h:LRun d T0 n0 acc (t::T) n) (he:t.k≠endK d) (hk:t.k≠1):LBad d T0 n0 6 t.a t.b:=fun y l R hR=>by
 unfold endK at he
 rw[h y l R hR,trF,if_neg (by simp only[Jq];rintro⟨e1,e2⟩;rw[if_neg (by omega)]at he;exact he e1),if_neg (by simp only[Jq];rintro⟨e1,e2⟩;rw[if_pos (by omega)]at he;exact he e1),if_pos hk]
theorem LRun.deep {d n0 n:Nat} {T0 T:List Tk3} {acc:List It} {t:Tk3} (h:LRun d T0 n0 acc (t::T) n) (hk:t.k=1) (hd:4<d):LBad d T0 n0 19 t.a t.b:=fun y l R hR=>by
 rw[h y l R hR,trF,if_neg (by omega),if_neg (by omega),if_neg (by omega),if_pos (by simp only[Jq];omega)]
theorem LRun.long {d n0 n:Nat} {T0 T:List Tk3} {acc:List It} {t:Tk3} (h:LRun d T0 n0 acc (t::T) n) (hk:t.k=1) (hd:d≤4) (hn:300≤n):LBad d T0 n0 9 t.a t.b:=fun y l R hR=>by
 rw[h y l R hR,trF,if_neg (by omega),if_neg (by omega),if_neg (by omega),if_neg (by simp only[Jq];omega),if_pos hn]
theorem LRun.done {d n0 n:Nat} {T0 T:List Tk3} {acc:List It} {t:Tk3} (h:LRun d T0 n0 acc (t::T) n) (he:t.k=endK d):LDone d T0 n0 acc T n:=by
 refine⟨fun h1 y l=>?_,fun y l z R hR=>?_⟩
 ·unfold endK at he
  rw[if_pos h1]at he
  rw[h y l [] (by simpa using h1.symm),trF,if_neg (by omega),if_pos ⟨he,rfl⟩];rfl
 ·unfold endK at he
  rw[if_neg (by omega)]at he
  rw[h y l (z::R) (by simp only[Jq];omega),trF,if_pos ⟨he,by simp⟩];rfl
theorem LDone.all {T0 T:List Tk3} {n:Nat} {L:List It} (h:LDone 1 T0 0 L T n):trF T0 [({},[])] 0 none= .ok L:=h.1 rfl {} []
theorem LBad.all {T0:List Tk3} {c a b:Int} (h:LBad 1 T0 0 c a b):trF T0 [({},[])] 0 none= .error (c,a,b):=h {} [] [] rfl
end
section
open Go.RowKit
def lenV:Value→Nat
 | .string s=>s.size
 |_=>0
theorem ptoks_results {W:World} {g:Nat} {x y z u:Value} {tmps:Array Value} (h:Var3 W g x y z) (h2:tmps.getD 3 undef= .pointer (some ⟨g,0,none⟩)) (h3:tmps.getD 2 undef=u):(results Tryz.f28 tmps).run Tryz.prog W= .ok (.tuple #[u, .agg #[x,y,z]]) W:=by
 have e:(asAddr (Value.pointer (some ⟨g,0,none⟩))).run Tryz.prog W= .ok ⟨g,0,none⟩ W:=rfl
 have hr:Tryz.f28.results= #[.tmp 2, .cell 3 41]:=rfl
 have q2:tmps[3]?.getD undef= .pointer (some ⟨g,0,none⟩):=by simpa using h2
 have q3:tmps[2]?.getD undef=u:=by simpa using h3
 simp only[results,hr]
 simp[Sem.run_bind,Result.andThen,q2,q3,e,load_fault h]
theorem Var3.hold {W W':World} {p:Nat} {x y z:Value} (h:Var3 W p x y z) (e:W'.heap[p]?=W.heap[p]?) (hs:W.heap.size≤W'.heap.size):Var3 W' p x y z:=
 ⟨(Kk e).trans h.c0,(Kk e).trans h.c1,(Kk e).trans h.c2,(World.frozen?_of_block e).trans h.q0,(World.frozen?_of_block e).trans h.q1,(World.frozen?_of_block e).trans h.q2,Nat.lt_of_lt_of_le h.s hs⟩
theorem put2_else (W:World) (r:Nat) (x y:Value) (j:Nat) (h:j≠r):(put2 W r x y).heap[j]?=W.heap[j]?:=by
 unfold put2
 rw[sset_else _ _ _ _ _ h,sset_else _ _ _ _ _ h]
theorem put2_size (W:World) (r:Nat) (x y:Value):(put2 W r x y).heap.size=W.heap.size:=by unfold put2;simp
theorem RowK.put2 {t:TypeId} {sz:Nat} {w:World} {base p:Nat} {v:Value} {vs:List (List Value)} (h:RowK t sz w base v vs) (hp:p<base) (x y:Value):RowK t sz (put2 w p x y) base v vs:=
 h.kept fun b hb=>put2_else _ _ _ _ _ (by have:=(h.lt hb).1;omega)
structure TkM (w:World) (B:Nat) (l:List Int) (i:Nat) (acc:List (TkV×Nat)) (v:Value) (wr:World):Prop where
 row:RowK 78 5 wr (B+2) v (toksV l acc)
 at_:Var2 wr (B+1) (.int .i64 (spotAt l i).1) (.int .i64 (spotAt l i).2)
 res:Var3 wr B (.int .i64 0) (.int .i64 0) (.int .i64 0)
 bel:Below B w wr
 size:B+2≤wr.heap.size
 few:acc.length≤i
 ahead:Ahead l i acc
theorem TkM.after {w wr w':World} {B:Nat} {l:List Int} {i:Nat} {acc:List (TkV×Nat)} {v:Value} (h:TkM w B l i acc v wr) (hb:Below wr.heap.size wr w'):TkM w B l i acc v w':=
 ⟨h.row.below hb,h.at_.after hb,h.res.after hb,h.bel.trans (hb.mono (by have:=h.size;omega)),Kz h.size hb.size,h.few,h.ahead⟩
theorem TkM.skip {w wr:World} {B:Nat} {l:List Int} {i k:Nat} {acc:List (TkV×Nat)} {v:Value} (h:TkM w B l i acc v wr) (e:tokF l i=tokF l (i+k)):TkM w B l (i+k) acc v (put2 wr (B+1) (.int .i64 (spotAt l (i+k)).1) (.int .i64 (spotAt l (i+k)).2)):=
 ⟨h.row.put2 (by omega) _ _,h.at_.put _ _,h.res.hold (put2_else _ _ _ _ _ (by omega)) (by rw[put2_size];exact Mz _),below_put2 h.bel (by omega) _ _,by rw[put2_size];exact h.size,Kz h.few (by omega),h.ahead.same e⟩
theorem ptoks_long (s:ByteArray) (w:World) (hm:40000<s.size):
  Calls Tryz.prog 28 #[.string s] w fun e w'=>e= .returned (.tuple #[.slice none 0 0, .agg #[.int .i64 9, .int .i64 1, .int .i64 1]])∧Below w.heap.size w w':=by
 obtain⟨B,hB⟩: ∃B,w.heap.size=B:=⟨_,rfl⟩
 obtain⟨W0,hW0⟩: ∃W,w.alloc (.cells #[.int .i64 0, .int .i64 0, .int .i64 0] 41)=W:=⟨_,rfl⟩
 have V0:Var3 W0 B (.int .i64 0) (.int .i64 0) (.int .i64 0):=by rw[←hW0];exact Var3.fresh _ _ _ _ _ _ hB.symm
 have g0:Below B w W0:=by rw[←hW0,←hB];exact(Mj _ _).alloc (Mz _) _
 have hs0:W0.heap.size=B+1:=by rw[←hW0];simp[hB]
 obtain⟨W1,hW1⟩: ∃W,W0.alloc (.cells #[.int .i64 0, .int .i64 0] 39)=W:=⟨_,rfl⟩
 have V1:Var3 W1 B (.int .i64 0) (.int .i64 0) (.int .i64 0):=by rw[←hW1];exact V0.alloc _
 have U1:Var2 W1 (B+1) (.int .i64 0) (.int .i64 0):=by rw[←hW1];exact Var2.fresh _ _ _ _ _ hs0.symm
 have g1:Below B w W1:=by rw[←hW1];exact g0.alloc (by omega) _
 obtain⟨W2,hW2⟩: ∃W,put2 W1 (B+1) (.int .i64 1) (.int .i64 1)=W:=⟨_,rfl⟩
 have U2:Var2 W2 (B+1) (.int .i64 1) (.int .i64 1):=by rw[←hW2];exact U1.put _ _
 have V2:Var3 W2 B (.int .i64 0) (.int .i64 0) (.int .i64 0):=by rw[←hW2];exact V1.hold (put2_else _ _ _ _ _ (by omega)) (by rw[put2_size];exact Mz _)
 have g2:Below B w W2:=by rw[←hW2];exact below_put2 g1 (by omega) _ _
 have hW2':(W1.setCell ⟨B+1,0,none⟩ (.int .i64 1)).setCell ⟨B+1,1,none⟩ (.int .i64 1)=W2:=hW2
 have HV:=Lh V2
 have HG:=Lh g2
 have HB:=Lh hB
 have c0:=U1.c0;have c1:=U1.c1;have q0:=U1.q0;have q1:=U1.q1
 have d0:=U2.c0;have d1:=U2.c1
 have e0:=V2.c0;have e1:=V2.c1;have e2:=V2.c2;have r0:=V2.q0;have r1:=V2.q1;have r2:=V2.q2
 have hm':(40000:Int)<(s.size:Int):=by omega
 clear hm V0 g0 V1 U1 g1 U2 V2 g2 hW2
 go_enter Tryz.func28,Tryz.ntmps28
 go_wp2
 go_region
 go_wp2
 refine bodyPost_ret (ptoks_results (x:= .int .i64 9) (y:= .int .i64 1) (z:= .int .i64 1) (u:= .slice none 0 0) ((HV.out.put _ _ _).after ((Mj _ _).drew)) rfl rfl) rfl ?_
 exact⟨rfl,HB.out▸(below_put3 HG.out (Mz _) _ _ _).drew⟩
structure TokMade (w4:World) (g:Nat) (k:Int) (S:ByteArray) (n X Y:Int) (W5 W6 W7 W8:World):Prop where
 g0:w4.heap.size=g
 a5:w4.alloc (.cells #[.int .i64 0, .string ⟨#[]⟩, .int .u64 0, .int .i64 0, .int .i64 0] 78)=W5
 s6:(((((W5.setCell ⟨g,0,none⟩ (.int .i64 k)).setCell ⟨g,1,none⟩ (.string S)).setCell ⟨g,2,none⟩ (.int .u64 n)).setCell ⟨g,3,none⟩ (.int .i64 0)).setCell ⟨g,4,none⟩ (.int .i64 0))=W6
 s7:((W6.setCell ⟨g,3,none⟩ (.int .i64 X)).setCell ⟨g,4,none⟩ (.int .i64 Y))=W7
 a8:W7.alloc (.cells #[.int .i64 k, .string S, .int .u64 n, .int .i64 X, .int .i64 Y] 78)=W8
 f5:Var5 W5 g (.int .i64 0) (.string ⟨#[]⟩) (.int .u64 0) (.int .i64 0) (.int .i64 0)
 f6:Var5 W6 g (.int .i64 k) (.string S) (.int .u64 n) (.int .i64 0) (.int .i64 0)
 f7:Var5 W7 g (.int .i64 k) (.string S) (.int .u64 n) (.int .i64 X) (.int .i64 Y)
 b6:Below w4.heap.size w4 W6
 b8:Below w4.heap.size w4 W8
 z7:W7.heap.size=g+1
 c8: ∀j,j<5→W8.cell? ⟨g+1,j,none⟩=some (([.int .i64 k, .string S, .int .u64 n, .int .i64 X, .int .i64 Y]:List Value).getD j undef)
theorem tok_made (w4:World) (k:Int) (S:ByteArray) (n X Y:Int): ∃g W5 W6 W7 W8,TokMade w4 g k S n X Y W5 W6 W7 W8:=by
 obtain⟨g,hg⟩: ∃g,w4.heap.size=g:=⟨_,rfl⟩
 obtain⟨W5,hW5⟩: ∃W,w4.alloc (.cells #[.int .i64 0, .string ⟨#[]⟩, .int .u64 0, .int .i64 0, .int .i64 0] 78)=W:=⟨_,rfl⟩
 have h5:Below w4.heap.size w4 W5:=by rw[←hW5];exact(Mj _ _).alloc (Mz _) _
 have F5:Var5 W5 g (.int .i64 0) (.string ⟨#[]⟩) (.int .u64 0) (.int .i64 0) (.int .i64 0):=by rw[←hW5];exact Var5.fresh _ _ _ _ _ _ _ _ hg.symm
 obtain⟨W6,hW6⟩: ∃W,(((((W5.setCell ⟨g,0,none⟩ (.int .i64 k)).setCell ⟨g,1,none⟩ (.string S)).setCell ⟨g,2,none⟩ (.int .u64 n)).setCell ⟨g,3,none⟩ (.int .i64 0)).setCell ⟨g,4,none⟩ (.int .i64 0))=W:=⟨_,rfl⟩
 have F6:Var5 W6 g (.int .i64 k) (.string S) (.int .u64 n) (.int .i64 0) (.int .i64 0):=by rw[←hW6];exact F5.put _ _ _ _ _
 have h6:Below w4.heap.size w4 W6:=by rw[←hW6];exact below_put5 h5 (by omega) _ _ _ _ _
 obtain⟨W7,hW7⟩: ∃W,((W6.setCell ⟨g,3,none⟩ (.int .i64 X)).setCell ⟨g,4,none⟩ (.int .i64 Y))=W:=⟨_,rfl⟩
 have F7:Var5 W7 g (.int .i64 k) (.string S) (.int .u64 n) (.int .i64 X) (.int .i64 Y):=by rw[←hW7];exact F6.put34 _ _
 have h7:Below w4.heap.size w4 W7:=by rw[←hW7];exact(h6.setCell (by show w4.heap.size≤g;omega) _).setCell (by show w4.heap.size≤g;omega) _
 have z7:W7.heap.size=g+1:=by rw[←hW7,←hW6,←hW5];simp[hg]
 obtain⟨W8,hW8⟩: ∃W,W7.alloc (.cells #[.int .i64 k, .string S, .int .u64 n, .int .i64 X, .int .i64 Y] 78)=W:=⟨_,rfl⟩
 have h8:Below w4.heap.size w4 W8:=by rw[←hW8];exact h7.alloc (by omega) _
 exact⟨g,W5,W6,W7,W8,hg,hW5,hW6,hW7,hW8,F5,F6,F7,h6,h8,z7,by rw[←z7];exact tok_cells (by rw[←hW8];simp) (by rw[←hW8];simp) (by rw[←hW8];simp) (by rw[←hW8];simp) (by rw[←hW8];simp)⟩
theorem TkM.more {w W8 w' w9:World} {B:Nat} {l:List Int} {i k:Nat} {acc:List (TkV×Nat)} {v v':Value} {t:TkV} (h:TkM w B l i acc v W8) (hr:RowK 78 5 w' (B+2) v' (toksV l (acc++ [(t,i)]))) (hb:Below (B+2) W8 w') (h9:Below w'.heap.size w' w9)
  (hk:1≤k) (e:tokF l i=(tokF l (i+k)).map (fun L=>(t,i)::L)):TkM w B l (i+k) (acc++ [(t,i)]) v' (put2 w9 (B+1) (.int .i64 (spotAt l (i+k)).1) (.int .i64 (spotAt l (i+k)).2)):=by
 have hs:=h.size
 have a1:Var2 w' (B+1) (.int .i64 (spotAt l i).1) (.int .i64 (spotAt l i).2):=h.at_.hold (hb.block (B+1) (by omega)) hb.size
 have r1:Var3 w' B (.int .i64 0) (.int .i64 0) (.int .i64 0):=h.res.hold (hb.block B (by omega)) hb.size
 have s1:B+2≤w'.heap.size:=Kz hs hb.size
 have b1:Below B w w':=h.bel.trans (hb.mono (by omega))
 have b9:Below B w w9:=b1.trans (h9.mono (by omega))
 exact⟨(hr.below h9).put2 (by omega) _ _,(a1.after h9).put _ _,(r1.after h9).hold (put2_else _ _ _ _ _ (by omega)) (by rw[put2_size];exact Mz _),below_put2 b9 (by omega) _ _,by rw[put2_size];exact Kz s1 h9.size,by rw[List.length_append,List.length_singleton];have:=h.few;omega,h.ahead.more e⟩
theorem size_of_runes {s:ByteArray} :s.size=0↔runesOf (nums s)= []:=by
 constructor
 ·intro h
  have hn:nums s= []:=List.eq_nil_of_length_eq_zero (by rw[nums_length];exact h)
  rw[hn,runes_nil]
 ·intro h
  refine Classical.byContradiction fun hn=>?_
  have:=(first_is (nums_ne (s:=s) (by omega)) (nums_byte s)).1
  rw[h]at this
  cases this
theorem ptoks_any (s:ByteArray) (w:World) (env:Env w) (hm:s.size≤40000):Calls Tryz.prog 28 #[.string s] w (GivesToks (runesOf (nums s)) w):=by
 obtain⟨B,hB⟩: ∃B,w.heap.size=B:=⟨_,rfl⟩
 obtain⟨W0,hW0⟩: ∃W,w.alloc (.cells #[.int .i64 0, .int .i64 0, .int .i64 0] 41)=W:=⟨_,rfl⟩
 have V0:Var3 W0 B (.int .i64 0) (.int .i64 0) (.int .i64 0):=by rw[←hW0];exact Var3.fresh _ _ _ _ _ _ hB.symm
 have g0:Below B w W0:=by rw[←hW0,←hB];exact(Mj _ _).alloc (Mz _) _
 have hs0:W0.heap.size=B+1:=by rw[←hW0];simp[hB]
 obtain⟨W1,hW1⟩: ∃W,W0.alloc (.cells #[.int .i64 0, .int .i64 0] 39)=W:=⟨_,rfl⟩
 have V1:Var3 W1 B (.int .i64 0) (.int .i64 0) (.int .i64 0):=by rw[←hW1];exact V0.alloc _
 have U1:Var2 W1 (B+1) (.int .i64 0) (.int .i64 0):=by rw[←hW1];exact Var2.fresh _ _ _ _ _ hs0.symm
 have g1:Below B w W1:=by rw[←hW1];exact g0.alloc (by omega) _
 have hs1:W1.heap.size=B+2:=by rw[←hW1];simp[hs0]
 obtain⟨l,hl⟩: ∃l,runesOf (nums s)=l:=⟨_,rfl⟩
 obtain⟨W2,hW2⟩: ∃W,put2 W1 (B+1) (.int .i64 1) (.int .i64 1)=W:=⟨_,rfl⟩
 have hW2':(W1.setCell ⟨B+1,0,none⟩ (.int .i64 1)).setCell ⟨B+1,1,none⟩ (.int .i64 1)=W2:=hW2
 have M2:TkM w B l 0 [] (.slice none 0 0) W2:=by
  rw[←hW2]
  exact⟨RowK.nil _ _ _ _,U1.put _ _,V1.hold (put2_else _ _ _ _ _ (by omega)) (by rw[put2_size];exact Mz _),below_put2 g1 (by omega) _ _,by rw[put2_size,hs1];exact Mz _,Mz _,Ahead.zero l⟩
 have HM2:=Lh M2
 have HB:=Lh hB
 have HENV:=Lh env
 have hll:=runes_le (nums s)
 rw[nums_length,hl]at hll
 have HLL:Hid (l.length≤40000):=Lh (by omega)
 have HR0:Hid (runesOf (nums s)=l.drop 0):=Lh (by rw[hl];rfl)
 have HLB:Hid (∀z∈l,True):=Lh (fun _ _=>trivial)
 have c0:=U1.c0;have c1:=U1.c1;have q0:=U1.q0;have q1:=U1.q1
 have d0:=M2.at_.c0;have d1:=M2.at_.c1
 have hm': ¬(40000:Int)<(s.size:Int):=by omega
 have HM:=Lh hm
 rw[hl]
 clear hm V0 g0 V1 U1 g1 M2 hW2 env hll hl
 go_enter Tryz.func28,Tryz.ntmps28
 go_wp2
 clear c0 c1 q0 q1 d0 d1 hW2' hW1 hW0 hs0 hs1 hm' hB
 go_loopw [0,5] (fun v0 v5 wr=> ∃(i:Nat) (r:ByteArray) (acc:List (TkV×Nat)),v0= .string r∧i≤l.length∧runesOf (nums r)=l.drop i∧r.size≤40000∧TkM w B l i acc v5 wr) (fun v0 _ _=>lenV v0)
 case atStart=>exact⟨0,s,[],rfl,Nat.zero_le _,HR0.out,HM.out,HM2.out⟩
 case round=>
  obtain⟨i,r,acc,rfl,hi,hr,hrs,hM⟩:=hrel
  have M:=Lh hM
  have HR:=Lh hr
  have HI:=Lh hi
  have HRS:=Lh hrs
  have HSP:=Lh (spot_bd (l:=l) i hi)
  obtain⟨X,hX⟩: ∃X,(spotAt l i).1=X:=⟨_,rfl⟩
  obtain⟨Y,hY⟩: ∃Y,(spotAt l i).2=Y:=⟨_,rfl⟩
  have HX:=Lh hX
  have HY:=Lh hY
  clear hM hr hi hX hY
  by_cases h0:r.size=0
  ·have hil:Hid (i=l.length):=Lh (by
    have h1:=HR.out
    rw[size_of_runes.mp h0]at h1
    have:=congrArg List.length h1
    rw[List.length_drop]at this
    have:=HI.out
    simp at*;omega)
   have hre:=empty_of h0
   have HF:Hid (tokF l 0= .ok acc):=Lh (M.out.ahead.fine (tokF_end (by rw[hil.out];exact Mz _)))
   have y0:=M.out.at_.c0
   have y1:=M.out.at_.c1
   rw[HX.out]at y0
   rw[HY.out]at y1
   subst hre
   obtain⟨g,hg⟩: ∃g,wr.heap.size=g:=⟨_,rfl⟩
   obtain⟨W8,hW8⟩: ∃W,wr.alloc (.cells #[.int .i64 0, .string ⟨#[]⟩, .int .u64 0, .int .i64 X, .int .i64 Y] 78)=W:=⟨_,rfl⟩
   have h8:Below wr.heap.size wr W8:=by rw[←hW8];exact(Mj _ _).alloc (Mz _) _
   have CA:Hid (∀j,j<5→W8.cell? ⟨g,j,none⟩=some ((tkC l (tk0,i)).getD j undef)):=Lh (by rw[←hg];unfold tkC;rw[HX.out,HY.out];exact tok_cells (by rw[←hW8];simp;rfl) (by rw[←hW8];simp;rfl) (by rw[←hW8];simp;rfl) (by rw[←hW8];simp) (by rw[←hW8];simp))
   have M8:=Lh (M.out.after h8)
   have S8:Hid (B+2≤W8.heap.size):=Lh M8.out.size
   have HL6:Hid ((toksV l acc).length≤1000000):=Lh (by rw[toksV_len];have:=M.out.few;have:=HI.out;have:=HLL.out;omega)
   clear h8 h0 hrs
   go_wp2_with (at_builtin;(refine wp_rowK (T:=45) (t:=78) (sz:=5) rfl _ _ rfl Tryz.underlying45 info_tok rfl (by decide) (by decide) (B+2) _ _ rfl M8.out.row g (tkC l (tk0,i)) rfl rfl CA.out (tkC_one _ _) HL6.out S8.out ?_))
   intro v' w' hr' ho' hob
   have R9:Hid (RowK 78 5 w' (B+2) v' (toksV l (acc++ [(tk0,i)]))):=Lh (by rw[toksV_more];exact hr')
   have V9:=Lh (M8.out.res.hold (ho'.bel.block B (by omega)) ho'.bel.size)
   have G9:Hid (Below B w w'):=Lh (M8.out.bel.trans (ho'.bel.mono (by omega)))
   obtain⟨c0,c1,c2,q0,q1,q2,s9⟩:=V9.out
   clear hr' ho' hob CA S8
   go_wp2
   refine bodyPost_ret (ptoks_results (x:= .int .i64 0) (y:= .int .i64 0) (z:= .int .i64 0) (u:=v') (V9.out.put _ _ _) rfl rfl) rfl ?_
   refine⟨HB.out▸below_put3 G9.out (Mz _) _ _ _,Mx ⟨acc,v',HF.out,rfl,?_⟩⟩
   rw[←hil.out,HB.out]
   refine RowK.weaken (R9.out.kept fun k hk=>?_) (Nat.le_add_right B 2)
   have hkn:k≠B:=fun e=>by
    have:=(R9.out.lt hk).1
    omega
   rw[sset_else _ _ _ _ _ hkn,sset_else _ _ _ _ _ hkn,sset_else _ _ _ _ _ hkn]
  ·have hr0:0<r.size:=by omega
   have hil:i<l.length:=by
    refine Classical.byContradiction fun hn=>h0 (size_of_runes.mpr ?_)
    rw[HR.out,List.drop_of_length_le (by omega)]
   obtain⟨k,hk⟩: ∃k,pieceN (l.drop i)=k:=⟨_,rfl⟩
   have hkb:=pieceN_bd (m:=l.drop i) (by rw[List.length_drop];omega)
   rw[hk,List.length_drop]at hkb
   have hfr:=front_is (r:=r) (k:=k) hkb.1 hr0
   obtain⟨f,hf⟩: ∃f,frontS r k=f:=⟨_,rfl⟩
   rw[hf,HR.out]at hfr
   obtain⟨hf1,hf2,hf3,hf4⟩:=hfr
   have hrest:=rest_is r k
   rw[←hf3,HR.out,List.drop_drop]at hrest
   have hp:=spiece_any r wr (HENV.out.step (HB.out.symm▸M.out.bel)) (by omega) hr0
   unfold GivesFr at hp
   rw[HR.out,hk,hf]at hp
   have hz0:(runesOf (nums f)).getD 0 0=l.getD i 0:=by
    rw[hf1,getD_take (by omega),Mk,List.getElem?_drop,Mk];rfl
   have hsb:(runesOf (nums f)).foldl spotStep (X,Y)=spotAt l (i+k):=by rw[hf1,←HX.out,←HY.out];exact spot_add l i k
   have hb:=fun W=>sbehind_any f X Y 40001 W (by omega) (by have:=HSP.out;rw[HX.out,HY.out]at this;have:=HLL.out;omega) (by decide)
   rw[hsb]at hb
   obtain⟨X2,hX2⟩: ∃X,(spotAt l (i+k)).1=X:=⟨_,rfl⟩
   obtain⟨Y2,hY2⟩: ∃Y,(spotAt l (i+k)).2=Y:=⟨_,rfl⟩
   rw[hX2,hY2]at hb
   have hgp:=fun W=>sgap_any f W hf2
   rw[hz0]at hgp
   have hpc:=tokF_piece hil
   have hsk:=tokF_skip hil
   rw[hk,←hf1]at hpc
   rw[hk]at hsk
   have hte:=toList_empty hr0
   obtain⟨te1,te2⟩:=hte
   have hFr:(f.size:Int)≤(r.size:Int):=by omega
   have HREST:=Lh hrest
   have RP:=Lh hp
   have RB:=Lh hb
   have HX2:=Lh hX2
   have HY2:=Lh hY2
   have HKB:=Lh hkb
   have HIL:=Lh hil
   have HF2:=Lh hf2
   have HF4:=Lh hf4
   have hv:(runesOf (nums f)).getD 0 0≠34→l.getD i 0≠35→valG (nums f)=valF (runesOf (nums f)):=fun e34 e35=>by
    have hd0:(l.drop i).getD 0 0=l.getD i 0:=by rw[Mk,List.getElem?_drop,Mk];rfl
    exact piece_val (m:=l.drop i) (by rw[List.length_drop];omega) (by rw[hd0];exact e35) (by rw[hd0,←hz0];exact e34) (nums_byte f) (by rw[hf1,hk])
   have HV:=Lh hv
   obtain⟨z,hz⟩: ∃z,l.getD i 0=z:=⟨_,rfl⟩
   rw[hz]at hgp hpc hsk HV
   obtain⟨q,hq⟩: ∃q,(gapB z||decide (z=35))=q:=⟨_,rfl⟩
   rw[hq]at hgp
   have RG:=Lh hgp
   clear hk hkb hf hf1 hf3 hrest hp hz0 hsb hb hX2 hY2 hgp hv hz hil hr0 h0 hrs
   cases q with
   |true=>
    have HE:Hid (tokF l i=tokF l (i+k)):=Lh (hsk (by simpa using hq))
    clear hpc hsk hq hf2 hf4
    go_wp2_with (first
     |(go_at_call 41;(with_reducible refine(RP.out).mono ?_);rintro e w1 ⟨rfl,h1⟩;have M1:=Lh (M.out.after h1);clear h1)
     |(go_at_call 42;(with_reducible refine(RG.out _).mono ?_);rintro e w2 ⟨rfl,rfl⟩;have x0:=M1.out.at_.c0;have x1:=M1.out.at_.c1;rw[HX.out]at x0;rw[HY.out]at x1)
     |(go_at_call 44;(with_reducible refine(RB.out _).mono ?_);rintro e w3 ⟨rfl,h3⟩;have M3:=Lh (M1.out.after h3);have y0:=M3.out.at_.c0;have y1:=M3.out.at_.c1;have z0:=M3.out.at_.q0;have z1:=M3.out.at_.q1;clear h3))
    go_roundw
    case rel=>
     refine⟨i+k,_,acc,rfl,by have:=HKB.out;have:=HIL.out;omega,HREST.out.1,?_,?_⟩
     ·have:=HREST.out.2
      have:=HRS.out
      show(r.extract f.size r.size).size≤40000
      omega
     ·have:=M3.out.skip HE.out
      rw[HX2.out,HY2.out]at this
      exact this
    case measure=>
     have:=HREST.out.2
     have:=HF2.out
     have:=HF4.out
     show(r.extract f.size r.size).size<r.size
     omega
   |false=>
    have hq2:gapB z=false∧z≠35:=by simpa using hq
    have hpc2:=hpc hq2.1 hq2.2
    obtain⟨tp,htp⟩: ∃p,tokP (runesOf (nums f))=p:=⟨_,rfl⟩
    obtain⟨⟨K,T,N⟩,c⟩:=tp
    rw[htp]at hpc2
    have RT:Hid (∀W,Below w.heap.size w W→Calls Tryz.prog 43 #[.string f] W fun e w'=>e= .returned (.tuple #[.agg #[.int .i64 (K:Int), .string (strOfNums T), .int .u64 (N:Int), .int .i64 0, .int .i64 0], .int .i64 c])∧Below W.heap.size W w'):=Lh (fun W hbW=>by
     have h5:=stoken_any f W (HENV.out.step hbW) (by have:=HF4.out;have:=HRS.out;omega) HF2.out (fun e34=>HV.out e34 hq2.2)
     rw[htp]at h5
     exact h5)
    obtain⟨S,hS⟩: ∃S,strOfNums T=S:=⟨_,rfl⟩
    rw[hS]at RT
    have HS:=Lh hS
    have HPC:=Lh hpc2
    clear hpc hsk hq hf2 hf4 hq2 hpc2 htp hS HV
    by_cases hc:c=0
    ·have HE:Hid (tokF l i=(tokF l (i+k)).map (fun L=>((⟨K,T,N⟩:TkV),i)::L)):=Lh (by rw[HPC.out];exact if_pos hc)
     subst hc
     have HL6:Hid ((toksV l acc).length≤1000000):=Lh (by rw[toksV_len];have:=M.out.few;have:=HI.out;have:=HLL.out;omega)
     clear HPC
     go_wp2_with (first
      |(go_at_call 41;(with_reducible refine(RP.out).mono ?_);rintro e w1 ⟨rfl,h1⟩;have M1:=Lh (M.out.after h1);clear h1)
      |(go_at_call 42;(with_reducible refine(RG.out _).mono ?_);rintro e w2 ⟨rfl,rfl⟩)
      |(go_at_call 43;(with_reducible refine(RT.out _ (HB.out.symm▸M1.out.bel)).mono ?_);rintro e w4 ⟨rfl,h4⟩;have M4:=Lh (M1.out.after h4);clear h4;obtain⟨g,W5,W6,W7,W8,tm⟩:=tok_made w4 (K:Int) S (N:Int) X Y;have hg0:=tm.g0;have ha5:=tm.a5;have hs6:=tm.s6;have hs7:=tm.s7;have ha8:=tm.a8;have hz7:=tm.z7;have M6:=Lh (M4.out.after tm.b6);have M8:=Lh (M4.out.after tm.b8);have hn1: ¬B+1=g:=(by have:=M4.out.size;omega);have hn2: ¬g=B+1:=(fun e=>hn1 e.symm);have u0:=M6.out.at_.c0;have u1:=M6.out.at_.c1;rw[HX.out]at u0;rw[HY.out]at u1;have CA:Hid (∀j,j<5→W8.cell? ⟨g+1,j,none⟩=some ((tkC l ((⟨K,T,N⟩:TkV),i)).getD j undef)):=Lh (by unfold tkC;rw[HX.out,HY.out,HS.out];exact tm.c8);have S8:Hid (B+2≤W8.heap.size):=Lh M8.out.size;have d0:=tm.f5.c0;have r0:=tm.f5.q 0;have k0:=tm.f6.c0;have m0:=tm.f6.q 0;have o0:=tm.f7.c0;have p0:=tm.f7.q 0;have d1:=tm.f5.c1;have r1:=tm.f5.q 1;have k1:=tm.f6.c1;have m1:=tm.f6.q 1;have o1:=tm.f7.c1;have p1:=tm.f7.q 1;have d2:=tm.f5.c2;have r2:=tm.f5.q 2;have k2:=tm.f6.c2;have m2:=tm.f6.q 2;have o2:=tm.f7.c2;have p2:=tm.f7.q 2;have d3:=tm.f5.c3;have r3:=tm.f5.q 3;have k3:=tm.f6.c3;have m3:=tm.f6.q 3;have o3:=tm.f7.c3;have p3:=tm.f7.q 3;have d4:=tm.f5.c4;have r4:=tm.f5.q 4;have k4:=tm.f6.c4;have m4:=tm.f6.q 4;have o4:=tm.f7.c4;have p4:=tm.f7.q 4;clear tm)
      |(at_builtin;(refine wp_rowK (T:=45) (t:=78) (sz:=5) rfl _ _ rfl Tryz.underlying45 info_tok rfl (by decide) (by decide) (B+2) _ _ rfl M8.out.row (g+1) (tkC l ((⟨K,T,N⟩:TkV),i)) rfl rfl CA.out (tkC_one _ _) HL6.out S8.out ?_)))
     intro v' w' hr' ho' hob
     have R9:Hid (RowK 78 5 w' (B+2) v' (toksV l (acc++ [((⟨K,T,N⟩:TkV),i)]))):=Lh (by rw[toksV_more];exact hr')
     have HO:=Lh ho'.bel
     have A9:Hid (Var2 w' (B+1) (.int .i64 X) (.int .i64 Y)):=Lh (by have:=M8.out.at_.hold (HO.out.block (B+1) (by omega)) HO.out.size;rw[HX.out,HY.out]at this;exact this)
     have x0:=A9.out.c0
     have x1:=A9.out.c1
     clear hr' ho' hob CA S8 hg0 ha5 hs6 hs7 ha8 hz7 u0 u1 d0 r0 k0 m0 o0 p0 d1 r1 k1 m1 o1 p1 d2 r2 k2 m2 o2 p2 d3 r3 k3 m3 o3 p3 d4 r4 k4 m4 o4 p4
     go_wp2_with (go_at_call 44;(with_reducible refine(RB.out _).mono ?_);rintro e w9 ⟨rfl,h9⟩;have H9:=Lh h9;have A10:=A9.out.after h9;have y0:=A10.c0;have y1:=A10.c1;have z0:=A10.q0;have z1:=A10.q1;clear h9 A10)
     go_roundw
     case rel=>
      refine⟨i+k,_,acc++ [((⟨K,T,N⟩:TkV),i)],rfl,by have:=HKB.out;have:=HIL.out;omega,HREST.out.1,?_,?_⟩
      ·have:=HREST.out.2
       have:=HRS.out
       show(r.extract f.size r.size).size≤40000
       omega
      ·have:=M8.out.more R9.out HO.out H9.out HKB.out.1 HE.out
       rw[HX2.out,HY2.out]at this
       exact this
     case measure=>
      have:=HREST.out.2
      have:=HF2.out
      have:=HF4.out
      show(r.extract f.size r.size).size<r.size
      omega
    ·have HE:Hid (tokF l 0= .error (i,c)):=Lh (M.out.ahead.bad (by rw[HPC.out];exact if_neg hc))
     have hcb:(c !=0)=true:=by simpa using hc
     clear HPC hc
     go_wp2_with (first
      |(go_at_call 41;(with_reducible refine(RP.out).mono ?_);rintro e w1 ⟨rfl,h1⟩;have M1:=Lh (M.out.after h1);clear h1)
      |(go_at_call 42;(with_reducible refine(RG.out _).mono ?_);rintro e w2 ⟨rfl,rfl⟩)
      |(go_at_call 43;(with_reducible refine(RT.out _ (HB.out.symm▸M1.out.bel)).mono ?_);rintro e w4 ⟨rfl,h4⟩;have M4:=Lh (M1.out.after h4);clear h4;obtain⟨g,W5,W6,W7,W8,tm⟩:=tok_made w4 (K:Int) S (N:Int) X Y;have hg0:=tm.g0;have ha5:=tm.a5;have hs6:=tm.s6;have M6:=Lh (M4.out.after tm.b6);have hn1: ¬B+1=g:=(by have:=M4.out.size;omega);have hn2: ¬g=B+1:=(fun e=>hn1 e.symm);have u0:=M6.out.at_.c0;have u1:=M6.out.at_.c1;rw[HX.out]at u0;rw[HY.out]at u1;have e0:=M6.out.res.c0;have e1:=M6.out.res.c1;have e2:=M6.out.res.c2;have f0:=M6.out.res.q0;have f1:=M6.out.res.q1;have f2:=M6.out.res.q2;have d0:=tm.f5.c0;have r0:=tm.f5.q 0;have d1:=tm.f5.c1;have r1:=tm.f5.q 1;have d2:=tm.f5.c2;have r2:=tm.f5.q 2;have d3:=tm.f5.c3;have r3:=tm.f5.q 3;have d4:=tm.f5.c4;have r4:=tm.f5.q 4;clear tm))
     clear hg0 ha5 hs6 d0 r0 d1 r1 d2 r2 d3 r3 d4 r4 hn1 hn2
     go_region
     go_wp2
     refine bodyPost_ret (ptoks_results (x:= .int .i64 c) (y:= .int .i64 X) (z:= .int .i64 Y) (u:= .slice none 0 0) ((M6.out.res.put _ _ _).after ((Mj _ _).drew)) rfl rfl) rfl ?_
     exact⟨HB.out▸(below_put3 M6.out.bel (Mz _) _ _ _).drew,My ⟨i,c,HE.out,by rw[HX.out,HY.out]⟩⟩
end
end Go.Proofs.YtalcagmhdppdjaaGreatDoor
