/-
  What is printed: its letters, its runes, how long it is, and which tokens it is: plain.
-/
import Derived.Test.YtalcagmhdppdjaaGreatDoorPkCompileTurns12
set_option maxRecDepth 100000
set_option maxHeartbeats 4000000
namespace Go.Proofs.YtalcagmhdppdjaaGreatDoor
open Lib renaming hid→Lh
open List renaming setIfInBounds_toArray→Lq,set_cons_zero→Lj,set_cons_succ→Lk,getElem?_eq_getElem→Kh,take_succ_cons→Kj,length_map→Ky,take_zero→Jh,drop_succ_cons→Jj,drop_zero→Jk
open Nat renaming reduceAdd→Lx,zero_add→Ly,le_refl→Mz,lt_of_lt_of_le→Kx,le_trans→Kz
open StepsJ renaming cons→Lz
open Act renaming put→Mq
open Go.RowKit.Below renaming refl→Mj
section
open Go.RowKit
def itemL (x:It) (wv kv:Value) (mb:Nat) (sec:ByteArray):List Value:= [.string x.name,wv, .bool x.block,kv, .int .i64 x.a, .int .i64 x.b, .map (some mb), .string sec]
theorem form_yes (x:It) (n:Nat) (bk:Bool) (w:World) (ib mb:Nat) (wa:Option Addr) (wc:Nat) (kv:Value) (sec:ByteArray) (h:VarL w ib (itemL x (.slice wa x.words.length wc) kv mb sec)) (hn:x.words.length=n∧x.block=bk):
  Calls Tryz.prog 59 #[.pointer (some ⟨ib,0,none⟩), .int .i64 (n:Int), .bool bk] w fun e w'=>e= .returned (.tuple #[])∧w'=w:=by
 have c1:=h.c 1 rfl
 have c2:=h.c 2 rfl
 rw[hn.1]at c1
 rw[hn.2]at c2
 clear h hn
 go_enter Tryz.func59,Tryz.ntmps59
 go_wp2_with (go_at_call 91;(with_reducible refine(need_yes _).mono ?_);rintro e w2 ⟨rfl,rfl⟩)
 first|go_end0|refine bodyPost_ret (results_none rfl _ _ _) rfl ?_
 exact⟨rfl,rfl⟩
theorem form_no (x:It) (n:Nat) (bk:Bool) (w:World) (ib mb:Nat) (wa:Option Addr) (wc:Nat) (kv:Value) (sec:ByteArray) (h:VarL w ib (itemL x (.slice wa x.words.length wc) kv mb sec)) (hn: ¬(x.words.length=n∧x.block=bk)):
  Calls Tryz.prog 59 #[.pointer (some ⟨ib,0,none⟩), .int .i64 (n:Int), .bool bk] w fun e w'=>e=up 6∧w'=w:=by
 have c1:=h.c 1 rfl
 have c2:=h.c 2 rfl
 obtain⟨m,hm⟩: ∃m,x.words.length=m:=⟨_,rfl⟩
 obtain⟨q,hq⟩: ∃q,x.block=q:=⟨_,rfl⟩
 rw[hm]at c1 hn
 rw[hq]at c2 hn
 clear h hm hq
 by_cases h1:m=n
 ·have h2:(q==bk)=false:=by simpa [h1] using hn
  subst h1
  clear hn
  go_enter Tryz.func59,Tryz.ntmps59
  go_wp2_with (go_at_call 91;(with_reducible refine(need_no _).mono ?_);rintro e w2 ⟨rfl,rfl⟩)
  first|exact⟨rfl,rfl⟩|exact⟨rfl,rfl,rfl⟩
 ·have h2:((m:Int)==(n:Int))=false:=by simp;omega
  clear hn h1
  go_enter Tryz.func59,Tryz.ntmps59
  go_wp2_with (go_at_call 91;(with_reducible refine(need_no _).mono ?_);rintro e w2 ⟨rfl,rfl⟩)
  first|exact⟨rfl,rfl⟩|exact⟨rfl,rfl,rfl⟩
theorem once_yes (x:It) (w:World) (ib mb:Nat) (wv kv:Value) (sec:ByteArray) (f:ByteArray→ByteArray→Nat) (h:VarL w ib (itemL x wv kv mb sec)) (hc:CntIs w mb f) (h0:f x.name ⟨#[]⟩=0):
  Calls Tryz.prog 63 #[.pointer (some ⟨ib,0,none⟩)] w fun e w'=>e= .returned (.tuple #[])∧Below w.heap.size w w':=by
 have c0:=h.c 0 rfl
 have c6:=h.c 6 rfl
 have hl: ∀q,(Instr.lookup 112 (.map (some mb)) (.agg #[.string x.name, .string ⟨#[]⟩]) false).run Tryz.prog (w.drewN q)= .ok (.int .i64 0) (w.drewN q):=fun q=>by
  have:=(hc.keep (w':=w.drewN q) (by rfl)).look x.name ⟨#[]⟩
  rw[h0]at this
  exact this
 clear h hc h0
 go_enter Tryz.func63,Tryz.ntmps63
 go_wp2
 go_quiet (fail)
 go_wp2
 first|go_end0|refine bodyPost_ret (results_none rfl _ _ _) rfl ?_
 exact⟨rfl,Go.below_drewN (Mj _ _) _⟩
theorem once_no (x:It) (w:World) (ib mb:Nat) (wv kv:Value) (sec:ByteArray) (f:ByteArray→ByteArray→Nat) (h:VarL w ib (itemL x wv kv mb sec)) (hc:CntIs w mb f) (h0:f x.name ⟨#[]⟩≠0):
  Calls Tryz.prog 63 #[.pointer (some ⟨ib,0,none⟩)] w fun e w'=>e=up 18∧Below w.heap.size w w':=by
 have c0:=h.c 0 rfl
 have c6:=h.c 6 rfl
 obtain⟨n,hf⟩: ∃n,f x.name ⟨#[]⟩=n:=⟨_,rfl⟩
 rw[hf]at h0
 have hg:(0:Int)<(n:Int):=by omega
 have hl: ∀q,(Instr.lookup 112 (.map (some mb)) (.agg #[.string x.name, .string ⟨#[]⟩]) false).run Tryz.prog (w.drewN q)= .ok (.int .i64 (n:Int)) (w.drewN q):=fun q=>by
  have:=(hc.keep (w':=w.drewN q) (by rfl)).look x.name ⟨#[]⟩
  rw[hf]at this
  exact this
 clear h hc h0 hf
 go_enter Tryz.func63,Tryz.ntmps63
 go_wp2
 go_quiet (fail)
 go_wp2
 first|exact⟨rfl,Go.below_drewN (Mj _ _) _⟩|exact⟨rfl,rfl,Go.below_drewN (Mj _ _) _⟩
theorem named_known (x:It) (s:ByteArray) (most:Int) (w:World) (ib mb:Nat) (wv kv:Value) (sec:ByteArray) (f:ByteArray→ByteArray→Nat) (h:VarL w ib (itemL x wv kv mb sec)) (hc:CntIs w mb f) (h0:f x.name s≠0):
  Calls Tryz.prog 61 #[.pointer (some ⟨ib,0,none⟩), .string s, .int .i64 most] w fun e w'=>e=up 18∧Below w.heap.size w w':=by
 have c0:=h.c 0 rfl
 have c6:=h.c 6 rfl
 obtain⟨n,hf⟩: ∃n,f x.name s=n:=⟨_,rfl⟩
 rw[hf]at h0
 have hg:(0:Int)<(n:Int):=by omega
 have hl: ∀q,(Instr.lookup 112 (.map (some mb)) (.agg #[.string x.name, .string s]) false).run Tryz.prog (w.drewN q)= .ok (.int .i64 (n:Int)) (w.drewN q):=fun q=>by
  have:=(hc.keep (w':=w.drewN q) (by rfl)).look x.name s
  rw[hf]at this
  exact this
 clear h hc h0 hf
 go_enter Tryz.func61,Tryz.ntmps61
 go_wp2
 go_quiet (fail)
 go_wp2
 first|exact⟨rfl,Go.below_drewN (Mj _ _) _⟩|exact⟨rfl,rfl,Go.below_drewN (Mj _ _) _⟩
theorem named_long (x:It) (s:ByteArray) (most n:Nat) (w:World) (ib mb:Nat) (wv kv:Value) (sec:ByteArray) (f:ByteArray→ByteArray→Nat) (h:VarL w ib (itemL x wv kv mb sec)) (hc:CntIs w mb f) (h0:f x.name s=0) (hf:f x.name ⟨#[]⟩=n) (hm:n=most):
  Calls Tryz.prog 61 #[.pointer (some ⟨ib,0,none⟩), .string s, .int .i64 (most:Int)] w fun e w'=>e=up 9∧Below w.heap.size w w':=by
 have c0:=h.c 0 rfl
 have c6:=h.c 6 rfl
 have hl: ∀q,(Instr.lookup 112 (.map (some mb)) (.agg #[.string x.name, .string s]) false).run Tryz.prog (w.drewN q)= .ok (.int .i64 0) (w.drewN q):=fun q=>by
  have:=(hc.keep (w':=w.drewN q) (by rfl)).look x.name s
  rw[h0]at this
  exact this
 have hl2: ∀q,(Instr.lookup 112 (.map (some mb)) (.agg #[.string x.name, .string ⟨#[]⟩]) false).run Tryz.prog (w.drewN q)= .ok (.int .i64 (n:Int)) (w.drewN q):=fun q=>by
  have:=(hc.keep (w':=w.drewN q) (by rfl)).look x.name ⟨#[]⟩
  rw[hf]at this
  exact this
 have hb:((n:Int)==(most:Int))=true:=by simp;omega
 clear h hc h0 hf hm
 go_enter Tryz.func61,Tryz.ntmps61
 go_wp2
 go_quiet (fail)
 go_wp2
 go_quiet (fail)
 go_wp2
 first|exact⟨rfl,Go.below_drewN (Mj _ _) _⟩|exact⟨rfl,rfl,Go.below_drewN (Mj _ _) _⟩
theorem named_yes (x:It) (s:ByteArray) (most n:Nat) (w:World) (ib mb:Nat) (wv kv:Value) (sec:ByteArray) (f:ByteArray→ByteArray→Nat) (h:VarL w ib (itemL x wv kv mb sec)) (hc:CntIs w mb f) (h0:f x.name s=0) (hf:f x.name ⟨#[]⟩=n) (hm:n≠most):
  Calls Tryz.prog 61 #[.pointer (some ⟨ib,0,none⟩), .string s, .int .i64 (most:Int)] w fun e w'=>e= .returned (.tuple #[])∧VarL w' ib (itemL x wv kv mb s)∧Frm (fun i=>i=ib) w w':=by
 have c0:=h.c 0 rfl
 have c6:=h.c 6 rfl
 have c7:=h.c 7 rfl
 have q7:=h.q 7 rfl
 have HV:=Lh h
 have hl: ∀q,(Instr.lookup 112 (.map (some mb)) (.agg #[.string x.name, .string s]) false).run Tryz.prog (w.drewN q)= .ok (.int .i64 0) (w.drewN q):=fun q=>by
  have:=(hc.keep (w':=w.drewN q) (by rfl)).look x.name s
  rw[h0]at this
  exact this
 have hl2: ∀q,(Instr.lookup 112 (.map (some mb)) (.agg #[.string x.name, .string ⟨#[]⟩]) false).run Tryz.prog (w.drewN q)= .ok (.int .i64 (n:Int)) (w.drewN q):=fun q=>by
  have:=(hc.keep (w':=w.drewN q) (by rfl)).look x.name ⟨#[]⟩
  rw[hf]at this
  exact this
 have hb:((n:Int)==(most:Int))=false:=by simp;omega
 clear h hc h0 hf hm
 go_enter Tryz.func61,Tryz.ntmps61
 go_wp2
 go_quiet (fail)
 go_wp2
 go_quiet (fail)
 go_wp2
 first|go_end0|refine bodyPost_ret (results_none rfl _ _ _) rfl ?_
 rename_i q1
 refine⟨rfl,?_,?_⟩
 ·have:=(HV.out.stay (w':=w.drewN (q1+nq)) (by rfl)).set 7 (.string s) (by simp[itemL])
  exact this
 ·exact Frm.set (O:=fun i=>i=ib) (Frm.of (Go.below_drewN (Mj _ _) _)) rfl _ _
def TCnt0 (x:It) (ib mb n m:Nat) (_:ByteArray) (f:ByteArray→ByteArray→Nat):Nat→Value→World→Prop
 |0,v,_=>v= .pointer (some ⟨ib,0,none⟩)
 |1,v,_=>v= .pointer (some ⟨ib,0,none⟩)
 |2,v,_=>v= .pointer (some ⟨ib,6,none⟩)
 |3,v,_=>v= .map (some mb)
 |4,v,_=>v= .pointer (some ⟨ib,0,none⟩)
 |5,v,_=>v= .pointer (some ⟨ib,0,none⟩)
 |6,v,_=>v= .pointer (some ⟨ib,0,none⟩)
 |7,v,_=>v= .pointer (some ⟨ib,0,none⟩)
 |8,v,_=>v= .string x.name
 |9,v,_=>v= .agg #[.string x.name, .string ⟨#[]⟩]
 |10,v,_=>v= .int .i64 (n:Int)
 |11,v,_=>v= .int .i64 (m:Int)
 |12,v,w=> ∃v0 st,v= .tuple #[v0, .int .i64 st]∧EntIs w mb f x.name ⟨#[]⟩ st
 |13,v,w=> ∃st,v= .int .i64 st∧EntIs w mb f x.name ⟨#[]⟩ st
 |_,_,_=>True
def TCnt2 (x:It) (ib mb n m:Nat) (s:ByteArray) (f:ByteArray→ByteArray→Nat):Nat→Value→World→Prop
 |0,v,_=>v= .pointer (some ⟨ib,0,none⟩)
 |1,v,_=>v= .pointer (some ⟨ib,0,none⟩)
 |2,v,_=>v= .pointer (some ⟨ib,6,none⟩)
 |3,v,_=>v= .map (some mb)
 |4,v,_=>v= .pointer (some ⟨ib,0,none⟩)
 |5,v,_=>v= .pointer (some ⟨ib,0,none⟩)
 |6,v,_=>v= .pointer (some ⟨ib,0,none⟩)
 |7,v,_=>v= .pointer (some ⟨ib,0,none⟩)
 |8,v,_=>v= .string x.name
 |9,v,_=>v= .pointer (some ⟨ib,0,none⟩)
 |10,v,_=>v= .pointer (some ⟨ib,0,none⟩)
 |11,v,_=>v= .pointer (some ⟨ib,7,none⟩)
 |12,v,_=>v= .string s
 |13,v,_=>v= .agg #[.string x.name, .string s]
 |14,v,_=>v= .int .i64 (n:Int)
 |15,v,_=>v= .int .i64 (m:Int)
 |16,v,w=> ∃v0 st,v= .tuple #[v0, .int .i64 st]∧EntIs w mb f x.name s st
 |17,v,w=> ∃st,v= .int .i64 st∧EntIs w mb f x.name s st
 |_,_,_=>True
structure JCnt (e mb:Nat) (f:ByteArray→ByteArray→Nat) (w0:World) (L:Nat→Bool) (w:World):Prop where
 frm:Frm (fun i=>i=mb) w0 w
 cnt:CntIs w mb f
 ord:L e=false→L (e+1)=false
theorem JCnt.light {e mb:Nat} {f:ByteArray→ByteArray→Nat} {w0 w:World} {L:Nat→Bool} (h:JCnt e mb f w0 L w) (j:Nat) (h1:e≠j) (h2:e+1≠j):JCnt e mb f w0 (setL L j) w:=
 ⟨h.frm,h.cnt,by rw[setL_ne L h1,setL_ne L h2];exact h.ord⟩
theorem JCnt.ext {e mb:Nat} {f:ByteArray→ByteArray→Nat} {w0 w:World} {L:Nat→Bool} (h:JCnt e mb f w0 L w) (he:L e=true):JCnt e mb f w0 (setL L (e+1)) w:=
 ⟨h.frm,h.cnt,by rw[setL_ne L (by omega),he];intro h;cases h⟩
theorem JCnt.ent {e mb:Nat} {f:ByteArray→ByteArray→Nat} {w0 w w1:World} {L:Nat→Bool} {p q:ByteArray} {st:Int} (h:JCnt e mb f w0 L w) (hE:EntIs w1 mb f p q st) (hg:w.grownBy w1 (some mb)):JCnt e mb f w0 (setL L e) w1:=
 ⟨h.frm.trans (Frm.grown hg) (Grown.refl _ _),hE.cnt,by rw[setL_self];intro h;cases h⟩
theorem count_one (x:It) (s:ByteArray) (w:World) (ib mb:Nat) (wv kv:Value) (f:ByteArray→ByteArray→Nat) (h:VarL w ib (itemL x wv kv mb s)) (hc:CntIs w mb f) (hs:s=⟨#[]⟩) (hn:f x.name ⟨#[]⟩≤1000000) (hne:ib≠mb):
  Calls Tryz.prog 58 #[.pointer (some ⟨ib,0,none⟩)] w fun e w'=>e= .returned (.tuple #[])∧CntIs w' mb (upd2 f x.name ⟨#[]⟩ (f x.name ⟨#[]⟩+1))∧Frm (fun i=>i=mb) w w':=by
 subst hs
 have HH:=Lh h
 have HC:=Lh hc
 obtain⟨n,hfn⟩: ∃n,f x.name ⟨#[]⟩=n:=⟨_,rfl⟩
 rw[hfn]at hn ⊢
 have HFN:=Lh hfn
 obtain⟨m,hm⟩: ∃m,n+1=m:=⟨_,rfl⟩
 have hw1:IntKind.i64.wrap ((n:Int)+1)=(m:Int):=by rw[IntKind.wrap_i64];omega
 rw[hm]
 have HM:=Lh hm
 have HW1:=Lh hw1
 have HNE:=Lh hne
 have HCL:Hid (∀W L,JCnt 12 mb f w L W→W.cell? ⟨ib,0,none⟩=some (.string x.name)∧W.cell? ⟨ib,6,none⟩=some (.map (some mb))∧(Instr.lookup 112 (.map (some mb)) (.agg #[.string x.name, .string ⟨#[]⟩]) false).run Tryz.prog W= .ok (.int .i64 (n:Int)) W):=Lh (fun W L hj=>by
  have hV:=hj.frm.var HH.out HNE.out
  have hC:=hj.cnt.look x.name ⟨#[]⟩
  rw[HFN.out]at hC
  exact⟨hV.c 0 rfl,hV.c 6 rfl,hC⟩)
 clear h hc hfn hw1 hn hne hm
 go_enter Tryz.func58,Tryz.ntmps58
 refine wp_seq ?_
 refine wp_region_mixj 14 (TCnt0 x ib mb n m ⟨#[]⟩ f) (JCnt 12 mb f w) (by kernel_rfl) (by kernel_rfl) ⟨Frm.of (Mj _ _).drew,HC.out.keep rfl,fun _=>rfl⟩ ?_ ?_
 ·simp only[Kj,Jh]
  refine(Lz ?_ (Lz ?_ (Lz ?_ (Lz ?_ (Lz ?_ (Lz ?_ (Lz ?_ (Lz ?_ (Lz ?_ (Lz ?_ (Lz ?_ (Lz ?_ (Lz ?_ (Lz ?_ StepsJ.nil))))))))))))))
  all_goals(intro u W L hL hj hd;simp only[putAll,Mq,Lq,Lk,Lj,Ly,Lx])
  ·have hj1:=hj.light 0 (by decide) (by decide)
   go_wp2
   first|exact hj1|exact rfl|exact⟨rfl,hj1⟩|exact⟨rfl,hj1,k4⟩|exact⟨_,rfl,rfl,hj1,k4⟩
  ·have e0:u 0= .pointer (some ⟨ib,0,none⟩):=(hd.1 rfl (by decide)).2
   rw[e0]
   have hj1:=hj.light 1 (by decide) (by decide)
   go_wp2
   first|exact hj1|exact rfl|exact⟨rfl,hj1⟩|exact⟨rfl,hj1,k4⟩|exact⟨_,rfl,rfl,hj1,k4⟩
  ·have e1:u 1= .pointer (some ⟨ib,0,none⟩):=(hd.1 rfl (by decide)).2
   rw[e1]
   have hj1:=hj.light 2 (by decide) (by decide)
   go_wp2
   first|exact hj1|exact rfl|exact⟨rfl,hj1⟩|exact⟨rfl,hj1,k4⟩|exact⟨_,rfl,rfl,hj1,k4⟩
  ·have e2:u 2= .pointer (some ⟨ib,6,none⟩):=(hd.1 rfl (by decide)).2
   obtain⟨c0,c6,hl⟩:=HCL.out W L hj
   rw[e2]
   have hj1:=hj.light 3 (by decide) (by decide)
   go_wp2
   first|exact hj1|exact rfl|exact⟨rfl,hj1⟩|exact⟨rfl,hj1,k4⟩|exact⟨_,rfl,rfl,hj1,k4⟩
  ·have hj1:=hj.light 4 (by decide) (by decide)
   go_wp2
   first|exact hj1|exact rfl|exact⟨rfl,hj1⟩|exact⟨rfl,hj1,k4⟩|exact⟨_,rfl,rfl,hj1,k4⟩
  ·have e4:u 4= .pointer (some ⟨ib,0,none⟩):=(hd.1 rfl (by decide)).2
   rw[e4]
   have hj1:=hj.light 5 (by decide) (by decide)
   go_wp2
   first|exact hj1|exact rfl|exact⟨rfl,hj1⟩|exact⟨rfl,hj1,k4⟩|exact⟨_,rfl,rfl,hj1,k4⟩
  ·have e5:u 5= .pointer (some ⟨ib,0,none⟩):=(hd.1 rfl (by decide)).2
   rw[e5]
   have hj1:=hj.light 6 (by decide) (by decide)
   go_wp2
   first|exact hj1|exact rfl|exact⟨rfl,hj1⟩|exact⟨rfl,hj1,k4⟩|exact⟨_,rfl,rfl,hj1,k4⟩
  ·have e6:u 6= .pointer (some ⟨ib,0,none⟩):=(hd.1 rfl (by decide)).2
   rw[e6]
   have hj1:=hj.light 7 (by decide) (by decide)
   go_wp2
   first|exact hj1|exact rfl|exact⟨rfl,hj1⟩|exact⟨rfl,hj1,k4⟩|exact⟨_,rfl,rfl,hj1,k4⟩
  ·have e7:u 7= .pointer (some ⟨ib,0,none⟩):=(hd.1 rfl (by decide)).2
   obtain⟨c0,c6,hl⟩:=HCL.out W L hj
   rw[e7]
   have hj1:=hj.light 8 (by decide) (by decide)
   go_wp2
   first|exact hj1|exact rfl|exact⟨rfl,hj1⟩|exact⟨rfl,hj1,k4⟩|exact⟨_,rfl,rfl,hj1,k4⟩
  ·have e8:u 8= .string x.name:=(hd.1 rfl (by decide)).2
   rw[e8]
   have hj1:=hj.light 9 (by decide) (by decide)
   go_wp2
   first|exact hj1|exact rfl|exact⟨rfl,hj1⟩|exact⟨rfl,hj1,k4⟩|exact⟨_,rfl,rfl,hj1,k4⟩
  ·have e3:u 3= .map (some mb):=(hd.1 rfl (by decide)).2
   have e9:u 9= .agg #[.string x.name, .string ⟨#[]⟩]:=(hd.2.1 rfl (by decide)).2
   obtain⟨c0,c6,hl⟩:=HCL.out W L hj
   rw[e3,e9]
   have hj1:=hj.light 10 (by decide) (by decide)
   go_wp2
   first|exact hj1|exact rfl|exact⟨rfl,hj1⟩|exact⟨rfl,hj1,k4⟩|exact⟨_,rfl,rfl,hj1,k4⟩
  ·have e10:u 10= .int .i64 (n:Int):=(hd.1 rfl (by decide)).2
   have hw1:=HW1.out
   rw[e10]
   have hj1:=hj.light 11 (by decide) (by decide)
   go_wp2
   first|exact hj1|exact rfl|exact⟨rfl,hj1⟩|exact⟨rfl,hj1,k4⟩|exact⟨_,rfl,rfl,hj1,k4⟩
  ·have e3:u 3= .map (some mb):=(hd.1 rfl (by decide)).2
   have e9:u 9= .agg #[.string x.name, .string ⟨#[]⟩]:=(hd.2.1 rfl (by decide)).2
   obtain⟨v0,st,W1,r1,hE,hg⟩:=hj.cnt.entry x.name ⟨#[]⟩
   unfold keyV at r1
   have ho:=hj.ord hL
   rw[e3,e9]
   have hj1:=hj.ent hE hg
   go_wp2
   have hkp: ∀j v',j<14→L j=true→TCnt0 x ib mb n m ⟨#[]⟩ f j v' W→TCnt0 x ib mb n m ⟨#[]⟩ f j v' W1:=fun j v' hjn hl h=>by
    match j,h with
    |0,h=>exact h
    |1,h=>exact h
    |2,h=>exact h
    |3,h=>exact h
    |4,h=>exact h
    |5,h=>exact h
    |6,h=>exact h
    |7,h=>exact h
    |8,h=>exact h
    |9,h=>exact h
    |10,h=>exact h
    |11,h=>exact h
    |12,_=>rw[hL]at hl;cases hl
    |13,_=>rw[ho]at hl;cases hl
    |m+14,_=>exact trivial
   first|exact⟨⟨v0,st,rfl,hE⟩,hkp⟩|exact⟨⟨v0,st,rfl,hE⟩,hj1,hkp⟩|exact⟨_,rfl,⟨v0,st,rfl,hE⟩,hj1,hkp⟩
  ·obtain⟨v0,st,e12,hE⟩:=(hd.1 rfl (by decide)).2
   have hl:=(hd.1 rfl (by decide)).1
   rw[e12]
   have hj1:=hj.ext hl
   go_wp2
   first|exact⟨st,rfl,hE⟩|exact⟨⟨st,rfl,hE⟩,hj1⟩|exact⟨⟨st,rfl,hE⟩,hj1,k4⟩|exact⟨_,rfl,⟨st,rfl,hE⟩,hj1,k4⟩
 ·intro u W L hall hj ht
  have e3:u 3= .map (some mb):=ht 3 (by decide)
  have e11:u 11= .int .i64 (m:Int):=ht 11 (by decide)
  obtain⟨st,e13,hE⟩:=ht 13 (by decide)
  simp only[Kj,Jh,Jj,Jk,putAll,Mq,Lq,Lk,Lj,Ly,Lx]
  rw[e3,e11,e13]
  obtain⟨W2,r2,k1,k2⟩:=hE.store m
  have K1:=Lh k1
  have F1:=Lh (hj.frm.trans (Frm.grown k2) (Grown.refl _ _))
  have V1:=F1.out.var HH.out HNE.out
  have c7:=V1.c 7 rfl
  clear k1 k2 V1 hj hall ht hE
  go_wp2
  first|go_end0|refine bodyPost_ret (results_none rfl _ _ _) rfl ?_
  exact⟨rfl,K1.out,F1.out⟩
theorem count_two (x:It) (s:ByteArray) (w:World) (ib mb:Nat) (wv kv:Value) (f:ByteArray→ByteArray→Nat) (h:VarL w ib (itemL x wv kv mb s)) (hc:CntIs w mb f) (hs:s≠⟨#[]⟩) (hn:f x.name ⟨#[]⟩≤1000000) (hn2:f x.name s≤1000000) (hne:ib≠mb):
  Calls Tryz.prog 58 #[.pointer (some ⟨ib,0,none⟩)] w fun e w'=>e= .returned (.tuple #[])∧CntIs w' mb (upd2 (upd2 f x.name ⟨#[]⟩ (f x.name ⟨#[]⟩+1)) x.name s (f x.name s+1))∧Frm (fun i=>i=mb) w w':=by
 have hs2:s.toList.isEmpty=false:=by
  cases hx:s.toList.isEmpty with
  |false=>rfl
  |true=>exact absurd (by obtain⟨⟨l⟩⟩:=s;rw[ByteArray.toList_eq]at hx;simp at hx;rw[hx]) hs
 have hs3:upd2 f x.name ⟨#[]⟩ (f x.name ⟨#[]⟩+1) x.name s=f x.name s:=by unfold upd2;rw[if_neg (fun e=>hs e.2)]
 have HH:=Lh h
 have HC:=Lh hc
 obtain⟨n,hfn⟩: ∃n,f x.name ⟨#[]⟩=n:=⟨_,rfl⟩
 rw[hfn]at hn ⊢
 have HFN:=Lh hfn
 obtain⟨m,hm⟩: ∃m,n+1=m:=⟨_,rfl⟩
 have hw1:IntKind.i64.wrap ((n:Int)+1)=(m:Int):=by rw[IntKind.wrap_i64];omega
 rw[hm]
 have HM:=Lh hm
 have HW1:=Lh hw1
 have HNE:=Lh hne
 have HCL:Hid (∀W L,JCnt 12 mb f w L W→W.cell? ⟨ib,0,none⟩=some (.string x.name)∧W.cell? ⟨ib,6,none⟩=some (.map (some mb))∧(Instr.lookup 112 (.map (some mb)) (.agg #[.string x.name, .string ⟨#[]⟩]) false).run Tryz.prog W= .ok (.int .i64 (n:Int)) W):=Lh (fun W L hj=>by
  have hV:=hj.frm.var HH.out HNE.out
  have hC:=hj.cnt.look x.name ⟨#[]⟩
  rw[HFN.out]at hC
  exact⟨hV.c 0 rfl,hV.c 6 rfl,hC⟩)
 have HS2:=Lh hs2
 have HS3:=Lh hs3
 have HN2:=Lh hn2
 obtain⟨n2,hfn2⟩: ∃n2,f x.name s=n2:=⟨_,rfl⟩
 have HFN2:=Lh hfn2
 obtain⟨f2,hf2⟩: ∃f2,upd2 f x.name ⟨#[]⟩ m=f2:=⟨_,rfl⟩
 obtain⟨m2,hm2⟩: ∃m2,n2+1=m2:=⟨_,rfl⟩
 have HF2:=Lh hf2
 have HW2:Hid (IntKind.i64.wrap ((n2:Int)+1)=(m2:Int)):=Lh (by have:=HN2.out;rw[HFN2.out]at this;rw[IntKind.wrap_i64];omega)
 rw[hf2,hfn2,hm2]
 clear hfn2 hf2 hm2
 clear h hc hs hs2 hs3 hfn hw1 hn hn2 hne hm
 go_enter Tryz.func58,Tryz.ntmps58
 refine wp_seq ?_
 refine wp_region_mixj 14 (TCnt0 x ib mb n m s f) (JCnt 12 mb f w) (by kernel_rfl) (by kernel_rfl) ⟨Frm.of (Mj _ _).drew,HC.out.keep rfl,fun _=>rfl⟩ ?_ ?_
 ·simp only[Kj,Jh]
  refine(Lz ?_ (Lz ?_ (Lz ?_ (Lz ?_ (Lz ?_ (Lz ?_ (Lz ?_ (Lz ?_ (Lz ?_ (Lz ?_ (Lz ?_ (Lz ?_ (Lz ?_ (Lz ?_ StepsJ.nil))))))))))))))
  all_goals(intro u W L hL hj hd;simp only[putAll,Mq,Lq,Lk,Lj,Ly,Lx])
  ·have hj1:=hj.light 0 (by decide) (by decide)
   go_wp2
   first|exact hj1|exact rfl|exact⟨rfl,hj1⟩|exact⟨rfl,hj1,k4⟩|exact⟨_,rfl,rfl,hj1,k4⟩
  ·have e0:u 0= .pointer (some ⟨ib,0,none⟩):=(hd.1 rfl (by decide)).2
   rw[e0]
   have hj1:=hj.light 1 (by decide) (by decide)
   go_wp2
   first|exact hj1|exact rfl|exact⟨rfl,hj1⟩|exact⟨rfl,hj1,k4⟩|exact⟨_,rfl,rfl,hj1,k4⟩
  ·have e1:u 1= .pointer (some ⟨ib,0,none⟩):=(hd.1 rfl (by decide)).2
   rw[e1]
   have hj1:=hj.light 2 (by decide) (by decide)
   go_wp2
   first|exact hj1|exact rfl|exact⟨rfl,hj1⟩|exact⟨rfl,hj1,k4⟩|exact⟨_,rfl,rfl,hj1,k4⟩
  ·have e2:u 2= .pointer (some ⟨ib,6,none⟩):=(hd.1 rfl (by decide)).2
   obtain⟨c0,c6,hl⟩:=HCL.out W L hj
   rw[e2]
   have hj1:=hj.light 3 (by decide) (by decide)
   go_wp2
   first|exact hj1|exact rfl|exact⟨rfl,hj1⟩|exact⟨rfl,hj1,k4⟩|exact⟨_,rfl,rfl,hj1,k4⟩
  ·have hj1:=hj.light 4 (by decide) (by decide)
   go_wp2
   first|exact hj1|exact rfl|exact⟨rfl,hj1⟩|exact⟨rfl,hj1,k4⟩|exact⟨_,rfl,rfl,hj1,k4⟩
  ·have e4:u 4= .pointer (some ⟨ib,0,none⟩):=(hd.1 rfl (by decide)).2
   rw[e4]
   have hj1:=hj.light 5 (by decide) (by decide)
   go_wp2
   first|exact hj1|exact rfl|exact⟨rfl,hj1⟩|exact⟨rfl,hj1,k4⟩|exact⟨_,rfl,rfl,hj1,k4⟩
  ·have e5:u 5= .pointer (some ⟨ib,0,none⟩):=(hd.1 rfl (by decide)).2
   rw[e5]
   have hj1:=hj.light 6 (by decide) (by decide)
   go_wp2
   first|exact hj1|exact rfl|exact⟨rfl,hj1⟩|exact⟨rfl,hj1,k4⟩|exact⟨_,rfl,rfl,hj1,k4⟩
  ·have e6:u 6= .pointer (some ⟨ib,0,none⟩):=(hd.1 rfl (by decide)).2
   rw[e6]
   have hj1:=hj.light 7 (by decide) (by decide)
   go_wp2
   first|exact hj1|exact rfl|exact⟨rfl,hj1⟩|exact⟨rfl,hj1,k4⟩|exact⟨_,rfl,rfl,hj1,k4⟩
  ·have e7:u 7= .pointer (some ⟨ib,0,none⟩):=(hd.1 rfl (by decide)).2
   obtain⟨c0,c6,hl⟩:=HCL.out W L hj
   rw[e7]
   have hj1:=hj.light 8 (by decide) (by decide)
   go_wp2
   first|exact hj1|exact rfl|exact⟨rfl,hj1⟩|exact⟨rfl,hj1,k4⟩|exact⟨_,rfl,rfl,hj1,k4⟩
  ·have e8:u 8= .string x.name:=(hd.1 rfl (by decide)).2
   rw[e8]
   have hj1:=hj.light 9 (by decide) (by decide)
   go_wp2
   first|exact hj1|exact rfl|exact⟨rfl,hj1⟩|exact⟨rfl,hj1,k4⟩|exact⟨_,rfl,rfl,hj1,k4⟩
  ·have e3:u 3= .map (some mb):=(hd.1 rfl (by decide)).2
   have e9:u 9= .agg #[.string x.name, .string ⟨#[]⟩]:=(hd.2.1 rfl (by decide)).2
   obtain⟨c0,c6,hl⟩:=HCL.out W L hj
   rw[e3,e9]
   have hj1:=hj.light 10 (by decide) (by decide)
   go_wp2
   first|exact hj1|exact rfl|exact⟨rfl,hj1⟩|exact⟨rfl,hj1,k4⟩|exact⟨_,rfl,rfl,hj1,k4⟩
  ·have e10:u 10= .int .i64 (n:Int):=(hd.1 rfl (by decide)).2
   have hw1:=HW1.out
   rw[e10]
   have hj1:=hj.light 11 (by decide) (by decide)
   go_wp2
   first|exact hj1|exact rfl|exact⟨rfl,hj1⟩|exact⟨rfl,hj1,k4⟩|exact⟨_,rfl,rfl,hj1,k4⟩
  ·have e3:u 3= .map (some mb):=(hd.1 rfl (by decide)).2
   have e9:u 9= .agg #[.string x.name, .string ⟨#[]⟩]:=(hd.2.1 rfl (by decide)).2
   obtain⟨v0,st,W1,r1,hE,hg⟩:=hj.cnt.entry x.name ⟨#[]⟩
   unfold keyV at r1
   have ho:=hj.ord hL
   rw[e3,e9]
   have hj1:=hj.ent hE hg
   go_wp2
   have hkp: ∀j v',j<14→L j=true→TCnt0 x ib mb n m s f j v' W→TCnt0 x ib mb n m s f j v' W1:=fun j v' hjn hl h=>by
    match j,h with
    |0,h=>exact h
    |1,h=>exact h
    |2,h=>exact h
    |3,h=>exact h
    |4,h=>exact h
    |5,h=>exact h
    |6,h=>exact h
    |7,h=>exact h
    |8,h=>exact h
    |9,h=>exact h
    |10,h=>exact h
    |11,h=>exact h
    |12,_=>rw[hL]at hl;cases hl
    |13,_=>rw[ho]at hl;cases hl
    |m+14,_=>exact trivial
   first|exact⟨⟨v0,st,rfl,hE⟩,hkp⟩|exact⟨⟨v0,st,rfl,hE⟩,hj1,hkp⟩|exact⟨_,rfl,⟨v0,st,rfl,hE⟩,hj1,hkp⟩
  ·obtain⟨v0,st,e12,hE⟩:=(hd.1 rfl (by decide)).2
   have hl:=(hd.1 rfl (by decide)).1
   rw[e12]
   have hj1:=hj.ext hl
   go_wp2
   first|exact⟨st,rfl,hE⟩|exact⟨⟨st,rfl,hE⟩,hj1⟩|exact⟨⟨st,rfl,hE⟩,hj1,k4⟩|exact⟨_,rfl,⟨st,rfl,hE⟩,hj1,k4⟩
 ·intro u W L hall hj ht
  have e3:u 3= .map (some mb):=ht 3 (by decide)
  have e11:u 11= .int .i64 (m:Int):=ht 11 (by decide)
  obtain⟨st,e13,hE⟩:=ht 13 (by decide)
  simp only[Kj,Jh,Jj,Jk,putAll,Mq,Lq,Lk,Lj,Ly,Lx]
  rw[e3,e11,e13]
  obtain⟨W2,r2,k1,k2⟩:=hE.store m
  have K1:=Lh k1
  have F1:=Lh (hj.frm.trans (Frm.grown k2) (Grown.refl _ _))
  have V1:=F1.out.var HH.out HNE.out
  have c7:=V1.c 7 rfl
  clear k1 k2 V1 hj hall ht hE
  have hs2:=HS2.out
  go_wp2
  rw[HF2.out]at K1
  have HCL2:Hid (∀W L,JCnt 16 mb f2 W2 L W→W.cell? ⟨ib,0,none⟩=some (.string x.name)∧W.cell? ⟨ib,6,none⟩=some (.map (some mb))∧W.cell? ⟨ib,7,none⟩=some (.string s)∧(Instr.lookup 112 (.map (some mb)) (.agg #[.string x.name, .string s]) false).run Tryz.prog W= .ok (.int .i64 (n2:Int)) W):=Lh (fun W L hj=>by
   have hV:=hj.frm.var (F1.out.var HH.out HNE.out) HNE.out
   have hC:=hj.cnt.look x.name s
   have e3:=HS3.out
   rw[HFN.out,HM.out,HF2.out,HFN2.out]at e3
   rw[e3]at hC
   exact⟨hV.c 0 rfl,hV.c 6 rfl,hV.c 7 rfl,hC⟩)
  clear hs2 c7
  refine wp_region_mixj 18 (TCnt2 x ib mb n2 m2 s f2) (JCnt 16 mb f2 W2) (by kernel_rfl) (by kernel_rfl) ⟨Frm.of (Mj _ _).drew,K1.out.keep rfl,fun _=>rfl⟩ ?_ ?_
  ·simp only[Kj,Jh]
   refine(Lz ?_ (Lz ?_ (Lz ?_ (Lz ?_ (Lz ?_ (Lz ?_ (Lz ?_ (Lz ?_ (Lz ?_ (Lz ?_ (Lz ?_ (Lz ?_ (Lz ?_ (Lz ?_ (Lz ?_ (Lz ?_ (Lz ?_ (Lz ?_ StepsJ.nil))))))))))))))))))
   all_goals(intro u W L hL hj hd;simp only[putAll,Mq,Lq,Lk,Lj,Ly,Lx])
   ·have hj1:=hj.light 0 (by decide) (by decide)
    go_wp2
    first|exact hj1|exact rfl|exact⟨rfl,hj1⟩|exact⟨rfl,hj1,k4⟩|exact⟨_,rfl,rfl,hj1,k4⟩
   ·have e0:u 0= .pointer (some ⟨ib,0,none⟩):=(hd.1 rfl (by decide)).2
    rw[e0]
    have hj1:=hj.light 1 (by decide) (by decide)
    go_wp2
    first|exact hj1|exact rfl|exact⟨rfl,hj1⟩|exact⟨rfl,hj1,k4⟩|exact⟨_,rfl,rfl,hj1,k4⟩
   ·have e1:u 1= .pointer (some ⟨ib,0,none⟩):=(hd.1 rfl (by decide)).2
    rw[e1]
    have hj1:=hj.light 2 (by decide) (by decide)
    go_wp2
    first|exact hj1|exact rfl|exact⟨rfl,hj1⟩|exact⟨rfl,hj1,k4⟩|exact⟨_,rfl,rfl,hj1,k4⟩
   ·have e2:u 2= .pointer (some ⟨ib,6,none⟩):=(hd.1 rfl (by decide)).2
    obtain⟨c0,c6,c7,hl⟩:=HCL2.out W L hj
    rw[e2]
    have hj1:=hj.light 3 (by decide) (by decide)
    go_wp2
    first|exact hj1|exact rfl|exact⟨rfl,hj1⟩|exact⟨rfl,hj1,k4⟩|exact⟨_,rfl,rfl,hj1,k4⟩
   ·have hj1:=hj.light 4 (by decide) (by decide)
    go_wp2
    first|exact hj1|exact rfl|exact⟨rfl,hj1⟩|exact⟨rfl,hj1,k4⟩|exact⟨_,rfl,rfl,hj1,k4⟩
   ·have e4:u 4= .pointer (some ⟨ib,0,none⟩):=(hd.1 rfl (by decide)).2
    rw[e4]
    have hj1:=hj.light 5 (by decide) (by decide)
    go_wp2
    first|exact hj1|exact rfl|exact⟨rfl,hj1⟩|exact⟨rfl,hj1,k4⟩|exact⟨_,rfl,rfl,hj1,k4⟩
   ·have e5:u 5= .pointer (some ⟨ib,0,none⟩):=(hd.1 rfl (by decide)).2
    rw[e5]
    have hj1:=hj.light 6 (by decide) (by decide)
    go_wp2
    first|exact hj1|exact rfl|exact⟨rfl,hj1⟩|exact⟨rfl,hj1,k4⟩|exact⟨_,rfl,rfl,hj1,k4⟩
   ·have e6:u 6= .pointer (some ⟨ib,0,none⟩):=(hd.1 rfl (by decide)).2
    rw[e6]
    have hj1:=hj.light 7 (by decide) (by decide)
    go_wp2
    first|exact hj1|exact rfl|exact⟨rfl,hj1⟩|exact⟨rfl,hj1,k4⟩|exact⟨_,rfl,rfl,hj1,k4⟩
   ·have e7:u 7= .pointer (some ⟨ib,0,none⟩):=(hd.1 rfl (by decide)).2
    obtain⟨c0,c6,c7,hl⟩:=HCL2.out W L hj
    rw[e7]
    have hj1:=hj.light 8 (by decide) (by decide)
    go_wp2
    first|exact hj1|exact rfl|exact⟨rfl,hj1⟩|exact⟨rfl,hj1,k4⟩|exact⟨_,rfl,rfl,hj1,k4⟩
   ·have hj1:=hj.light 9 (by decide) (by decide)
    go_wp2
    first|exact hj1|exact rfl|exact⟨rfl,hj1⟩|exact⟨rfl,hj1,k4⟩|exact⟨_,rfl,rfl,hj1,k4⟩
   ·have e9:u 9= .pointer (some ⟨ib,0,none⟩):=(hd.1 rfl (by decide)).2
    rw[e9]
    have hj1:=hj.light 10 (by decide) (by decide)
    go_wp2
    first|exact hj1|exact rfl|exact⟨rfl,hj1⟩|exact⟨rfl,hj1,k4⟩|exact⟨_,rfl,rfl,hj1,k4⟩
   ·have e10:u 10= .pointer (some ⟨ib,0,none⟩):=(hd.1 rfl (by decide)).2
    rw[e10]
    have hj1:=hj.light 11 (by decide) (by decide)
    go_wp2
    first|exact hj1|exact rfl|exact⟨rfl,hj1⟩|exact⟨rfl,hj1,k4⟩|exact⟨_,rfl,rfl,hj1,k4⟩
   ·have e11:u 11= .pointer (some ⟨ib,7,none⟩):=(hd.1 rfl (by decide)).2
    obtain⟨c0,c6,c7,hl⟩:=HCL2.out W L hj
    rw[e11]
    have hj1:=hj.light 12 (by decide) (by decide)
    go_wp2
    first|exact hj1|exact rfl|exact⟨rfl,hj1⟩|exact⟨rfl,hj1,k4⟩|exact⟨_,rfl,rfl,hj1,k4⟩
   ·have e8:u 8= .string x.name:=(hd.1 rfl (by decide)).2
    have e12:u 12= .string s:=(hd.2.1 rfl (by decide)).2
    rw[e8,e12]
    have hj1:=hj.light 13 (by decide) (by decide)
    go_wp2
    first|exact hj1|exact rfl|exact⟨rfl,hj1⟩|exact⟨rfl,hj1,k4⟩|exact⟨_,rfl,rfl,hj1,k4⟩
   ·have e3:u 3= .map (some mb):=(hd.1 rfl (by decide)).2
    have e13:u 13= .agg #[.string x.name, .string s]:=(hd.2.1 rfl (by decide)).2
    obtain⟨c0,c6,c7,hl⟩:=HCL2.out W L hj
    rw[e3,e13]
    have hj1:=hj.light 14 (by decide) (by decide)
    go_wp2
    first|exact hj1|exact rfl|exact⟨rfl,hj1⟩|exact⟨rfl,hj1,k4⟩|exact⟨_,rfl,rfl,hj1,k4⟩
   ·have e14:u 14= .int .i64 (n2:Int):=(hd.1 rfl (by decide)).2
    have hw1:=HW2.out
    rw[e14]
    have hj1:=hj.light 15 (by decide) (by decide)
    go_wp2
    first|exact hj1|exact rfl|exact⟨rfl,hj1⟩|exact⟨rfl,hj1,k4⟩|exact⟨_,rfl,rfl,hj1,k4⟩
   ·have e3:u 3= .map (some mb):=(hd.1 rfl (by decide)).2
    have e13:u 13= .agg #[.string x.name, .string s]:=(hd.2.1 rfl (by decide)).2
    obtain⟨v0,st,W1,r1,hE,hg⟩:=hj.cnt.entry x.name s
    unfold keyV at r1
    have ho:=hj.ord hL
    rw[e3,e13]
    have hj1:=hj.ent hE hg
    go_wp2
    have hkp: ∀j v',j<18→L j=true→TCnt2 x ib mb n2 m2 s f2 j v' W→TCnt2 x ib mb n2 m2 s f2 j v' W1:=fun j v' hjn hl h=>by
     match j,h with
     |0,h=>exact h
     |1,h=>exact h
     |2,h=>exact h
     |3,h=>exact h
     |4,h=>exact h
     |5,h=>exact h
     |6,h=>exact h
     |7,h=>exact h
     |8,h=>exact h
     |9,h=>exact h
     |10,h=>exact h
     |11,h=>exact h
     |12,h=>exact h
     |13,h=>exact h
     |14,h=>exact h
     |15,h=>exact h
     |16,_=>rw[hL]at hl;cases hl
     |17,_=>rw[ho]at hl;cases hl
     |m+18,_=>exact trivial
    first|exact⟨⟨v0,st,rfl,hE⟩,hkp⟩|exact⟨⟨v0,st,rfl,hE⟩,hj1,hkp⟩|exact⟨_,rfl,⟨v0,st,rfl,hE⟩,hj1,hkp⟩
   ·obtain⟨v0,st,e16,hE⟩:=(hd.1 rfl (by decide)).2
    have hl:=(hd.1 rfl (by decide)).1
    rw[e16]
    have hj1:=hj.ext hl
    go_wp2
    first|exact⟨st,rfl,hE⟩|exact⟨⟨st,rfl,hE⟩,hj1⟩|exact⟨⟨st,rfl,hE⟩,hj1,k4⟩|exact⟨_,rfl,⟨st,rfl,hE⟩,hj1,k4⟩
  ·intro u W L hall hj ht
   have e3:u 3= .map (some mb):=ht 3 (by decide)
   have e15:u 15= .int .i64 (m2:Int):=ht 15 (by decide)
   obtain⟨st,e17,hE⟩:=ht 17 (by decide)
   simp only[Kj,Jh,Jj,Jk,putAll,Mq,Lq,Lk,Lj,Ly,Lx]
   rw[e3,e15,e17]
   obtain⟨W3,r3,k1,k2⟩:=hE.store m2
   have K3:=Lh k1
   have F3:=Lh ((F1.out.trans hj.frm (Grown.refl _ _)).trans (Frm.grown k2) (Grown.refl _ _))
   clear k1 k2 hj hall ht hE
   go_wp2
   first|go_end0|refine bodyPost_ret (results_none rfl _ _ _) rfl ?_
   exact⟨rfl,K3.out,F3.out⟩
end
section
open Go.RowKit
def TApp (lits:List Value) (kb ka b1:Nat) (y:List Value) (t:TypeId) (sz base:Nat) (vs:List (List Value)) (own:Option Nat) (k:Nat) (v:Value) (w:World):Prop:=
 if k=kb then∃g,v= .slice (some ⟨g,0,none⟩) 1 1∧b1≤g∧g<w.heap.size∧∀j,j<sz→w.cell? ⟨g,j,none⟩=some (y.getD j undef)
 else if k=ka then RowK t sz w base v (vs++ [y])∧(v.ownBlock=own∨∃b,v.ownBlock=some b∧b1≤b)
 else v=lits.getD k undef
structure JApp (own:Option Nat) (ka:Nat) (w1:World) (L:Nat→Bool) (w:World):Prop where
 frm:Frm (fun i=>L ka=true∧some i=own) w1 w
section
variable {lits:List Value} {kb ka b1:Nat} {y:List Value} {t:TypeId} {sz base:Nat} {vs:List (List Value)} {own:Option Nat} {w1 w w':World} {L:Nat→Bool}
theorem TApp.keep (k:Nat) (v:Value) (h:TApp lits kb ka b1 y t sz base vs own k v w) (hb:Below w.heap.size w w'):TApp lits kb ka b1 y t sz base vs own k v w':=by
 unfold TApp at h ⊢
 split
 ·rename_i e
  rw[if_pos e]at h
  obtain⟨g,e,h1,h2,h3⟩:=h
  exact⟨g,e,h1,Kx h2 hb.size,fun j hj=>(hb.cell (p:=⟨g,j,none⟩) h2).trans (h3 j hj)⟩
 ·rename_i e
  rw[if_neg e]at h
  split
  ·rename_i e2
   rw[if_pos e2]at h
   exact⟨h.1.below hb,h.2⟩
  ·rename_i e2
   rw[if_neg e2]at h
   exact h
theorem TApp.grow (ho:OnlyO base (fun i=>some i=own) w w') (hown: ∀b,own=some b→b<b1) (hL:L ka=false) (k:Nat) (v:Value) (hk:L k=true) (h:TApp lits kb ka b1 y t sz base vs own k v w):TApp lits kb ka b1 y t sz base vs own k v w':=by
 unfold TApp at h ⊢
 split
 ·rename_i e
  rw[if_pos e]at h
  obtain⟨g,e,h1,h2,h3⟩:=h
  exact⟨g,e,h1,Kx h2 ho.size,fun j hj=>(ho.cell h2 (fun e=>by have:=hown g e.symm;omega)).trans (h3 j hj)⟩
 ·rename_i e
  rw[if_neg e]at h
  split
  ·rename_i e2
   subst e2
   rw[hL]at hk;cases hk
  ·rename_i e2
   rw[if_neg e2]at h
   exact h
theorem JApp.start (w1:World):JApp own ka w1 (fun _=>false) w1.drew:=⟨Frm.of (Mj _ _).drew⟩
theorem JApp.light (h:JApp own ka w1 L w) (k:Nat) (hk:ka≠k) (hb:Below w.heap.size w w'):JApp own ka w1 (setL L k) w':=
 ⟨by have:=h.frm.trans (Frm.of (O:=fun i=>L ka=true∧some i=own) hb) (Grown.refl _ _);rw[setL_ne L hk];exact this⟩
theorem JApp.app (h:JApp own ka w1 L w) (ho:OnlyO base (fun i=>some i=own) w w'):JApp own ka w1 (setL L ka) w':=
 ⟨by rw[setL_self];exact(h.frm.wider (O':=fun i=>true=true∧some i=own) (fun i e=>⟨rfl,e.2⟩)).trans ((Frm.only ho).wider (O':=fun i=>true=true∧some i=own) (fun i e=>⟨rfl,e⟩)) (Grown.refl _ _)⟩
theorem JApp.var {p:Nat} {l:List Value} (h:JApp own ka w1 L w) (V:VarL w1 p l) (hp: ∀b,own=some b→b≠p):VarL w p l:=h.frm.var V (fun e=>hp p e.2.symm rfl)
theorem JApp.row {v:Value} {t:TypeId} {sz:Nat} {us:List (List Value)} {bs:Nat} (h:JApp own ka w1 L w) (hL:L ka=false) (R:RowK t sz w1 bs v us):RowK t sz w bs v us:=
 R.kept fun b hb=>h.frm.keep b (R.lt hb).2 (fun e=>by rw[hL]at e;cases e.1)
theorem JApp.end_ (h:JApp own ka w1 L w):Frm (fun i=>some i=own) w1 w:=h.frm.wider (fun _ e=>e.2)
theorem TApp.kb_ (hne:kb=kb) {v:Value} (h:TApp lits kb ka b1 y t sz base vs own kb v w): ∃g,v= .slice (some ⟨g,0,none⟩) 1 1∧b1≤g∧g<w.heap.size∧∀j,j<sz→w.cell? ⟨g,j,none⟩=some (y.getD j undef):=by
 unfold TApp at h;rwa [if_pos hne]at h
theorem TApp.ka_ (hne:ka≠kb) {v:Value} (h:TApp lits kb ka b1 y t sz base vs own ka v w):RowK t sz w base v (vs++ [y])∧(v.ownBlock=own∨∃b,v.ownBlock=some b∧b1≤b):=by
 unfold TApp at h;rwa [if_neg hne,if_pos rfl]at h
end
theorem cells_new (w:World) (y:List Value) (t:TypeId): ∀j,j<y.length→(w.alloc (.cells y.toArray t)).cell? ⟨w.heap.size,j,none⟩=some (y.getD j undef):=fun j hj=>by
 rw[World.cell?_alloc_new]
 simp[Kh hj]
end
section
open Go.RowKit
def fltV (x:Flt):List Value:= [.int .i64 x.1, .int .i64 x.2.1, .int .i64 x.2.2]
theorem info_flt:(Tryz.prog.info? 41).map (fun i=>(i.zero,i.size,i.bytes))=some (some (.agg #[.int .i64 0, .int .i64 0, .int .i64 0]),3,24):=by kernel_rfl
structure FltAt (base sb:Nat) (l:List Value) (F:List Flt) (v:Value) (w:World):Prop where
 var:VarL w sb (v::l)
 row:RowK 41 3 w base v (F.map fltV)
 out: ∀b,v.ownBlock=some b→b≠sb
theorem FltAt.stay {base sb:Nat} {l:List Value} {F:List Flt} {v:Value} {w w':World} (h:FltAt base sb l F v w) (hk: ∀i,i=sb∨some i=v.ownBlock→w'.heap[i]?=w.heap[i]?):FltAt base sb l F v w':=
 ⟨h.var.stay (hk sb (Or.inl rfl)),h.row.kept (fun b e=>hk b (Or.inr e.symm)),h.out⟩
theorem add_any (base sb:Nat) (l:List Value) (F:List Flt) (v:Value) (c a b:Int) (w:World) (h:FltAt base sb l F v w) (hb:base≤w.heap.size) (hl:F.length≤1000000):
  Calls Tryz.prog 57 #[.pointer (some ⟨sb,0,none⟩), .int .i64 c, .agg #[.int .i64 a, .int .i64 b]] w fun e w'=>e= .returned (.tuple #[])∧∃v',FltAt base sb l (F++ [(c,a,b)]) v' w'∧Frm (fun i=>i=sb∨some i=v.ownBlock) w w'∧(v'.ownBlock=v.ownBlock∨∃b,v'.ownBlock=some b∧w.heap.size≤b):=by
 have hrow:=h.row
 obtain⟨va,vc,hv⟩:=hrow.size
 rw[Ky]at hv
 subst hv
 obtain⟨g,w1,hg,hw1,V1,hb1,hs1⟩:=boxL w [.int .i64 a, .int .i64 b] 39
 have H:=Lh h
 have HB1:=Lh hb1
 have HSB:=Lh h.var.s
 have HVAR:=Lh (h.var.after hb1)
 have HROW:=Lh (h.row.below hb1)
 have HV1:=Lh V1
 have HOUT:=Lh h.out
 obtain⟨own,hown⟩: ∃own,(Value.slice va F.length vc).ownBlock=own:=⟨_,rfl⟩
 have HOWN:=Lh hown
 have HLT:Hid (∀b,own=some b→b<w.heap.size):=Lh (fun b e=>(h.row.lt (hown.trans e)).2)
 have HLT1:Hid (∀b,own=some b→b<w1.heap.size):=Lh (fun b e=>Kx (HLT.out b e) hb1.size)
 have HNS:Hid (∀b,own=some b→b≠sb):=Lh (fun b e=>h.out b (hown.trans e))
 have HNG:Hid (∀b,own=some b→b≠g):=Lh (fun b e e2=>by have:=HLT.out b e;omega)
 have HPO:Hid (∀u∈([.int .i64 c, .int .i64 a, .int .i64 b]:List Value),u.oneCell'=true):=Lh (by intro u hu;simp only[List.mem_cons,List.not_mem_nil,or_false]at hu;rcases hu with rfl|rfl|rfl<;>rfl)
 have HLEN:Hid ((F.map fltV).length≤1000000):=Lh (by rw[Ky];exact hl)
 have HBS:Hid (base≤w1.heap.size):=Lh (Kz hb hb1.size)
 have HS1:=Lh hs1
 clear h hrow hb hl hown V1 hb1 hs1
 go_enter Tryz.func57,Tryz.ntmps57
 go_wp2
 refine wp_region_mixj 9 (TApp [.pointer (some ⟨sb,0,none⟩), .pointer (some ⟨sb,0,none⟩), .pointer (some ⟨sb,0,none⟩), .slice va F.length vc, .int .i64 c, .agg #[.int .i64 a, .int .i64 b], .agg #[.int .i64 c, .int .i64 a, .int .i64 b],undef,undef] 7 8 w1.heap.size [.int .i64 c, .int .i64 a, .int .i64 b] 41 3 base (F.map fltV) own) (JApp own 8 w1) (by kernel_rfl) (by kernel_rfl) (JApp.start w1) ?_ ?_
 ·simp only[Kj,Jh]
  refine(Lz ?_ (Lz ?_ (Lz ?_ (Lz ?_ (Lz ?_ (Lz ?_ (Lz ?_ (Lz ?_ (Lz ?_ StepsJ.nil)))))))))
  all_goals(intro u W L hL hj hd;simp only[putAll,Mq,Lq,Lk,Lj,Ly,Lx])
  ·have hj1:=hj.light 0 (by decide) (Mj _ _)
   go_wp2
   first|exact hj1|exact rfl|exact⟨rfl,hj1⟩|exact⟨rfl,hj1,k4⟩|exact⟨_,rfl,rfl,hj1,k4⟩
  ·have hj1:=hj.light 1 (by decide) (Mj _ _)
   go_wp2
   first|exact hj1|exact rfl|exact⟨rfl,hj1⟩|exact⟨rfl,hj1,k4⟩|exact⟨_,rfl,rfl,hj1,k4⟩
  ·have e1:u 1= .pointer (some ⟨sb,0,none⟩):=(hd.1 rfl (by decide)).2
   rw[e1]
   have hj1:=hj.light 2 (by decide) (Mj _ _)
   go_wp2
   first|exact hj1|exact rfl|exact⟨rfl,hj1⟩|exact⟨rfl,hj1,k4⟩|exact⟨_,rfl,rfl,hj1,k4⟩
  ·have e2:u 2= .pointer (some ⟨sb,0,none⟩):=(hd.1 rfl (by decide)).2
   have c0:=(hj.var HVAR.out HNS.out).c 0 rfl
   rw[e2]
   have hj1:=hj.light 3 (by decide) (Mj _ _)
   go_wp2
   first|exact hj1|exact rfl|exact⟨rfl,hj1⟩|exact⟨rfl,hj1,k4⟩|exact⟨_,rfl,rfl,hj1,k4⟩
  ·have hj1:=hj.light 4 (by decide) (Mj _ _)
   go_wp2
   first|exact hj1|exact rfl|exact⟨rfl,hj1⟩|exact⟨rfl,hj1,k4⟩|exact⟨_,rfl,rfl,hj1,k4⟩
  ·have d0:=(hj.var HV1.out HNG.out).c 0 rfl
   have d1:=(hj.var HV1.out HNG.out).c 1 rfl
   have hj1:=hj.light 5 (by decide) (Mj _ _)
   go_wp2
   first|exact hj1|exact rfl|exact⟨rfl,hj1⟩|exact⟨rfl,hj1,k4⟩|exact⟨_,rfl,rfl,hj1,k4⟩
  ·have e4:u 4= .int .i64 c:=(hd.1 rfl (by decide)).2
   have e5:u 5= .agg #[.int .i64 a, .int .i64 b]:=(hd.2.1 rfl (by decide)).2
   rw[e4,e5]
   have hj1:=hj.light 6 (by decide) (Mj _ _)
   go_wp2
   first|exact hj1|exact rfl|exact⟨rfl,hj1⟩|exact⟨rfl,hj1,k4⟩|exact⟨_,rfl,rfl,hj1,k4⟩
  ·have e6:u 6= .agg #[.int .i64 c, .int .i64 a, .int .i64 b]:=(hd.1 rfl (by decide)).2
   have hsz:=hj.frm.size
   rw[e6]
   have hj1:=hj.light (w':=W.alloc (.cells ([.int .i64 c, .int .i64 a, .int .i64 b]:List Value).toArray 41)) 7 (by decide) ((Mj _ _).alloc (Mz _) _)
   go_wp2
   have hkp: ∀j v',j<9→L j=true→TApp [.pointer (some ⟨sb,0,none⟩), .pointer (some ⟨sb,0,none⟩), .pointer (some ⟨sb,0,none⟩), .slice va F.length vc, .int .i64 c, .agg #[.int .i64 a, .int .i64 b], .agg #[.int .i64 c, .int .i64 a, .int .i64 b],undef,undef] 7 8 w1.heap.size [.int .i64 c, .int .i64 a, .int .i64 b] 41 3 base (F.map fltV) own j v' W→TApp [.pointer (some ⟨sb,0,none⟩), .pointer (some ⟨sb,0,none⟩), .pointer (some ⟨sb,0,none⟩), .slice va F.length vc, .int .i64 c, .agg #[.int .i64 a, .int .i64 b], .agg #[.int .i64 c, .int .i64 a, .int .i64 b],undef,undef] 7 8 w1.heap.size [.int .i64 c, .int .i64 a, .int .i64 b] 41 3 base (F.map fltV) own j v' (W.alloc (.cells ([.int .i64 c, .int .i64 a, .int .i64 b]:List Value).toArray 41)):=fun j v' _ _ h=>TApp.keep j v' h ((Mj _ _).alloc (Mz _) _)
   have hcn: ∃g,Value.slice (some ⟨W.heap.size,0,none⟩) 1 1= .slice (some ⟨g,0,none⟩) 1 1∧w1.heap.size≤g∧g<(W.alloc (.cells ([.int .i64 c, .int .i64 a, .int .i64 b]:List Value).toArray 41)).heap.size∧∀j,j<3→(W.alloc (.cells ([.int .i64 c, .int .i64 a, .int .i64 b]:List Value).toArray 41)).cell? ⟨g,j,none⟩=some (([.int .i64 c, .int .i64 a, .int .i64 b]:List Value).getD j undef):=⟨W.heap.size,rfl,hsz,by simp,cells_new W [.int .i64 c, .int .i64 a, .int .i64 b] 41⟩
   first|exact⟨hcn,hkp⟩|exact⟨hcn,hj1,hkp⟩|exact⟨_,rfl,hcn,hj1,hkp⟩|exact hcn
  ·have e3:u 3= .slice va F.length vc:=(hd.1 rfl (by decide)).2
   obtain⟨g,e7,hg1,hg2,hg3⟩:=TApp.kb_ rfl (hd.2.1 rfl (by decide)).2
   have HG3:=Lh hg3
   have HRW:=Lh (hj.row hL HROW.out)
   have HSZ:Hid (base≤W.heap.size):=Lh (Kz HBS.out hj.frm.size)
   rw[e3,e7]
   go_wp2_with (at_builtin;(refine wp_rowK (T:=61) (t:=41) (sz:=3) rfl _ _ rfl Tryz.underlying61 info_flt rfl (by decide) (by decide) base _ _ rfl HRW.out g [.int .i64 c, .int .i64 a, .int .i64 b] rfl rfl HG3.out HPO.out HLEN.out HSZ.out ?_))
   intro v' w' hr' ho' hob'
   have hj1:=hj.app (own:=own) (by rw[←HOWN.out];exact ho')
   have hnew:v'.ownBlock=own∨∃b,v'.ownBlock=some b∧w1.heap.size≤b:=(by rw[←HOWN.out];exact hob':v'.ownBlock=own∨v'.ownBlock=some W.heap.size).imp id (fun e=>⟨_,e,hj.frm.size⟩)
   have hkp: ∀j v2,j<9→L j=true→TApp [.pointer (some ⟨sb,0,none⟩), .pointer (some ⟨sb,0,none⟩), .pointer (some ⟨sb,0,none⟩), .slice va F.length vc, .int .i64 c, .agg #[.int .i64 a, .int .i64 b], .agg #[.int .i64 c, .int .i64 a, .int .i64 b],undef,undef] 7 8 w1.heap.size [.int .i64 c, .int .i64 a, .int .i64 b] 41 3 base (F.map fltV) own j v2 W→TApp [.pointer (some ⟨sb,0,none⟩), .pointer (some ⟨sb,0,none⟩), .pointer (some ⟨sb,0,none⟩), .slice va F.length vc, .int .i64 c, .agg #[.int .i64 a, .int .i64 b], .agg #[.int .i64 c, .int .i64 a, .int .i64 b],undef,undef] 7 8 w1.heap.size [.int .i64 c, .int .i64 a, .int .i64 b] 41 3 base (F.map fltV) own j v2 w':=fun j v2 _ hl h=>TApp.grow (by rw[←HOWN.out];exact ho') HLT1.out hL j v2 hl h
   go_wp2
   first|exact⟨⟨hr',hnew⟩,hkp⟩|exact⟨⟨hr',hnew⟩,hj1,hkp⟩|exact⟨_,rfl,⟨hr',hnew⟩,hj1,hkp⟩|exact⟨hr',hnew⟩|exact⟨v',rfl,⟨hr',hnew⟩,hj1,hkp⟩
 ·intro u W L hall hj ht
  have e0:u 0= .pointer (some ⟨sb,0,none⟩):=ht 0 (by decide)
  obtain⟨hrw,how⟩:=TApp.ka_ (by decide) (ht 8 (by decide))
  simp only[Kj,Jh,Jj,Jk,putAll,Mq,Lq,Lk,Lj,Ly,Lx]
  rw[e0]
  have HFR:=Lh hj.end_
  obtain⟨a8,c8,h8⟩:=hrw.size
  rw[List.length_append,Ky,List.length_singleton]at h8
  rw[h8]at hrw how ⊢
  have V2:=HFR.out.var HVAR.out (fun e=>HNS.out sb e.symm rfl)
  have HV2:=Lh V2
  have HRW:=Lh hrw
  have HHW:=Lh how
  have c0:=V2.c 0 rfl
  have q0:=V2.q 0 rfl
  clear hrw how V2 hj hall ht h8
  go_wp2
  first|go_end0|refine bodyPost_ret (results_none rfl _ _ _) rfl ?_
  refine⟨rfl, .slice a8 (F.length+1) c8,⟨?_,?_,?_⟩,?_,?_⟩
  ·have:=HV2.out.set 0 (.slice a8 (F.length+1) c8) (by simp)
   exact this
  ·rw[List.map_append]
   refine HRW.out.kept (fun b hb=>lset_else _ _ _ _ _ (fun e=>?_))
   rcases HHW.out with h|⟨b2,h,h2⟩
   ·exact HNS.out b (h.symm.trans hb) e
   ·rw[h]at hb;injection hb with hb;have:=HSB.out;have:=HB1.out.size;omega
  ·intro b hb e
   rcases HHW.out with h|⟨b2,h,h2⟩
   ·exact HNS.out b (h.symm.trans hb) e
   ·rw[h]at hb;injection hb with hb;have:=HSB.out;have:=HB1.out.size;omega
  ·rw[HOWN.out]
   exact((Frm.of HB1.out).trans (HFR.out.wider (O':=fun i=>i=sb∨some i=own) (fun _ e=>Or.inr e)) (Grown.refl _ _)).set (Or.inl rfl) _ _
  ·rw[HOWN.out]
   exact HHW.out.imp id (fun⟨b,h1,h2⟩=>⟨b,h1,Kz HB1.out.size h2⟩)
end
section
open Go.RowKit
theorem ccatch_flies (p:Nat) (c:Int) (x:Value) (older:List PanicEntry) (w:World) (hp:VarL w p [x]):
  CallsD Tryz.prog 90 #[.pointer (some ⟨p,0,none⟩)] (.panicking ({ v:= .iface 37 (.int .i64 c),recovered:=false } ::older)) w fun e u' w'=>
   e= .returned (.tuple #[])∧u'= .panicking ({ v:= .iface 37 (.int .i64 c),recovered:=true } ::older)∧w'=w.setCell ⟨p,0,none⟩ (.int .i64 c):=by
 have c0:=hp.c 0 rfl
 have q0:=hp.q 0 rfl
 have has: ∀W,(Instr.typeAssert (.iface 37 (.int .i64 c)) 20 37 false).run Tryz.prog W= .ok (.int .i64 c) W:=fun _=>by kernel_rfl
 refine callsD_of_wpS Tryz.func90 rfl fun c₀ cs hu=>?_
 apply wpS_seq
 apply wpS_region
 simp[wpOpsS,go_sem,recoverD,hu,Tryz.ntmps90,Exit.thenS]
 apply wpS_seq
 apply wpS_region
 simp[wpOpsS,go_sem,Exit.thenS]
 refine wpS_cond (t:=true) (by simp[Act.eval,Array.replicate]) ?_
 simp only[if_true]
 refine wpS_of_wp ?_
 simp only[Array.replicate_succ,Array.replicate_zero,List.push_toArray,List.append_toArray,List.nil_append,List.cons_append,Lq,Lk,Lj]
 go_wp2
 exact⟨rfl,_,rfl, .tuple #[],by simp[results,Tryz.results90],rfl,rfl,rfl⟩
theorem ccatch_none (p:Addr) (w:World):
  CallsD Tryz.prog 90 #[.pointer (some p)] .returning w fun e u' w'=>e= .returned (.tuple #[])∧u'= .returning∧w'=w:=by
 refine callsD_of_wpS Tryz.func90 rfl fun c₀ cs hu=>?_
 apply wpS_seq
 apply wpS_region
 simp[wpOpsS,go_sem,recoverD,hu,Tryz.ntmps90,Exit.thenS]
 apply wpS_seq
 apply wpS_region
 simp[wpOpsS,go_sem,Exit.thenS]
 refine wpS_cond (t:=false) (by simp[Act.eval,Array.replicate]) ?_
 simp only[Bool.false_eq_true,if_false]
 refine wpS_of_wp (wp_skip ?_)
 cases c₀
 simp_all [bodyPostS,results,Tryz.results90]
theorem nil_is (W:World):(binOp .eql 87 .nilFunc .nilFunc).run Tryz.prog W= .ok (.bool true) W:=by kernel_rfl
theorem nil_not (hf:FuncId) (first cap:Array Value) (W:World):(binOp .eql 87 (.func (.func hf) first cap) .nilFunc).run Tryz.prog W= .ok (.bool false) W:=by kernel_rfl
theorem caught_results {W:World} {p:Nat} {c:Int} {tmps:Array Value} (h1:VarL W p [.int .i64 c]) (e1:tmps.getD 4 undef= .pointer (some ⟨p,0,none⟩)):(results Tryz.f56 tmps).run Tryz.prog W= .ok (.int .i64 c) W:=by
 have c0:=h1.c 0 rfl
 have a1:(asAddr (Value.pointer (some ⟨p,0,none⟩))).run Tryz.prog W= .ok ⟨p,0,none⟩ W:=rfl
 have hr:Tryz.f56.results= #[.cell 4 37]:=rfl
 have q2:tmps[4]?.getD undef= .pointer (some ⟨p,0,none⟩):=by simpa using e1
 have l1:(loadVar 37 ⟨p,0,none⟩).run Tryz.prog W= .ok (.int .i64 c) W:=by go_simp
 simp only[results,hr]
 simp[Sem.run_bind,Result.andThen,q2,a1,l1]
theorem caught_name (ib:Addr) (w:World):Calls Tryz.prog 56 #[.nilFunc, .pointer (some ib)] w fun e w'=>e= .returned (.int .i64 7)∧Below w.heap.size w w':=by
 obtain⟨g,W1,hg,hW1,V1,b1,hz1⟩:=boxL w [.int .i64 0] 37
 have HV:=Lh V1
 have HB:=Lh b1
 have hmf: ∀(fn:Fn) (first cap:Array Value) (w:World),(Instr.makeFunc fn first cap).run Tryz.prog w= .ok (.func fn first cap) w:=fun _ _ _ _=>rfl
 have HG:=Lh hg
 have hn0:=nil_is
 have hn1:=nil_not
 clear V1 b1 hz1
 go_enter_defers Tryz.func56,Tryz.ntmps56
 go_wp2
 refine leaves_cons (f:=90) (args:= #[.pointer (some ⟨g,0,none⟩)]) (by simp) (by simp[go_sem]) ?_
 refine(ccatch_flies g 7 _ [] _ HV.out).mono ?_
 rintro e u' w'' ⟨rfl,rfl,rfl⟩
 exact⟨_,caught_results (HV.out.set 0 (.int .i64 7) (by simp)) rfl,rfl,HB.out.setCell (p:=⟨g,0,none⟩) (Nat.le_of_eq HG.out) _⟩
theorem caught_any (hf:FuncId) (first cap:Array Value) (eg: ∀args W,(callFunc hf args).run Tryz.prog W= .ok (.enter hf args) W) (ib:Addr) (w:World) (Q:Int→World→World→Prop)
  (H: ∀W,Below w.heap.size w W→W.heap.size=w.heap.size+1→Calls Tryz.prog hf (first.push (.pointer (some ib))++cap) W fun e w'=>w'.heap[w.heap.size]?=W.heap[w.heap.size]?∧((∃c,e=up c∧Q c W w')∨(e= .returned (.tuple #[])∧Q 0 W w'))):
  Calls Tryz.prog 56 #[.func (.func hf) first cap, .pointer (some ib)] w fun e w'=> ∃c W w3,e= .returned (.int .i64 c)∧Below w.heap.size w W∧W.heap.size=w.heap.size+1∧Q c W w3∧Frm (fun i=>i=w.heap.size) w3 w':=by
 obtain⟨g,W1,hg,hW1,V1,b1,hz1⟩:=boxL w [.int .i64 0] 37
 have HV:=Lh V1
 have HB:=Lh b1
 have HC:=Lh (H W1 b1 (by rw[hz1,hg]))
 have hmf: ∀(fn:Fn) (first cap:Array Value) (w:World),(Instr.makeFunc fn first cap).run Tryz.prog w= .ok (.func fn first cap) w:=fun _ _ _ _=>rfl
 have HG:=Lh hg
 have hn0:=nil_is
 have hn1:=nil_not
 have HZ:=Lh hz1
 clear V1 b1 hz1 H
 go_enter_defers Tryz.func56,Tryz.ntmps56
 go_wp2
 refine(HC.out).mono ?_
 rintro e w3 ⟨hk,⟨c,rfl,hQ⟩|⟨rfl,hQ⟩⟩
 ·have HV3:=Lh (HV.out.stay (w':=w3) (by rw[←HG.out];exact hk))
  have HQ:=Lh hQ
  clear hk hQ
  go_wp2
  refine leaves_cons (f:=90) (args:= #[.pointer (some ⟨g,0,none⟩)]) (by simp) (by simp[go_sem]) ?_
  refine(ccatch_flies g c _ [] _ HV3.out).mono ?_
  rintro e u' w'' ⟨rfl,rfl,rfl⟩
  exact⟨_,caught_results (HV3.out.set 0 (.int .i64 c) (by simp)) rfl,c,W1,w3,rfl,HB.out,by rw[HZ.out,HG.out],HQ.out,Frm.set (O:=fun i=>i=w.heap.size) (Frm.refl _ _) HG.out.symm _ _⟩
 ·have HV3:=Lh (HV.out.stay (w':=w3) (by rw[←HG.out];exact hk))
  have HQ:=Lh hQ
  have c0:=HV3.out.c 0 rfl
  have q0:=HV3.out.q 0 rfl
  clear hk hQ
  go_wp2
  have HV4:=Lh (HV3.out.set 0 (.int .i64 0) (by simp))
  refine leaves_cons (f:=90) (args:= #[.pointer (some ⟨g,0,none⟩)]) (by simp) (by simp[go_sem]) ?_
  refine(ccatch_none ⟨g,0,none⟩ _).mono ?_
  rintro e u' w'' ⟨rfl,rfl,rfl⟩
  exact⟨_,caught_results HV4.out rfl,0,W1,w3,rfl,HB.out,by rw[HZ.out,HG.out],HQ.out,Frm.set (O:=fun i=>i=w.heap.size) (Frm.refl _ _) HG.out.symm _ _⟩
end
section
open Go.RowKit
theorem tk_take {L:List It} {i:Nat} (h:i<L.length):L.take (i+1)=L.take i++ [L.getD i default]:=by
 rw[List.take_add_one,List.getD_eq_getElem?_getD,Kh h];rfl
theorem trF_err: ∀(T:List Tk3) (st:List (Hd×List It)) (n:Nat) (o:Option Hd) (c a b:Int),trF T st n o= .error (c,a,b)→c≠0
 | [],_,_,_,c,a,b,h=>by rw[trF]at h;cases h
 |t::T,st,n,some hd,c,a,b,h=>by
  rw[trF]at h
  split at h
  ·exact trF_err T _ _ _ c a b h
  split at h
  ·exact trF_err T _ _ _ c a b h
  split at h
  ·injection h with h;injection h with h _;omega
  split at h
  ·injection h with h;injection h with h _;omega
  ·exact trF_err T _ _ _ c a b h
 |t::T,st,n,none,c,a,b,h=>by
  rw[trF]at h
  split at h
  ·exact trF_err T _ _ _ c a b h
  split at h
  ·cases h
  split at h
  ·injection h with h;injection h with h _;omega
  split at h
  ·injection h with h;injection h with h _;omega
  split at h
  ·injection h with h;injection h with h _;omega
  ·exact trF_err T _ _ _ c a b h
theorem treF_err {l:List Int} {c a b:Int} (h:treF l= .error (c,a,b)):c≠0:=by
 cases ht:tokF l 0 with
 |error x=>
  obtain⟨k,c2⟩:=x
  rw[treF_bad ht]at h
  injection h with h
  injection h with h _
  rw[←h]
  exact tokF_err l.length 0 k c2 (by omega) ht
 |ok L=>
  rw[treF_fine ht]at h
  exact trF_err _ _ _ _ _ _ _ h
theorem treR_err {s:ByteArray} {c a b:Int} (h:treR s= .error (c,a,b)):c≠0:=by
 unfold treR at h
 split at h
 ·exact treF_err h
 ·injection h with h;injection h with h _;omega
end
section
def FewW:List It→Prop
 | []=>True
 | .mk _ w _ kids _ _::l=>w.length≤6∧FewW kids∧FewW l
end
section
open Go.RowKit
structure FaultMade (w:World) (g:Nat) (c x y:Int) (W2 W3:World):Prop where
 g0:w.heap.size=g
 a2:w.alloc (.cells #[.int .i64 0, .int .i64 0, .int .i64 0] 41)=W2
 s3:((W2.setCell ⟨g,0,none⟩ (.int .i64 c)).setCell ⟨g,1,none⟩ (.int .i64 x)).setCell ⟨g,2,none⟩ (.int .i64 y)=W3
 v2:Var3 W2 g (.int .i64 0) (.int .i64 0) (.int .i64 0)
 v3:Var3 W3 g (.int .i64 c) (.int .i64 x) (.int .i64 y)
 bel:Below w.heap.size w W3
end
section
open Go.RowKit
end
end Go.Proofs.YtalcagmhdppdjaaGreatDoor
