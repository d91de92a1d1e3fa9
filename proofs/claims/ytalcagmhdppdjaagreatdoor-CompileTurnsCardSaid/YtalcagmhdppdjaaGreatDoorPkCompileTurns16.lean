/-
  Package compile: an item of one number is handled.
-/
import Derived.Test.YtalcagmhdppdjaaGreatDoorPkCompileTurns15
set_option maxRecDepth 100000
set_option maxHeartbeats 4000000
namespace Go.Proofs.YtalcagmhdppdjaaGreatDoor
open Lib renaming hid→Lh
open List renaming setIfInBounds_toArray→Lq,set_cons_zero→Lj,set_cons_succ→Lk,getElem?_eq_getElem→Kh,take_succ_cons→Kj,take_zero→Jh,drop_succ_cons→Jj,drop_zero→Jk
open Nat renaming reduceAdd→Lx,zero_add→Ly,lt_of_lt_of_le→Kx
open StepsJ renaming cons→Lz
open Act renaming put→Mq
open Go.RowKit.Below renaming refl→Mj
open Or renaming inl→My
open World renaming cell?_of_block→Kk
section
open Go.RowKit
theorem words_one {w:World} {S:Nat→Prop} {v:Value} {t:Tk3} (h:WordsIs w S v [t]): ∃b off cap,v= .slice (some ⟨b,off,none⟩) 1 cap∧S b∧w.cell? ⟨b,off,none⟩=some (.int .i64 t.k)∧w.cell? ⟨b,off+1,none⟩=some (.string t.s)∧w.cell? ⟨b,off+2,none⟩=some (.int .u64 t.n)∧w.cell? ⟨b,off+3,none⟩=some (.int .i64 t.a)∧w.cell? ⟨b,off+4,none⟩=some (.int .i64 t.b):=by
 obtain⟨a,cap,rfl,_,hc⟩:=h
 obtain⟨b,off,rfl,hS,h0,h1,h2,h3,h4⟩:=hc 0 (by simp)
 simp only[Nat.zero_mul,Nat.add_zero]at h0 h1 h2 h3 h4
 exact⟨b,off,cap,rfl,hS,h0,h1,h2,h3,h4⟩
theorem words_two {w:World} {S:Nat→Prop} {v:Value} {t u:Tk3} (h:WordsIs w S v [t,u]): ∃b off cap,v= .slice (some ⟨b,off,none⟩) 2 cap∧S b∧(w.cell? ⟨b,off,none⟩=some (.int .i64 t.k)∧w.cell? ⟨b,off+1,none⟩=some (.string t.s)∧w.cell? ⟨b,off+2,none⟩=some (.int .u64 t.n)∧w.cell? ⟨b,off+3,none⟩=some (.int .i64 t.a)∧w.cell? ⟨b,off+4,none⟩=some (.int .i64 t.b))∧
  w.cell? ⟨b,off+5,none⟩=some (.int .i64 u.k)∧w.cell? ⟨b,off+6,none⟩=some (.string u.s)∧w.cell? ⟨b,off+7,none⟩=some (.int .u64 u.n)∧w.cell? ⟨b,off+8,none⟩=some (.int .i64 u.a)∧w.cell? ⟨b,off+9,none⟩=some (.int .i64 u.b):=by
 obtain⟨a,cap,rfl,_,hc⟩:=h
 obtain⟨b,off,rfl,hS,h0,h1,h2,h3,h4⟩:=hc 0 (by simp)
 obtain⟨b',off',e,_,q0,q1,q2,q3,q4⟩:=hc 1 (by simp)
 injection e with e
 injection e with e1 e2
 subst e1 e2
 simp only[Nat.zero_mul,Nat.add_zero]at h0 h1 h2 h3 h4
 exact⟨b,off,cap,rfl,hS,⟨h0,h1,h2,h3,h4⟩,q0,q1,q2,q3,q4⟩
def SetsC (K:Foot) (w0:World) (sv:Value) (tb ti:Nat) (ik:IntKind):Prop:=
 ∃sf first cap,sv= .func (.func sf) first cap∧(∀args W,(callFunc sf args).run Tryz.prog W= .ok (.enter sf args) W)∧∀W n l,(∀b,K b→W.heap[b]?=w0.heap[b]?)→VarL W tb l→ti<l.length→0≤n→n≤34560000→
  Calls Tryz.prog sf (first.push (.int .u64 n)++cap) W fun e w'=>e= .returned (.tuple #[])∧w'=W.setCell ⟨tb,ti,none⟩ (.int ik n)
theorem span1_any (bx tb ti:Nat) (n:Int) (l:List Value) (W:World) (hc:W.cell? ⟨bx,0,none⟩=some (.pointer (some ⟨tb,ti,none⟩))) (hV:VarL W tb l) (hi:ti<l.length) (h0:0≤n) (h9:n≤34560000):
  Calls Tryz.prog 102 #[.int .u64 n, .pointer (some ⟨bx,0,none⟩)] W fun e w'=>e= .returned (.tuple #[])∧w'=W.setCell ⟨tb,ti,none⟩ (.int .i64 n):=by
 have c1:=hV.c ti (Kh hi)
 have q1:=hV.q ti (Kh hi)
 have hw:IntKind.i64.wrap n=n:=by rw[IntKind.wrap_i64];omega
 have hw2:wrap64 n=n:=by unfold wrap64;omega
 obtain⟨old,ho⟩: ∃old,l[ti]=old:=⟨_,rfl⟩
 rw[ho]at c1
 clear hV ho
 go_enter Tryz.func102,Tryz.ntmps102
 go_wp2
 first|go_end0|refine bodyPost_ret (results_none rfl _ _ _) rfl ?_
 exact⟨rfl,rfl⟩
theorem count1_any (bx tb ti:Nat) (n:Int) (l:List Value) (W:World) (hc:W.cell? ⟨bx,0,none⟩=some (.pointer (some ⟨tb,ti,none⟩))) (hV:VarL W tb l) (hi:ti<l.length) (h0:0≤n) (h9:n≤34560000):
  Calls Tryz.prog 100 #[.int .u64 n, .pointer (some ⟨bx,0,none⟩)] W fun e w'=>e= .returned (.tuple #[])∧w'=W.setCell ⟨tb,ti,none⟩ (.int .i64 n):=by
 have c1:=hV.c ti (Kh hi)
 have q1:=hV.q ti (Kh hi)
 have hw:IntKind.i64.wrap n=n:=by rw[IntKind.wrap_i64];omega
 have hw2:wrap64 n=n:=by unfold wrap64;omega
 obtain⟨old,ho⟩: ∃old,l[ti]=old:=⟨_,rfl⟩
 rw[ho]at c1
 clear hV ho
 go_enter Tryz.func100,Tryz.ntmps100
 go_wp2
 first|go_end0|refine bodyPost_ret (results_none rfl _ _ _) rfl ?_
 exact⟨rfl,rfl⟩
theorem rule1_any (rb:Nat) (n:Int) (l:List Value) (W:World) (hV:VarL W rb l) (hi:4<l.length):
  Calls Tryz.prog 125 #[.int .u64 n, .pointer (some ⟨rb,0,none⟩)] W fun e w'=>e= .returned (.tuple #[])∧w'=W.setCell ⟨rb,4,none⟩ (.int .u64 n):=by
 have c1:=hV.c 4 (Kh hi)
 have q1:=hV.q 4 (Kh hi)
 obtain⟨old,ho⟩: ∃old,l[4]=old:=⟨_,rfl⟩
 rw[ho]at c1
 clear hV ho
 go_enter Tryz.func125,Tryz.ntmps125
 go_wp2
 first|go_end0|refine bodyPost_ret (results_none rfl _ _ _) rfl ?_
 exact⟨rfl,rfl⟩
theorem read1_any (bx gb:Nat) (n:Int) (l:List Value) (W:World) (hc:W.cell? ⟨bx,0,none⟩=some (.pointer (some ⟨gb,0,none⟩))) (hV:VarL W gb l) (hi:2<l.length) (h0:0≤n) (h9:n≤34560000):
  Calls Tryz.prog 95 #[.int .u64 n, .pointer (some ⟨bx,0,none⟩)] W fun e w'=>e= .returned (.tuple #[])∧w'=W.setCell ⟨gb,2,none⟩ (.int .u32 n):=by
 have c1:=hV.c 2 (Kh hi)
 have q1:=hV.q 2 (Kh hi)
 have hw:IntKind.u32.wrap n=n:=by rw[IntKind.wrap_u32];omega
 obtain⟨old,ho⟩: ∃old,l[2]=old:=⟨_,rfl⟩
 rw[ho]at c1
 clear hV ho
 go_enter Tryz.func95,Tryz.ntmps95
 go_wp2
 first|go_end0|refine bodyPost_ret (results_none rfl _ _ _) rfl ?_
 exact⟨rfl,rfl⟩
def OfC (ofn:FuncId) (ok:Tk3→Prop) (val:Tk3→Int):Prop:=
 (∀args W,(callFunc ofn args).run Tryz.prog W= .ok (.enter ofn args) W)∧∀(t:Tk3) (W:World),1≤t.k→t.k≤6→0≤t.n→t.n≤18446744073709551615→
  (ok t→Calls Tryz.prog ofn #[tkA t] W fun e w'=>e= .returned (.int .u64 (val t))∧Below W.heap.size W w')∧(¬ok t→Calls Tryz.prog ofn #[tkA t] W fun e w'=>e=up 6∧Below W.heap.size W w')
theorem share_of:OfC 94 (fun t=>t.k=5) (fun t=>t.n):=⟨enters_of Tryz.func94 (by kernel_rfl) rfl,fun t W h1 h6 _ _=>⟨fun h=>shareOf_yes t W h1 h6 h,fun h=>shareOf_no t W h1 h6 h⟩⟩
theorem count_of:OfC 99 (fun t=>t.k=3) (fun t=>t.n):=⟨enters_of Tryz.func99 (by kernel_rfl) rfl,fun t W h1 h6 _ _=>⟨fun h=>countOf_yes t W h1 h6 h,fun h=>countOf_no t W h1 h6 h⟩⟩
theorem span_of:OfC 101 (fun t=>t.k=6) (fun t=>t.n):=⟨enters_of Tryz.func101 (by kernel_rfl) rfl,fun t W h1 h6 _ _=>⟨fun h=>spanOf_yes t W h1 h6 h,fun h=>spanOf_no t W h1 h6 h⟩⟩
def facV (t:Tk3):Int:=if t.k=3 then 1000*min t.n 1001 else t.n
theorem factor_of:OfC 124 (fun t=>t.k=4∨t.k=3) facV:=by
 refine⟨enters_of Tryz.func124 (by kernel_rfl) rfl,fun t W h1 h6 h0 h9=>⟨fun h=>?_,fun h=>factorOf_no t W h1 h6 ⟨fun e=>h (My e),fun e=>h (Or.inr e)⟩⟩⟩
 unfold facV
 by_cases h3:t.k=3
 ·rw[if_pos h3]
  exact factorOf_cnt t W h1 h6 ⟨h0,h9⟩ h3
 ·rw[if_neg h3]
  exact factorOf_fac t W h1 h6 (h.resolve_right h3)
structure NumAt (w:World) (B:Nat) (ofn:FuncId) (lo hi:Int) (sv:Value):Prop where
 c0:w.cell? ⟨B,0,none⟩=some (.func (.func ofn) #[] #[])
 c1:w.cell? ⟨B+1,0,none⟩=some (.int .u64 lo)
 c2:w.cell? ⟨B+2,0,none⟩=some (.int .u64 hi)
 c3:w.cell? ⟨B+3,0,none⟩=some sv
theorem NumAt.keep {w w':World} {B:Nat} {ofn:FuncId} {lo hi:Int} {sv:Value} (h:NumAt w B ofn lo hi sv) (e: ∀i,i<4→w'.heap[B+i]?=w.heap[B+i]?):NumAt w' B ofn lo hi sv:=
 ⟨(Kk (a:=⟨B,0,none⟩) (e 0 (by decide))).trans h.c0,(Kk (a:=⟨B+1,0,none⟩) (e 1 (by decide))).trans h.c1,(Kk (a:=⟨B+2,0,none⟩) (e 2 (by decide))).trans h.c2,(Kk (a:=⟨B+3,0,none⟩) (e 3 (by decide))).trans h.c3⟩
theorem number1_form (x:It) (W:World) (ib mb B:Nat) (wa:Option Addr) (wc:Nat) (kv:Value) (sec:ByteArray) (h:VarL W ib (itemL x (.slice wa x.words.length wc) kv mb sec)) (hno: ¬(x.words.length=1∧x.block=false)):
  Calls Tryz.prog 121 #[.pointer (some ⟨ib,0,none⟩), .pointer (some ⟨B,0,none⟩), .pointer (some ⟨B+1,0,none⟩), .pointer (some ⟨B+2,0,none⟩), .pointer (some ⟨B+3,0,none⟩)] W fun e w'=>e=up 6∧Below W.heap.size W w':=by
 have HF:Hid (Calls Tryz.prog 59 #[.pointer (some ⟨ib,0,none⟩), .int .i64 1, .bool false] W fun e w'=>e=up 6∧w'=W):=Lh (form_no x 1 false W ib mb wa wc kv sec h hno)
 clear h hno
 go_enter Tryz.func121,Tryz.ntmps121
 go_wp2_with (go_at_call 59;(with_reducible refine(HF.out).mono ?_);rintro e w1 ⟨rfl,rfl⟩)
 first|exact⟨rfl,Mj _ _⟩|exact⟨rfl,rfl,Mj _ _⟩
theorem number1_kind (x:It) (t:Tk3) (S:Nat→Prop) (W:World) (ib mb B:Nat) (wv kv:Value) (sec:ByteArray) (ofn:FuncId) (lo hi:Int) (sv:Value) (ok:Tk3→Prop) (val:Tk3→Int) (hof:OfC ofn ok val) (h:VarL W ib (itemL x wv kv mb sec)) (hx:x.words= [t]) (hbk:x.block=false) (hw:WordsIs W S wv x.words) (hS: ∀b,S b→b<W.heap.size) (hB:B+3<W.heap.size) (hN:NumAt W B ofn lo hi sv) (hk:1≤t.k∧t.k≤6∧0≤t.n∧t.n≤18446744073709551615) (hno: ¬ok t):
  Calls Tryz.prog 121 #[.pointer (some ⟨ib,0,none⟩), .pointer (some ⟨B,0,none⟩), .pointer (some ⟨B+1,0,none⟩), .pointer (some ⟨B+2,0,none⟩), .pointer (some ⟨B+3,0,none⟩)] W fun e w'=>e=up 6∧Below W.heap.size W w':=by
 rw[hx]at hw
 obtain⟨wb,wo,wc,rfl,hs,w0,w1,w2,w3,w4⟩:=words_one hw
 have hsl:=hS wb hs
 have HF:Hid (Calls Tryz.prog 59 #[.pointer (some ⟨ib,0,none⟩), .int .i64 1, .bool false] W fun e w'=>e= .returned (.tuple #[])∧w'=W):=Lh (form_yes x 1 false W ib mb (some ⟨wb,wo,none⟩) wc kv sec (by rw[hx];exact h) ⟨by rw[hx];rfl,hbk⟩)
 have HV:=Lh h
 have HNA:Hid (∀W1,Below W.heap.size W W1→NumAt W1 B ofn lo hi sv):=Lh (fun W1 hb=>hN.keep (fun i hi=>hb.block _ (by omega)))
 have HTK:Hid (∀W1,Below W.heap.size W W1→W1.cell? ⟨wb,wo,none⟩=some (.int .i64 t.k)∧W1.cell? ⟨wb,wo+1,none⟩=some (.string t.s)∧W1.cell? ⟨wb,wo+2,none⟩=some (.int .u64 t.n)∧W1.cell? ⟨wb,wo+3,none⟩=some (.int .i64 t.a)∧W1.cell? ⟨wb,wo+4,none⟩=some (.int .i64 t.b)):=Lh (fun W1 hb=>
  ⟨(hb.cell (p:=⟨wb,wo,none⟩) hsl).trans w0,(hb.cell (p:=⟨wb,wo+1,none⟩) hsl).trans w1,(hb.cell (p:=⟨wb,wo+2,none⟩) hsl).trans w2,(hb.cell (p:=⟨wb,wo+3,none⟩) hsl).trans w3,(hb.cell (p:=⟨wb,wo+4,none⟩) hsl).trans w4⟩)
 have eg:=hof.1
 have HO:=Lh (fun W1=>(hof.2 t W1 hk.1 hk.2.1 hk.2.2.1 hk.2.2.2).2 hno)
 unfold tkA at HO
 clear h hx hbk hw hS hN hk hs w0 w1 w2 w3 w4 hsl hof hno
 go_enter Tryz.func121,Tryz.ntmps121
 go_wp2_with (go_at_call 59;(with_reducible refine(HF.out).mono ?_);rintro e w1 ⟨rfl,hw1⟩;rw[hw1];clear hw1 w1)
 refine wp_region_mixj 8 (TLst [.func (.func ofn) #[] #[], .pointer (some ⟨ib,0,none⟩), .pointer (some ⟨ib,0,none⟩), .pointer (some ⟨ib,0,none⟩), .pointer (some ⟨ib,1,none⟩), .slice (some ⟨wb,wo,none⟩) 1 wc, .pointer (some ⟨wb,wo,none⟩), .agg #[.int .i64 t.k, .string t.s, .int .u64 t.n, .int .i64 t.a, .int .i64 t.b]]) (fun _ W1=>Below W.heap.size W W1) (by kernel_rfl) (by kernel_rfl) (Mj _ _).drew ?_ ?_
 ·simp only[Kj,Jh]
  refine(Lz ?_ (Lz ?_ (Lz ?_ (Lz ?_ (Lz ?_ (Lz ?_ (Lz ?_ (Lz ?_ StepsJ.nil))))))))
  all_goals(intro u W1 L hL hj hd;simp only[putAll,Mq,Lq,Lk,Lj,Ly,Lx])
  ·have c0:=(HNA.out W1 hj).c0
   have hj1:=hj
   go_wp2
   first|exact hj1|exact rfl|exact⟨rfl,hj1⟩|exact⟨rfl,hj1,k4⟩|exact⟨_,rfl,rfl,hj1,k4⟩
  ·have hj1:=hj
   go_wp2
   first|exact hj1|exact rfl|exact⟨rfl,hj1⟩|exact⟨rfl,hj1,k4⟩|exact⟨_,rfl,rfl,hj1,k4⟩
  ·have e1:u 1= .pointer (some ⟨ib,0,none⟩):=(hd.1 rfl (by decide)).2
   rw[e1]
   have hj1:=hj
   go_wp2
   first|exact hj1|exact rfl|exact⟨rfl,hj1⟩|exact⟨rfl,hj1,k4⟩|exact⟨_,rfl,rfl,hj1,k4⟩
  ·have e2:u 2= .pointer (some ⟨ib,0,none⟩):=(hd.1 rfl (by decide)).2
   rw[e2]
   have hj1:=hj
   go_wp2
   first|exact hj1|exact rfl|exact⟨rfl,hj1⟩|exact⟨rfl,hj1,k4⟩|exact⟨_,rfl,rfl,hj1,k4⟩
  ·have e3:u 3= .pointer (some ⟨ib,0,none⟩):=(hd.1 rfl (by decide)).2
   rw[e3]
   have hj1:=hj
   go_wp2
   first|exact hj1|exact rfl|exact⟨rfl,hj1⟩|exact⟨rfl,hj1,k4⟩|exact⟨_,rfl,rfl,hj1,k4⟩
  ·have e4:u 4= .pointer (some ⟨ib,1,none⟩):=(hd.1 rfl (by decide)).2
   have c1:=(HV.out.after hj).c 1 rfl
   rw[e4]
   have hj1:=hj
   go_wp2
   first|exact hj1|exact rfl|exact⟨rfl,hj1⟩|exact⟨rfl,hj1,k4⟩|exact⟨_,rfl,rfl,hj1,k4⟩
  ·have e5:u 5= .slice (some ⟨wb,wo,none⟩) 1 wc:=(hd.1 rfl (by decide)).2
   rw[e5]
   have hj1:=hj
   go_wp2
   first|exact hj1|exact rfl|exact⟨rfl,hj1⟩|exact⟨rfl,hj1,k4⟩|exact⟨_,rfl,rfl,hj1,k4⟩
  ·have e6:u 6= .pointer (some ⟨wb,wo,none⟩):=(hd.1 rfl (by decide)).2
   obtain⟨t0,t1,t2,t3,t4⟩:=HTK.out W1 hj
   rw[e6]
   have hj1:=hj
   go_wp2
   first|exact hj1|exact rfl|exact⟨rfl,hj1⟩|exact⟨rfl,hj1,k4⟩|exact⟨_,rfl,rfl,hj1,k4⟩
 ·intro u W1 L hall hb ht
  have e0:u 0= .func (.func ofn) #[] #[]:=ht 0 (by decide)
  have e7:u 7= .agg #[.int .i64 t.k, .string t.s, .int .u64 t.n, .int .i64 t.a, .int .i64 t.b]:=ht 7 (by decide)
  have HBW:=Lh hb
  clear hb ht hall
  simp only[Kj,Jh,Jj,Jk,putAll,Mq,Lq,Lk,Lj,Ly,Lx]
  rw[e0,e7]
  go_wp2_with ((with_reducible refine(HO.out _).mono ?_);rintro e w2 ⟨rfl,g2⟩;have G2:=Lh (HBW.out.trans (g2.mono HBW.out.size));clear g2)
  first|exact⟨rfl,G2.out⟩|exact⟨rfl,rfl,G2.out⟩
theorem number1_known (x:It) (t:Tk3) (S:Nat→Prop) (W:World) (ib mb B:Nat) (wv kv:Value) (sec:ByteArray) (ofn:FuncId) (lo hi:Int) (sv:Value) (ok:Tk3→Prop) (val:Tk3→Int) (hof:OfC ofn ok val) (h:VarL W ib (itemL x wv kv mb sec)) (hx:x.words= [t]) (hbk:x.block=false) (hw:WordsIs W S wv x.words) (hS: ∀b,S b→b<W.heap.size) (hB:B+3<W.heap.size) (hN:NumAt W B ofn lo hi sv) (hk:1≤t.k∧t.k≤6∧0≤t.n∧t.n≤18446744073709551615) (f:ByteArray→ByteArray→Nat) (hc:CntIs W mb f) (hok:ok t) (hf:f x.name ⟨#[]⟩≠0):
  Calls Tryz.prog 121 #[.pointer (some ⟨ib,0,none⟩), .pointer (some ⟨B,0,none⟩), .pointer (some ⟨B+1,0,none⟩), .pointer (some ⟨B+2,0,none⟩), .pointer (some ⟨B+3,0,none⟩)] W fun e w'=>e=up 18∧Below W.heap.size W w':=by
 rw[hx]at hw
 obtain⟨wb,wo,wc,rfl,hs,w0,w1,w2,w3,w4⟩:=words_one hw
 have hsl:=hS wb hs
 have HF:Hid (Calls Tryz.prog 59 #[.pointer (some ⟨ib,0,none⟩), .int .i64 1, .bool false] W fun e w'=>e= .returned (.tuple #[])∧w'=W):=Lh (form_yes x 1 false W ib mb (some ⟨wb,wo,none⟩) wc kv sec (by rw[hx];exact h) ⟨by rw[hx];rfl,hbk⟩)
 have HV:=Lh h
 have HNA:Hid (∀W1,Below W.heap.size W W1→NumAt W1 B ofn lo hi sv):=Lh (fun W1 hb=>hN.keep (fun i hi=>hb.block _ (by omega)))
 have HTK:Hid (∀W1,Below W.heap.size W W1→W1.cell? ⟨wb,wo,none⟩=some (.int .i64 t.k)∧W1.cell? ⟨wb,wo+1,none⟩=some (.string t.s)∧W1.cell? ⟨wb,wo+2,none⟩=some (.int .u64 t.n)∧W1.cell? ⟨wb,wo+3,none⟩=some (.int .i64 t.a)∧W1.cell? ⟨wb,wo+4,none⟩=some (.int .i64 t.b)):=Lh (fun W1 hb=>
  ⟨(hb.cell (p:=⟨wb,wo,none⟩) hsl).trans w0,(hb.cell (p:=⟨wb,wo+1,none⟩) hsl).trans w1,(hb.cell (p:=⟨wb,wo+2,none⟩) hsl).trans w2,(hb.cell (p:=⟨wb,wo+3,none⟩) hsl).trans w3,(hb.cell (p:=⟨wb,wo+4,none⟩) hsl).trans w4⟩)
 have eg:=hof.1
 have HONC:Hid (∀W1,Below W.heap.size W W1→Calls Tryz.prog 63 #[.pointer (some ⟨ib,0,none⟩)] W1 fun e w'=>e=up 18∧Below W1.heap.size W1 w'):=Lh (fun W1 hb=>once_no x W1 ib mb (.slice (some ⟨wb,wo,none⟩) 1 wc) kv sec f (h.after hb) (hc.keep (hb.block mb hc.lt)) hf)
 have HO:=Lh (fun W1=>(hof.2 t W1 hk.1 hk.2.1 hk.2.2.1 hk.2.2.2).1 hok)
 obtain⟨n,hn⟩: ∃n,val t=n:=⟨_,rfl⟩
 rw[hn]at HO
 unfold tkA at HO
 clear h hx hbk hw hS hN hk hs w0 w1 w2 w3 w4 hsl hof hok hf hc hn
 go_enter Tryz.func121,Tryz.ntmps121
 go_wp2_with (go_at_call 59;(with_reducible refine(HF.out).mono ?_);rintro e w1 ⟨rfl,hw1⟩;rw[hw1];clear hw1 w1)
 refine wp_region_mixj 8 (TLst [.func (.func ofn) #[] #[], .pointer (some ⟨ib,0,none⟩), .pointer (some ⟨ib,0,none⟩), .pointer (some ⟨ib,0,none⟩), .pointer (some ⟨ib,1,none⟩), .slice (some ⟨wb,wo,none⟩) 1 wc, .pointer (some ⟨wb,wo,none⟩), .agg #[.int .i64 t.k, .string t.s, .int .u64 t.n, .int .i64 t.a, .int .i64 t.b]]) (fun _ W1=>Below W.heap.size W W1) (by kernel_rfl) (by kernel_rfl) (Mj _ _).drew ?_ ?_
 ·simp only[Kj,Jh]
  refine(Lz ?_ (Lz ?_ (Lz ?_ (Lz ?_ (Lz ?_ (Lz ?_ (Lz ?_ (Lz ?_ StepsJ.nil))))))))
  all_goals(intro u W1 L hL hj hd;simp only[putAll,Mq,Lq,Lk,Lj,Ly,Lx])
  ·have c0:=(HNA.out W1 hj).c0
   have hj1:=hj
   go_wp2
   first|exact hj1|exact rfl|exact⟨rfl,hj1⟩|exact⟨rfl,hj1,k4⟩|exact⟨_,rfl,rfl,hj1,k4⟩
  ·have hj1:=hj
   go_wp2
   first|exact hj1|exact rfl|exact⟨rfl,hj1⟩|exact⟨rfl,hj1,k4⟩|exact⟨_,rfl,rfl,hj1,k4⟩
  ·have e1:u 1= .pointer (some ⟨ib,0,none⟩):=(hd.1 rfl (by decide)).2
   rw[e1]
   have hj1:=hj
   go_wp2
   first|exact hj1|exact rfl|exact⟨rfl,hj1⟩|exact⟨rfl,hj1,k4⟩|exact⟨_,rfl,rfl,hj1,k4⟩
  ·have e2:u 2= .pointer (some ⟨ib,0,none⟩):=(hd.1 rfl (by decide)).2
   rw[e2]
   have hj1:=hj
   go_wp2
   first|exact hj1|exact rfl|exact⟨rfl,hj1⟩|exact⟨rfl,hj1,k4⟩|exact⟨_,rfl,rfl,hj1,k4⟩
  ·have e3:u 3= .pointer (some ⟨ib,0,none⟩):=(hd.1 rfl (by decide)).2
   rw[e3]
   have hj1:=hj
   go_wp2
   first|exact hj1|exact rfl|exact⟨rfl,hj1⟩|exact⟨rfl,hj1,k4⟩|exact⟨_,rfl,rfl,hj1,k4⟩
  ·have e4:u 4= .pointer (some ⟨ib,1,none⟩):=(hd.1 rfl (by decide)).2
   have c1:=(HV.out.after hj).c 1 rfl
   rw[e4]
   have hj1:=hj
   go_wp2
   first|exact hj1|exact rfl|exact⟨rfl,hj1⟩|exact⟨rfl,hj1,k4⟩|exact⟨_,rfl,rfl,hj1,k4⟩
  ·have e5:u 5= .slice (some ⟨wb,wo,none⟩) 1 wc:=(hd.1 rfl (by decide)).2
   rw[e5]
   have hj1:=hj
   go_wp2
   first|exact hj1|exact rfl|exact⟨rfl,hj1⟩|exact⟨rfl,hj1,k4⟩|exact⟨_,rfl,rfl,hj1,k4⟩
  ·have e6:u 6= .pointer (some ⟨wb,wo,none⟩):=(hd.1 rfl (by decide)).2
   obtain⟨t0,t1,t2,t3,t4⟩:=HTK.out W1 hj
   rw[e6]
   have hj1:=hj
   go_wp2
   first|exact hj1|exact rfl|exact⟨rfl,hj1⟩|exact⟨rfl,hj1,k4⟩|exact⟨_,rfl,rfl,hj1,k4⟩
 ·intro u W1 L hall hb ht
  have e0:u 0= .func (.func ofn) #[] #[]:=ht 0 (by decide)
  have e7:u 7= .agg #[.int .i64 t.k, .string t.s, .int .u64 t.n, .int .i64 t.a, .int .i64 t.b]:=ht 7 (by decide)
  have HBW:=Lh hb
  clear hb ht hall
  simp only[Kj,Jh,Jj,Jk,putAll,Mq,Lq,Lk,Lj,Ly,Lx]
  rw[e0,e7]
  go_wp2_with (first
   |(go_at_call 63;(with_reducible refine hon.mono ?_);rintro e w3 ⟨rfl,g3⟩;have G3:=Lh (below_step G2.out g3);clear g3 hon)
   |((with_reducible refine(HO.out _).mono ?_);rintro e w2 ⟨rfl,g2⟩;have G2:=Lh (HBW.out.trans (g2.mono HBW.out.size));have hon:=HONC.out w2 G2.out;clear g2))
  first|exact⟨rfl,G3.out⟩|exact⟨rfl,rfl,G3.out⟩
theorem number1_low (x:It) (t:Tk3) (S:Nat→Prop) (W:World) (ib mb B:Nat) (wv kv:Value) (sec:ByteArray) (ofn:FuncId) (lo hi:Int) (sv:Value) (ok:Tk3→Prop) (val:Tk3→Int) (hof:OfC ofn ok val) (h:VarL W ib (itemL x wv kv mb sec)) (hx:x.words= [t]) (hbk:x.block=false) (hw:WordsIs W S wv x.words) (hS: ∀b,S b→b<W.heap.size) (hB:B+3<W.heap.size) (hN:NumAt W B ofn lo hi sv) (hk:1≤t.k∧t.k≤6∧0≤t.n∧t.n≤18446744073709551615) (f:ByteArray→ByteArray→Nat) (hc:CntIs W mb f) (hok:ok t) (hf:f x.name ⟨#[]⟩=0) (hr:val t<lo):
  Calls Tryz.prog 121 #[.pointer (some ⟨ib,0,none⟩), .pointer (some ⟨B,0,none⟩), .pointer (some ⟨B+1,0,none⟩), .pointer (some ⟨B+2,0,none⟩), .pointer (some ⟨B+3,0,none⟩)] W fun e w'=>e=up 8∧Below W.heap.size W w':=by
 rw[hx]at hw
 obtain⟨wb,wo,wc,rfl,hs,w0,w1,w2,w3,w4⟩:=words_one hw
 have hsl:=hS wb hs
 have HF:Hid (Calls Tryz.prog 59 #[.pointer (some ⟨ib,0,none⟩), .int .i64 1, .bool false] W fun e w'=>e= .returned (.tuple #[])∧w'=W):=Lh (form_yes x 1 false W ib mb (some ⟨wb,wo,none⟩) wc kv sec (by rw[hx];exact h) ⟨by rw[hx];rfl,hbk⟩)
 have HV:=Lh h
 have HNA:Hid (∀W1,Below W.heap.size W W1→NumAt W1 B ofn lo hi sv):=Lh (fun W1 hb=>hN.keep (fun i hi=>hb.block _ (by omega)))
 have HTK:Hid (∀W1,Below W.heap.size W W1→W1.cell? ⟨wb,wo,none⟩=some (.int .i64 t.k)∧W1.cell? ⟨wb,wo+1,none⟩=some (.string t.s)∧W1.cell? ⟨wb,wo+2,none⟩=some (.int .u64 t.n)∧W1.cell? ⟨wb,wo+3,none⟩=some (.int .i64 t.a)∧W1.cell? ⟨wb,wo+4,none⟩=some (.int .i64 t.b)):=Lh (fun W1 hb=>
  ⟨(hb.cell (p:=⟨wb,wo,none⟩) hsl).trans w0,(hb.cell (p:=⟨wb,wo+1,none⟩) hsl).trans w1,(hb.cell (p:=⟨wb,wo+2,none⟩) hsl).trans w2,(hb.cell (p:=⟨wb,wo+3,none⟩) hsl).trans w3,(hb.cell (p:=⟨wb,wo+4,none⟩) hsl).trans w4⟩)
 have eg:=hof.1
 have HONC:Hid (∀W1,Below W.heap.size W W1→Calls Tryz.prog 63 #[.pointer (some ⟨ib,0,none⟩)] W1 fun e w'=>e= .returned (.tuple #[])∧Below W1.heap.size W1 w'):=Lh (fun W1 hb=>once_yes x W1 ib mb (.slice (some ⟨wb,wo,none⟩) 1 wc) kv sec f (h.after hb) (hc.keep (hb.block mb hc.lt)) hf)
 have HO:=Lh (fun W1=>(hof.2 t W1 hk.1 hk.2.1 hk.2.2.1 hk.2.2.2).1 hok)
 obtain⟨n,hn⟩: ∃n,val t=n:=⟨_,rfl⟩
 rw[hn]at HO hr
 unfold tkA at HO
 clear h hx hbk hw hS hN hk hs w0 w1 w2 w3 w4 hsl hof hok hf hc hn
 go_enter Tryz.func121,Tryz.ntmps121
 go_wp2_with (go_at_call 59;(with_reducible refine(HF.out).mono ?_);rintro e w1 ⟨rfl,hw1⟩;rw[hw1];clear hw1 w1)
 refine wp_region_mixj 8 (TLst [.func (.func ofn) #[] #[], .pointer (some ⟨ib,0,none⟩), .pointer (some ⟨ib,0,none⟩), .pointer (some ⟨ib,0,none⟩), .pointer (some ⟨ib,1,none⟩), .slice (some ⟨wb,wo,none⟩) 1 wc, .pointer (some ⟨wb,wo,none⟩), .agg #[.int .i64 t.k, .string t.s, .int .u64 t.n, .int .i64 t.a, .int .i64 t.b]]) (fun _ W1=>Below W.heap.size W W1) (by kernel_rfl) (by kernel_rfl) (Mj _ _).drew ?_ ?_
 ·simp only[Kj,Jh]
  refine(Lz ?_ (Lz ?_ (Lz ?_ (Lz ?_ (Lz ?_ (Lz ?_ (Lz ?_ (Lz ?_ StepsJ.nil))))))))
  all_goals(intro u W1 L hL hj hd;simp only[putAll,Mq,Lq,Lk,Lj,Ly,Lx])
  ·have c0:=(HNA.out W1 hj).c0
   have hj1:=hj
   go_wp2
   first|exact hj1|exact rfl|exact⟨rfl,hj1⟩|exact⟨rfl,hj1,k4⟩|exact⟨_,rfl,rfl,hj1,k4⟩
  ·have hj1:=hj
   go_wp2
   first|exact hj1|exact rfl|exact⟨rfl,hj1⟩|exact⟨rfl,hj1,k4⟩|exact⟨_,rfl,rfl,hj1,k4⟩
  ·have e1:u 1= .pointer (some ⟨ib,0,none⟩):=(hd.1 rfl (by decide)).2
   rw[e1]
   have hj1:=hj
   go_wp2
   first|exact hj1|exact rfl|exact⟨rfl,hj1⟩|exact⟨rfl,hj1,k4⟩|exact⟨_,rfl,rfl,hj1,k4⟩
  ·have e2:u 2= .pointer (some ⟨ib,0,none⟩):=(hd.1 rfl (by decide)).2
   rw[e2]
   have hj1:=hj
   go_wp2
   first|exact hj1|exact rfl|exact⟨rfl,hj1⟩|exact⟨rfl,hj1,k4⟩|exact⟨_,rfl,rfl,hj1,k4⟩
  ·have e3:u 3= .pointer (some ⟨ib,0,none⟩):=(hd.1 rfl (by decide)).2
   rw[e3]
   have hj1:=hj
   go_wp2
   first|exact hj1|exact rfl|exact⟨rfl,hj1⟩|exact⟨rfl,hj1,k4⟩|exact⟨_,rfl,rfl,hj1,k4⟩
  ·have e4:u 4= .pointer (some ⟨ib,1,none⟩):=(hd.1 rfl (by decide)).2
   have c1:=(HV.out.after hj).c 1 rfl
   rw[e4]
   have hj1:=hj
   go_wp2
   first|exact hj1|exact rfl|exact⟨rfl,hj1⟩|exact⟨rfl,hj1,k4⟩|exact⟨_,rfl,rfl,hj1,k4⟩
  ·have e5:u 5= .slice (some ⟨wb,wo,none⟩) 1 wc:=(hd.1 rfl (by decide)).2
   rw[e5]
   have hj1:=hj
   go_wp2
   first|exact hj1|exact rfl|exact⟨rfl,hj1⟩|exact⟨rfl,hj1,k4⟩|exact⟨_,rfl,rfl,hj1,k4⟩
  ·have e6:u 6= .pointer (some ⟨wb,wo,none⟩):=(hd.1 rfl (by decide)).2
   obtain⟨t0,t1,t2,t3,t4⟩:=HTK.out W1 hj
   rw[e6]
   have hj1:=hj
   go_wp2
   first|exact hj1|exact rfl|exact⟨rfl,hj1⟩|exact⟨rfl,hj1,k4⟩|exact⟨_,rfl,rfl,hj1,k4⟩
 ·intro u W1 L hall hb ht
  have e0:u 0= .func (.func ofn) #[] #[]:=ht 0 (by decide)
  have e7:u 7= .agg #[.int .i64 t.k, .string t.s, .int .u64 t.n, .int .i64 t.a, .int .i64 t.b]:=ht 7 (by decide)
  have HBW:=Lh hb
  clear hb ht hall
  simp only[Kj,Jh,Jj,Jk,putAll,Mq,Lq,Lk,Lj,Ly,Lx]
  rw[e0,e7]
  go_wp2_with (first
   |(go_at_call 63;(with_reducible refine hon.mono ?_);rintro e w3 ⟨rfl,g3⟩;have G3:=Lh (below_step G2.out g3);have n1:=(HNA.out w3 G3.out).c1;have n2:=(HNA.out w3 G3.out).c2;clear g3 hon)
   |((with_reducible refine(HO.out _).mono ?_);rintro e w2 ⟨rfl,g2⟩;have G2:=Lh (HBW.out.trans (g2.mono HBW.out.size));have hon:=HONC.out w2 G2.out;clear g2))
  first|exact⟨rfl,G3.out⟩|exact⟨rfl,rfl,G3.out⟩
theorem number1_high (x:It) (t:Tk3) (S:Nat→Prop) (W:World) (ib mb B:Nat) (wv kv:Value) (sec:ByteArray) (ofn:FuncId) (lo hi:Int) (sv:Value) (ok:Tk3→Prop) (val:Tk3→Int) (hof:OfC ofn ok val) (h:VarL W ib (itemL x wv kv mb sec)) (hx:x.words= [t]) (hbk:x.block=false) (hw:WordsIs W S wv x.words) (hS: ∀b,S b→b<W.heap.size) (hB:B+3<W.heap.size) (hN:NumAt W B ofn lo hi sv) (hk:1≤t.k∧t.k≤6∧0≤t.n∧t.n≤18446744073709551615) (f:ByteArray→ByteArray→Nat) (hc:CntIs W mb f) (hok:ok t) (hf:f x.name ⟨#[]⟩=0) (hr: ¬val t<lo∧hi<val t):
  Calls Tryz.prog 121 #[.pointer (some ⟨ib,0,none⟩), .pointer (some ⟨B,0,none⟩), .pointer (some ⟨B+1,0,none⟩), .pointer (some ⟨B+2,0,none⟩), .pointer (some ⟨B+3,0,none⟩)] W fun e w'=>e=up 8∧Below W.heap.size W w':=by
 rw[hx]at hw
 obtain⟨wb,wo,wc,rfl,hs,w0,w1,w2,w3,w4⟩:=words_one hw
 have hsl:=hS wb hs
 have HF:Hid (Calls Tryz.prog 59 #[.pointer (some ⟨ib,0,none⟩), .int .i64 1, .bool false] W fun e w'=>e= .returned (.tuple #[])∧w'=W):=Lh (form_yes x 1 false W ib mb (some ⟨wb,wo,none⟩) wc kv sec (by rw[hx];exact h) ⟨by rw[hx];rfl,hbk⟩)
 have HV:=Lh h
 have HNA:Hid (∀W1,Below W.heap.size W W1→NumAt W1 B ofn lo hi sv):=Lh (fun W1 hb=>hN.keep (fun i hi=>hb.block _ (by omega)))
 have HTK:Hid (∀W1,Below W.heap.size W W1→W1.cell? ⟨wb,wo,none⟩=some (.int .i64 t.k)∧W1.cell? ⟨wb,wo+1,none⟩=some (.string t.s)∧W1.cell? ⟨wb,wo+2,none⟩=some (.int .u64 t.n)∧W1.cell? ⟨wb,wo+3,none⟩=some (.int .i64 t.a)∧W1.cell? ⟨wb,wo+4,none⟩=some (.int .i64 t.b)):=Lh (fun W1 hb=>
  ⟨(hb.cell (p:=⟨wb,wo,none⟩) hsl).trans w0,(hb.cell (p:=⟨wb,wo+1,none⟩) hsl).trans w1,(hb.cell (p:=⟨wb,wo+2,none⟩) hsl).trans w2,(hb.cell (p:=⟨wb,wo+3,none⟩) hsl).trans w3,(hb.cell (p:=⟨wb,wo+4,none⟩) hsl).trans w4⟩)
 have eg:=hof.1
 have HONC:Hid (∀W1,Below W.heap.size W W1→Calls Tryz.prog 63 #[.pointer (some ⟨ib,0,none⟩)] W1 fun e w'=>e= .returned (.tuple #[])∧Below W1.heap.size W1 w'):=Lh (fun W1 hb=>once_yes x W1 ib mb (.slice (some ⟨wb,wo,none⟩) 1 wc) kv sec f (h.after hb) (hc.keep (hb.block mb hc.lt)) hf)
 have HO:=Lh (fun W1=>(hof.2 t W1 hk.1 hk.2.1 hk.2.2.1 hk.2.2.2).1 hok)
 obtain⟨n,hn⟩: ∃n,val t=n:=⟨_,rfl⟩
 rw[hn]at HO hr
 unfold tkA at HO
 obtain⟨hr,hr2⟩:=hr
 clear h hx hbk hw hS hN hk hs w0 w1 w2 w3 w4 hsl hof hok hf hc hn
 go_enter Tryz.func121,Tryz.ntmps121
 go_wp2_with (go_at_call 59;(with_reducible refine(HF.out).mono ?_);rintro e w1 ⟨rfl,hw1⟩;rw[hw1];clear hw1 w1)
 refine wp_region_mixj 8 (TLst [.func (.func ofn) #[] #[], .pointer (some ⟨ib,0,none⟩), .pointer (some ⟨ib,0,none⟩), .pointer (some ⟨ib,0,none⟩), .pointer (some ⟨ib,1,none⟩), .slice (some ⟨wb,wo,none⟩) 1 wc, .pointer (some ⟨wb,wo,none⟩), .agg #[.int .i64 t.k, .string t.s, .int .u64 t.n, .int .i64 t.a, .int .i64 t.b]]) (fun _ W1=>Below W.heap.size W W1) (by kernel_rfl) (by kernel_rfl) (Mj _ _).drew ?_ ?_
 ·simp only[Kj,Jh]
  refine(Lz ?_ (Lz ?_ (Lz ?_ (Lz ?_ (Lz ?_ (Lz ?_ (Lz ?_ (Lz ?_ StepsJ.nil))))))))
  all_goals(intro u W1 L hL hj hd;simp only[putAll,Mq,Lq,Lk,Lj,Ly,Lx])
  ·have c0:=(HNA.out W1 hj).c0
   have hj1:=hj
   go_wp2
   first|exact hj1|exact rfl|exact⟨rfl,hj1⟩|exact⟨rfl,hj1,k4⟩|exact⟨_,rfl,rfl,hj1,k4⟩
  ·have hj1:=hj
   go_wp2
   first|exact hj1|exact rfl|exact⟨rfl,hj1⟩|exact⟨rfl,hj1,k4⟩|exact⟨_,rfl,rfl,hj1,k4⟩
  ·have e1:u 1= .pointer (some ⟨ib,0,none⟩):=(hd.1 rfl (by decide)).2
   rw[e1]
   have hj1:=hj
   go_wp2
   first|exact hj1|exact rfl|exact⟨rfl,hj1⟩|exact⟨rfl,hj1,k4⟩|exact⟨_,rfl,rfl,hj1,k4⟩
  ·have e2:u 2= .pointer (some ⟨ib,0,none⟩):=(hd.1 rfl (by decide)).2
   rw[e2]
   have hj1:=hj
   go_wp2
   first|exact hj1|exact rfl|exact⟨rfl,hj1⟩|exact⟨rfl,hj1,k4⟩|exact⟨_,rfl,rfl,hj1,k4⟩
  ·have e3:u 3= .pointer (some ⟨ib,0,none⟩):=(hd.1 rfl (by decide)).2
   rw[e3]
   have hj1:=hj
   go_wp2
   first|exact hj1|exact rfl|exact⟨rfl,hj1⟩|exact⟨rfl,hj1,k4⟩|exact⟨_,rfl,rfl,hj1,k4⟩
  ·have e4:u 4= .pointer (some ⟨ib,1,none⟩):=(hd.1 rfl (by decide)).2
   have c1:=(HV.out.after hj).c 1 rfl
   rw[e4]
   have hj1:=hj
   go_wp2
   first|exact hj1|exact rfl|exact⟨rfl,hj1⟩|exact⟨rfl,hj1,k4⟩|exact⟨_,rfl,rfl,hj1,k4⟩
  ·have e5:u 5= .slice (some ⟨wb,wo,none⟩) 1 wc:=(hd.1 rfl (by decide)).2
   rw[e5]
   have hj1:=hj
   go_wp2
   first|exact hj1|exact rfl|exact⟨rfl,hj1⟩|exact⟨rfl,hj1,k4⟩|exact⟨_,rfl,rfl,hj1,k4⟩
  ·have e6:u 6= .pointer (some ⟨wb,wo,none⟩):=(hd.1 rfl (by decide)).2
   obtain⟨t0,t1,t2,t3,t4⟩:=HTK.out W1 hj
   rw[e6]
   have hj1:=hj
   go_wp2
   first|exact hj1|exact rfl|exact⟨rfl,hj1⟩|exact⟨rfl,hj1,k4⟩|exact⟨_,rfl,rfl,hj1,k4⟩
 ·intro u W1 L hall hb ht
  have e0:u 0= .func (.func ofn) #[] #[]:=ht 0 (by decide)
  have e7:u 7= .agg #[.int .i64 t.k, .string t.s, .int .u64 t.n, .int .i64 t.a, .int .i64 t.b]:=ht 7 (by decide)
  have HBW:=Lh hb
  clear hb ht hall
  simp only[Kj,Jh,Jj,Jk,putAll,Mq,Lq,Lk,Lj,Ly,Lx]
  rw[e0,e7]
  go_wp2_with (first
   |(go_at_call 63;(with_reducible refine hon.mono ?_);rintro e w3 ⟨rfl,g3⟩;have G3:=Lh (below_step G2.out g3);have n1:=(HNA.out w3 G3.out).c1;have n2:=(HNA.out w3 G3.out).c2;clear g3 hon)
   |((with_reducible refine(HO.out _).mono ?_);rintro e w2 ⟨rfl,g2⟩;have G2:=Lh (HBW.out.trans (g2.mono HBW.out.size));have hon:=HONC.out w2 G2.out;clear g2))
  first|exact⟨rfl,G3.out⟩|exact⟨rfl,rfl,G3.out⟩
theorem number1_set (x:It) (t:Tk3) (S:Nat→Prop) (W:World) (ib mb B:Nat) (wv kv:Value) (sec:ByteArray) (ofn:FuncId) (lo hi:Int) (sv:Value) (ok:Tk3→Prop) (val:Tk3→Int) (hof:OfC ofn ok val) (h:VarL W ib (itemL x wv kv mb sec)) (hx:x.words= [t]) (hbk:x.block=false) (hw:WordsIs W S wv x.words) (hS: ∀b,S b→b<W.heap.size) (hB:B+3<W.heap.size) (hN:NumAt W B ofn lo hi sv) (hk:1≤t.k∧t.k≤6∧0≤t.n∧t.n≤18446744073709551615) (f:ByteArray→ByteArray→Nat) (hc:CntIs W mb f) (hok:ok t) (hf:f x.name ⟨#[]⟩=0) (hr:lo≤val t∧val t≤hi) (sf:FuncId) (first cap:Array Value) (hsv:sv= .func (.func sf) first cap) (es: ∀args W,(callFunc sf args).run Tryz.prog W= .ok (.enter sf args) W) (tb ti:Nat) (ik:IntKind)
  (hset: ∀W1,Below W.heap.size W W1→Calls Tryz.prog sf (first.push (.int .u64 (val t))++cap) W1 fun e w'=>e= .returned (.tuple #[])∧w'=W1.setCell ⟨tb,ti,none⟩ (.int ik (val t))):
  Calls Tryz.prog 121 #[.pointer (some ⟨ib,0,none⟩), .pointer (some ⟨B,0,none⟩), .pointer (some ⟨B+1,0,none⟩), .pointer (some ⟨B+2,0,none⟩), .pointer (some ⟨B+3,0,none⟩)] W fun e w'=>e= .returned (.tuple #[])∧∃W1,Below W.heap.size W W1∧w'=W1.setCell ⟨tb,ti,none⟩ (.int ik (val t)):=by
 rw[hx]at hw
 obtain⟨wb,wo,wc,rfl,hs,w0,w1,w2,w3,w4⟩:=words_one hw
 have hsl:=hS wb hs
 have HF:Hid (Calls Tryz.prog 59 #[.pointer (some ⟨ib,0,none⟩), .int .i64 1, .bool false] W fun e w'=>e= .returned (.tuple #[])∧w'=W):=Lh (form_yes x 1 false W ib mb (some ⟨wb,wo,none⟩) wc kv sec (by rw[hx];exact h) ⟨by rw[hx];rfl,hbk⟩)
 have HV:=Lh h
 have HNA:Hid (∀W1,Below W.heap.size W W1→NumAt W1 B ofn lo hi sv):=Lh (fun W1 hb=>hN.keep (fun i hi=>hb.block _ (by omega)))
 have HTK:Hid (∀W1,Below W.heap.size W W1→W1.cell? ⟨wb,wo,none⟩=some (.int .i64 t.k)∧W1.cell? ⟨wb,wo+1,none⟩=some (.string t.s)∧W1.cell? ⟨wb,wo+2,none⟩=some (.int .u64 t.n)∧W1.cell? ⟨wb,wo+3,none⟩=some (.int .i64 t.a)∧W1.cell? ⟨wb,wo+4,none⟩=some (.int .i64 t.b)):=Lh (fun W1 hb=>
  ⟨(hb.cell (p:=⟨wb,wo,none⟩) hsl).trans w0,(hb.cell (p:=⟨wb,wo+1,none⟩) hsl).trans w1,(hb.cell (p:=⟨wb,wo+2,none⟩) hsl).trans w2,(hb.cell (p:=⟨wb,wo+3,none⟩) hsl).trans w3,(hb.cell (p:=⟨wb,wo+4,none⟩) hsl).trans w4⟩)
 have eg:=hof.1
 have HONC:Hid (∀W1,Below W.heap.size W W1→Calls Tryz.prog 63 #[.pointer (some ⟨ib,0,none⟩)] W1 fun e w'=>e= .returned (.tuple #[])∧Below W1.heap.size W1 w'):=Lh (fun W1 hb=>once_yes x W1 ib mb (.slice (some ⟨wb,wo,none⟩) 1 wc) kv sec f (h.after hb) (hc.keep (hb.block mb hc.lt)) hf)
 have HO:=Lh (fun W1=>(hof.2 t W1 hk.1 hk.2.1 hk.2.2.1 hk.2.2.2).1 hok)
 have HSET:=Lh hset
 obtain⟨n,hn⟩: ∃n,val t=n:=⟨_,rfl⟩
 rw[hn]at HO hr HSET ⊢
 unfold tkA at HO
 have hr1: ¬n<lo:=by omega
 have hr2: ¬hi<n:=by omega
 subst hsv
 clear h hx hbk hw hS hN hk hs w0 w1 w2 w3 w4 hsl hof hok hf hc hn hr hset
 go_enter Tryz.func121,Tryz.ntmps121
 go_wp2_with (go_at_call 59;(with_reducible refine(HF.out).mono ?_);rintro e w1 ⟨rfl,hw1⟩;rw[hw1];clear hw1 w1)
 refine wp_region_mixj 8 (TLst [.func (.func ofn) #[] #[], .pointer (some ⟨ib,0,none⟩), .pointer (some ⟨ib,0,none⟩), .pointer (some ⟨ib,0,none⟩), .pointer (some ⟨ib,1,none⟩), .slice (some ⟨wb,wo,none⟩) 1 wc, .pointer (some ⟨wb,wo,none⟩), .agg #[.int .i64 t.k, .string t.s, .int .u64 t.n, .int .i64 t.a, .int .i64 t.b]]) (fun _ W1=>Below W.heap.size W W1) (by kernel_rfl) (by kernel_rfl) (Mj _ _).drew ?_ ?_
 ·simp only[Kj,Jh]
  refine(Lz ?_ (Lz ?_ (Lz ?_ (Lz ?_ (Lz ?_ (Lz ?_ (Lz ?_ (Lz ?_ StepsJ.nil))))))))
  all_goals(intro u W1 L hL hj hd;simp only[putAll,Mq,Lq,Lk,Lj,Ly,Lx])
  ·have c0:=(HNA.out W1 hj).c0
   have hj1:=hj
   go_wp2
   first|exact hj1|exact rfl|exact⟨rfl,hj1⟩|exact⟨rfl,hj1,k4⟩|exact⟨_,rfl,rfl,hj1,k4⟩
  ·have hj1:=hj
   go_wp2
   first|exact hj1|exact rfl|exact⟨rfl,hj1⟩|exact⟨rfl,hj1,k4⟩|exact⟨_,rfl,rfl,hj1,k4⟩
  ·have e1:u 1= .pointer (some ⟨ib,0,none⟩):=(hd.1 rfl (by decide)).2
   rw[e1]
   have hj1:=hj
   go_wp2
   first|exact hj1|exact rfl|exact⟨rfl,hj1⟩|exact⟨rfl,hj1,k4⟩|exact⟨_,rfl,rfl,hj1,k4⟩
  ·have e2:u 2= .pointer (some ⟨ib,0,none⟩):=(hd.1 rfl (by decide)).2
   rw[e2]
   have hj1:=hj
   go_wp2
   first|exact hj1|exact rfl|exact⟨rfl,hj1⟩|exact⟨rfl,hj1,k4⟩|exact⟨_,rfl,rfl,hj1,k4⟩
  ·have e3:u 3= .pointer (some ⟨ib,0,none⟩):=(hd.1 rfl (by decide)).2
   rw[e3]
   have hj1:=hj
   go_wp2
   first|exact hj1|exact rfl|exact⟨rfl,hj1⟩|exact⟨rfl,hj1,k4⟩|exact⟨_,rfl,rfl,hj1,k4⟩
  ·have e4:u 4= .pointer (some ⟨ib,1,none⟩):=(hd.1 rfl (by decide)).2
   have c1:=(HV.out.after hj).c 1 rfl
   rw[e4]
   have hj1:=hj
   go_wp2
   first|exact hj1|exact rfl|exact⟨rfl,hj1⟩|exact⟨rfl,hj1,k4⟩|exact⟨_,rfl,rfl,hj1,k4⟩
  ·have e5:u 5= .slice (some ⟨wb,wo,none⟩) 1 wc:=(hd.1 rfl (by decide)).2
   rw[e5]
   have hj1:=hj
   go_wp2
   first|exact hj1|exact rfl|exact⟨rfl,hj1⟩|exact⟨rfl,hj1,k4⟩|exact⟨_,rfl,rfl,hj1,k4⟩
  ·have e6:u 6= .pointer (some ⟨wb,wo,none⟩):=(hd.1 rfl (by decide)).2
   obtain⟨t0,t1,t2,t3,t4⟩:=HTK.out W1 hj
   rw[e6]
   have hj1:=hj
   go_wp2
   first|exact hj1|exact rfl|exact⟨rfl,hj1⟩|exact⟨rfl,hj1,k4⟩|exact⟨_,rfl,rfl,hj1,k4⟩
 ·intro u W1 L hall hb ht
  have e0:u 0= .func (.func ofn) #[] #[]:=ht 0 (by decide)
  have e7:u 7= .agg #[.int .i64 t.k, .string t.s, .int .u64 t.n, .int .i64 t.a, .int .i64 t.b]:=ht 7 (by decide)
  have HBW:=Lh hb
  clear hb ht hall
  simp only[Kj,Jh,Jj,Jk,putAll,Mq,Lq,Lk,Lj,Ly,Lx]
  rw[e0,e7]
  go_wp2_with (first
   |(go_at_call 63;(with_reducible refine hon.mono ?_);rintro e w3 ⟨rfl,g3⟩;have G3:=Lh (below_step G2.out g3);have n1:=(HNA.out w3 G3.out).c1;have n2:=(HNA.out w3 G3.out).c2;have n3:=(HNA.out w3 G3.out).c3;have hst:=HSET.out w3 G3.out;clear g3 hon)
   |((with_reducible refine hst.mono ?_);rintro e w4 ⟨rfl,rfl⟩)
   |((with_reducible refine(HO.out _).mono ?_);rintro e w2 ⟨rfl,g2⟩;have G2:=Lh (HBW.out.trans (g2.mono HBW.out.size));have hon:=HONC.out w2 G2.out;clear g2))
  first|go_end0|refine bodyPost_ret (results_none rfl _ _ _) rfl ?_
  exact⟨rfl,w3,G3.out,rfl⟩
theorem number_any (ofn:FuncId) (lo hi:Int) (sf:FuncId) (first cap:Array Value) (w:World):Calls Tryz.prog 93 #[.func (.func ofn) #[] #[], .int .u64 lo, .int .u64 hi, .func (.func sf) first cap] w fun e w'=> ∃B,e= .returned (.func (.func 121) #[] #[.pointer (some ⟨B,0,none⟩), .pointer (some ⟨B+1,0,none⟩), .pointer (some ⟨B+2,0,none⟩), .pointer (some ⟨B+3,0,none⟩)])∧w.heap.size≤B∧B+3<w'.heap.size∧NumAt w' B ofn lo hi (.func (.func sf) first cap)∧Below w.heap.size w w':=by
 have hmf: ∀(fn:Fn) (first cap:Array Value) (w:World),(Instr.makeFunc fn first cap).run Tryz.prog w= .ok (.func fn first cap) w:=fun _ _ _ _=>rfl
 obtain⟨B,W0,hB,hW0,V0,b0,z0⟩:=boxL w [.func (.func ofn) #[] #[]] 155
 obtain⟨B1,W1,hB1,hW1,V1,b1,z1⟩:=boxL W0 [.int .u64 lo] 56
 obtain⟨B2,W2,hB2,hW2,V2,b2,z2⟩:=boxL W1 [.int .u64 hi] 56
 obtain⟨B3,W3,hB3,hW3,V3,b3,z3⟩:=boxL W2 [.func (.func sf) first cap] 156
 obtain rfl:B1=B+1:=by omega
 obtain rfl:B2=B+1+1:=by omega
 obtain rfl:B3=B+1+1+1:=by omega
 have HN:Hid (NumAt W3 B ofn lo hi (.func (.func sf) first cap)):=Lh ⟨(((V0.after b1).after b2).after b3).c 0 rfl,((V1.after b2).after b3).c 0 rfl,(V2.after b3).c 0 rfl,V3.c 0 rfl⟩
 have HB:Hid (Below w.heap.size w W3):=Lh (below_step (below_step (below_step b0 b1) b2) b3)
 have HZ:Hid (w.heap.size≤B∧B+3<W3.heap.size):=Lh (by omega)
 clear V0 V1 V2 V3 b0 b1 b2 b3 z3
 go_enter Tryz.func93,Tryz.ntmps93
 go_wp2
 go_ret
 exact⟨B,rfl,HZ.out.1,HZ.out.2,HN.out,HB.out⟩
theorem cspan_any (lo hi:Int) (tb ti:Nat) (w:World):Calls Tryz.prog 65 #[.pointer (some ⟨tb,ti,none⟩), .int .u64 lo, .int .u64 hi] w fun e w'=> ∃bx B,e= .returned (.func (.func 121) #[] #[.pointer (some ⟨B,0,none⟩), .pointer (some ⟨B+1,0,none⟩), .pointer (some ⟨B+2,0,none⟩), .pointer (some ⟨B+3,0,none⟩)])∧w.heap.size≤bx∧bx<B∧B+3<w'.heap.size∧w'.cell? ⟨bx,0,none⟩=some (.pointer (some ⟨tb,ti,none⟩))∧NumAt w' B 101 lo hi (.func (.func 102) #[] #[.pointer (some ⟨bx,0,none⟩)])∧Below w.heap.size w w':=by
 have hmf: ∀(fn:Fn) (first cap:Array Value) (w:World),(Instr.makeFunc fn first cap).run Tryz.prog w= .ok (.func fn first cap) w:=fun _ _ _ _=>rfl
 obtain⟨bx,W0,hB,hW0,V0,b0,z0⟩:=boxL w [.pointer (some ⟨tb,ti,none⟩)] 127
 have HNU:=Lh (number_any 101 lo hi 102 #[] #[.pointer (some ⟨bx,0,none⟩)] W0)
 have HV:=Lh V0
 have HB:=Lh b0
 have HZ:Hid (w.heap.size≤bx∧bx<W0.heap.size):=Lh (by omega)
 clear V0 b0
 go_enter Tryz.func65,Tryz.ntmps65
 go_wp2_with (go_at_call 93;(with_reducible refine(HNU.out).mono ?_);rintro e w2 ⟨B,rfl,q1,q2,q3,q4⟩;have HQ:=Lh (And.intro q1 q2);have HN:=Lh q3;have HB2:=Lh q4;clear q1 q2 q3 q4)
 go_ret
 exact⟨bx,B,rfl,HZ.out.1,by have:=HQ.out.1;have:=HZ.out.2;omega,HQ.out.2,(HV.out.after HB2.out).c 0 rfl,HN.out,below_step HB.out HB2.out⟩
theorem ccount_any (lo hi:Int) (tb ti:Nat) (w:World):Calls Tryz.prog 64 #[.pointer (some ⟨tb,ti,none⟩), .int .u64 lo, .int .u64 hi] w fun e w'=> ∃bx B,e= .returned (.func (.func 121) #[] #[.pointer (some ⟨B,0,none⟩), .pointer (some ⟨B+1,0,none⟩), .pointer (some ⟨B+2,0,none⟩), .pointer (some ⟨B+3,0,none⟩)])∧w.heap.size≤bx∧bx<B∧B+3<w'.heap.size∧w'.cell? ⟨bx,0,none⟩=some (.pointer (some ⟨tb,ti,none⟩))∧NumAt w' B 99 lo hi (.func (.func 100) #[] #[.pointer (some ⟨bx,0,none⟩)])∧Below w.heap.size w w':=by
 have hmf: ∀(fn:Fn) (first cap:Array Value) (w:World),(Instr.makeFunc fn first cap).run Tryz.prog w= .ok (.func fn first cap) w:=fun _ _ _ _=>rfl
 obtain⟨bx,W0,hB,hW0,V0,b0,z0⟩:=boxL w [.pointer (some ⟨tb,ti,none⟩)] 125
 have HNU:=Lh (number_any 99 lo hi 100 #[] #[.pointer (some ⟨bx,0,none⟩)] W0)
 have HV:=Lh V0
 have HB:=Lh b0
 have HZ:Hid (w.heap.size≤bx∧bx<W0.heap.size):=Lh (by omega)
 clear V0 b0
 go_enter Tryz.func64,Tryz.ntmps64
 go_wp2_with (go_at_call 93;(with_reducible refine(HNU.out).mono ?_);rintro e w2 ⟨B,rfl,q1,q2,q3,q4⟩;have HQ:=Lh (And.intro q1 q2);have HN:=Lh q3;have HB2:=Lh q4;clear q1 q2 q3 q4)
 go_ret
 exact⟨bx,B,rfl,HZ.out.1,by have:=HQ.out.1;have:=HZ.out.2;omega,HQ.out.2,(HV.out.after HB2.out).c 0 rfl,HN.out,below_step HB.out HB2.out⟩
end
section
theorem runes_size {s:ByteArray} (h: ∀r∈runesOf (nums s),0≤r):s.size≤4*(runesOf (nums s)).length:=by
 have hb:=(good_back (nums_byte s) h).2
 have hf: ∀l:List Int,(l.flatMap encL).length≤4*l.length:=fun l=>by
  induction l with
  |nil=>simp
  |cons z l ih=>rw[List.flatMap_cons,List.length_append,List.length_cons];have:=encL_len z;omega
 have:=hf (runesOf (nums s))
 rw[hb,nums_length]at this
 exact this
theorem name_size {s:ByteArray} (h:NameL (runesOf (nums s))):s.size≤2000:=by
 have:=runes_size (s:=s) (fun r hr=>by
  have:=name_within h r hr
  unfold withinB letterB digitB at this
  simp at this
  omega)
 have:=h.2.1
 omega
theorem word_size {t:Tk3} (h:WordR t):t.s.size≤2000:=by
 obtain⟨hl,hh,hr⟩:=h
 have e0:(⟨#[]⟩:ByteArray).size=0:=rfl
 rcases hr with⟨_,h,_⟩|⟨_,h,h2,_⟩|⟨_,h⟩|⟨_,h,_⟩|⟨_,h,_⟩|⟨_,h,_⟩
 ·exact name_size h
 ·have:=runes_size (s:=t.s) (good_mem h)
  omega
 all_goals (rw[h,e0];omega)
theorem EachR.light: ∀ {L:List It},EachR L→NumsR L→LightL L
 | [],_,_=>by simp[LightL]
 | .mk n w k kids a b::l,h,hn=>by
  rw[EachR]at h
  rw[NumsR]at hn
  rw[LightL]
  obtain⟨h1,h2,h3,h4,h5,h6⟩:=h
  refine⟨⟨name_size h1,by show w.length≤20;omega,fun t ht=>⟨word_size (h4 t ht),hn.1 t ht⟩⟩,EachR.light h5 hn.2.1,EachR.light h6 hn.2.2⟩
def exA:ByteArray:=⟨#[114,117,108,101,32,97,123,102,111,114,32,50,109,59,125]⟩
theorem tokF_open {l:List Int} {i:Nat} {R:List Int} (h:l.drop i= [123]++R):tokF l i=(tokF l (i+1)).map (fun L=>(⟨7,[],0⟩,i)::L):=by
 obtain⟨h1,h2,_⟩:=drop_len h (by decide)
 have p2:pieceN (l.drop i)=1:=by
  rw[h]
  unfold pieceN
  have q:([123]++R).getD 0 0=123:=rfl
  rw[q,if_neg (by decide),if_neg (by decide),if_neg (by decide)]
 have g2:l.getD i 0=123:=h2
 have t2:tokP ((l.drop i).take 1)=(⟨7,[],0⟩,0):=by
  rw[h]
  show tokP [123]=_
  unfold tokP
  rw[if_pos (by decide)]
 have s2:=tokF_piece (l:=l) (i:=i) h1 (by rw[g2];decide) (by rw[g2];decide)
 rw[p2,t2,if_pos rfl]at s2
 exact s2
def exAToks:List (TkV×Nat):= [(⟨1,[114,117,108,101],0⟩,0),(⟨1,[97],0⟩,5),(⟨7,[],0⟩,6),(⟨1,[102,111,114],0⟩,7),(⟨6,[],120⟩,11),(⟨9,[],0⟩,13),(⟨8,[],0⟩,14)]
end
section
open Go.RowKit
def EachI (x:It):Prop:=NameL (runesOf (nums x.name))∧x.words.length≤6∧(x.block=true∨x.kids= [])∧EachR x.kids∧∀t∈x.words,WordR t
def EachAt (D:Nat):Prop:= ∀(S:Nat→Prop) (v:Value) (L:List It) (w:World),ItemsIs D w S v L→(∀b,S b→b<w.heap.size)→cntL L≤1000000→LightL L→Calls Tryz.prog 37 #[v] w (GivesQ (EachR L) w)
end
section
open Go.RowKit
end
section
open Go.RowKit
theorem manyS_pos {cs:List It} {n:ByteArray} :manyS cs n≠0↔∃c∈cs,c.name=n:=by
 unfold manyS
 rw[←Nat.pos_iff_ne_zero,List.length_pos_iff_exists_mem]
 constructor
 ·rintro⟨c,hc⟩
  obtain⟨h1,h2⟩:=List.mem_filter.mp hc
  exact⟨c,h1,by simpa using h2⟩
 ·rintro⟨c,h1,h2⟩
  exact⟨c,List.mem_filter.mpr ⟨h1,by simpa using h2⟩⟩
theorem known_one {p:Spc} {cs:List It} {x:It} (h1:p.most=1):KnownS p cs x↔manyS cs x.name≠0:=by
 rw[manyS_pos]
 unfold KnownS
 constructor
 ·rintro⟨c,h,h2,_⟩;exact⟨c,h,h2⟩
 ·rintro⟨c,h,h2⟩;exact⟨c,h,h2,My h1⟩
theorem code_form {wh:Nat} {cs:List It} {x:It} {p:Spc} (hp:findS wh x.name=some p) (h: ¬FormS p x):codeS wh cs x=6:=by
 rw[codeS_some hp,if_pos h]
theorem code_known {wh:Nat} {cs:List It} {x:It} {p:Spc} (hp:findS wh x.name=some p) (h:FormS p x) (hk:KnownS p cs x):codeS wh cs x=18:=by
 rw[codeS_some hp,if_neg (fun e=>e h),if_pos hk]
theorem code_long {wh:Nat} {cs:List It} {x:It} {p:Spc} (hp:findS wh x.name=some p) (h:FormS p x) (hk: ¬KnownS p cs x) (hm:p.most≤manyS cs x.name):codeS wh cs x=9:=by
 rw[codeS_some hp,if_neg (fun e=>e h),if_neg hk,if_pos hm]
theorem code_range {wh:Nat} {cs:List It} {x:It} {p:Spc} (hp:findS wh x.name=some p) (h:FormS p x) (hk: ¬KnownS p cs x) (hm: ¬p.most≤manyS cs x.name) (hr:p.most=1∧(numS x<p.lo∨p.hi<numS x)):codeS wh cs x=8:=by
 rw[codeS_some hp,if_neg (fun e=>e h),if_neg hk,if_neg hm,if_pos hr]
theorem code_fine {wh:Nat} {cs:List It} {x:It} {p:Spc} (hp:findS wh x.name=some p) (h:FormS p x) (hk: ¬KnownS p cs x) (hm: ¬p.most≤manyS cs x.name) (hr: ¬(p.most=1∧(numS x<p.lo∨p.hi<numS x))):codeS wh cs x=0:=by
 rw[codeS_some hp,if_neg (fun e=>e h),if_neg hk,if_neg hm,if_neg hr]
def WordsOk (l:List Tk3):Prop:= ∀t∈l,WordR t∧0≤t.n∧t.n≤18446744073709551615
def numW (n:ByteArray) (t:Tk3):Int:=if n=nFactor∧t.k=3 then(if 1000000<t.n then t.n else 1000*t.n)else t.n
theorem numS_one {x:It} {t:Tk3} (h:x.words= [t]):numS x=numW x.name t:=by
 unfold numS numW
 have e:x.w0=t:=by unfold It.w0;rw[h];rfl
 rw[e,if_neg (by rw[h];simp)]
section
variable {wh:Nat} {sub:It→List Flt} {M:List It→List Flt→Foot→World→Prop} {fpv:Value}
structure NumSpec (wh:Nat) (p:Spc) (k0:Int) (ok:Tk3→Prop) (val:Tk3→Int):Prop where
 most:p.most=1
 block:p.block=false
 kinds:p.kinds= [k0]
 cal:p.name≠nCalendar
 rul:p.name≠nRule
 ok_: ∀t,ok t↔t.k=k0∨(p.name=nFactor∧t.k=3)
 lo:0≤p.lo
 hi:p.hi≤34560000
 low: ∀t:Tk3,ok t→0≤t.n→((p.lo≤val t∧val t≤p.hi)↔(p.lo≤numW p.name t∧numW p.name t≤p.hi))
 eq: ∀t:Tk3,ok t→0≤t.n→p.lo≤val t→val t≤p.hi→val t=numW p.name t
theorem number_handler (hD:Doing M fpv) {K S:Foot} {w0:World} {x:It} {wv kv:Value} {p:Spc} {k0:Int} {ok:Tk3→Prop} {val:Tk3→Int} (hp:findS wh x.name=some p) (hs:NumSpec wh p k0 ok val) (hsub:sub x= []) (hsec:secS x=⟨#[]⟩)
  {B:Nat} {ofn:FuncId} {sv:Value} (hN:NumAt w0 B ofn p.lo p.hi sv) (hKB: ∀i,i<4→K (B+i)) (hKl: ∀b,K b→b<w0.heap.size) (hof:OfC ofn ok val) {tb ti:Nat} {ik:IntKind} (hsv:SetsC K w0 sv tb ti ik)
  (hvar: ∀cs F O W,M cs F O W→O tb∧∃l,VarL W tb l∧ti<l.length) (hset: ∀cs F O W,M cs F O W→codeS wh cs x=0→M (cs++ [x]) F O (W.setCell ⟨tb,ti,none⟩ (.int ik (numS x))))
  (hwd:WordsIs w0 S wv x.words) (hSK: ∀b,S b→K b) (hwo:WordsOk x.words):HandlerC wh sub M K w0 x wv kv 121 #[] #[.pointer (some ⟨B,0,none⟩), .pointer (some ⟨B+1,0,none⟩), .pointer (some ⟨B+2,0,none⟩), .pointer (some ⟨B+3,0,none⟩)]:=by
 intro W cs F O ib mb hin
 have hpn:p.name=x.name:=(findS_name hp).1
 have hWsz:w0.heap.size≤W.heap.size:=Nat.le_trans hin.isz (Nat.le_of_lt hin.item.s)
 have hNW:NumAt W B ofn p.lo p.hi sv:=hN.keep (fun i hi=>hin.kept _ (hKB i hi))
 have hBl:B+3<W.heap.size:=Kx (hKl _ (hKB 3 (by decide))) hWsz
 have hwW:WordsIs W S wv x.words:=hwd.keep (fun _ h=>h) (fun b hb=>hin.kept b (hSK b hb))
 have hSl: ∀b,S b→b<W.heap.size:=fun b hb=>Kx (hKl b (hSK b hb)) hWsz
 show Calls Tryz.prog 121 #[.pointer (some ⟨ib,0,none⟩), .pointer (some ⟨B,0,none⟩), .pointer (some ⟨B+1,0,none⟩), .pointer (some ⟨B+2,0,none⟩), .pointer (some ⟨B+3,0,none⟩)] W _
 have hcase:FormS p x↔x.block=false∧∃t,x.words= [t]∧ok t:=by
  unfold FormS
  rw[hs.block,hs.kinds]
  constructor
  ·rintro⟨h1,h2,_,_⟩
   refine⟨h1,?_⟩
   cases hx:x.words with
   |nil=>rw[hx]at h2;exact h2.elim
   |cons t l=>
    cases l with
    |nil=>rw[hx]at h2;exact⟨t,rfl,(hs.ok_ t).mpr h2.1⟩
    |cons u l=>rw[hx]at h2;exact h2.2.elim
  ·rintro⟨h1,t,h2,h3⟩
   refine⟨h1,?_,fun e=>(hs.cal e).elim,fun e=>(hs.rul e).elim⟩
   rw[h2]
   exact⟨(hs.ok_ t).mp h3,trivial⟩
 by_cases hf1:x.words.length=1∧x.block=false
 ·obtain⟨t,hx⟩: ∃t,x.words= [t]:=by
   cases hx:x.words with
   |nil=>rw[hx]at hf1;cases hf1.1
   |cons t l=>
    cases l with
    |nil=>exact⟨t,rfl⟩
    |cons u l=>rw[hx]at hf1;simp at hf1
  have hto:=hwo t (by rw[hx];simp)
  have hk:1≤t.k∧t.k≤6∧0≤t.n∧t.n≤18446744073709551615:=⟨hto.1.lo,hto.1.hi,hto.2.1,hto.2.2⟩
  by_cases hok:ok t
  ·have hF:FormS p x:=hcase.mpr ⟨hf1.2,t,hx,hok⟩
   by_cases hf:cntF cs x.name ⟨#[]⟩=0
   ·have hm0:manyS cs x.name=0:=by rw[←cntF_many];exact hf
    have hnk: ¬KnownS p cs x:=fun h=>(known_one hs.most).mp h hm0
    have hnm: ¬p.most≤manyS cs x.name:=by rw[hs.most,hm0];decide
    have hlow:=hs.low t hok hk.2.2.1
    have hnum:=numS_one hx
    rw[hpn]at hlow
    by_cases hr:p.lo≤val t∧val t≤p.hi
    ·have hc0:codeS wh cs x=0:=code_fine hp hF hnk hnm (fun e=>by rw[hnum]at e;have:=hlow.mp hr;omega)
     obtain⟨sf,first,cap,hsv1,hsv2,hsv3⟩:=hsv
     have hv:=hs.eq t hok hk.2.2.1 hr.1 hr.2
     rw[hpn,←hnum]at hv
     have hOl:=hD.lt _ _ _ _ hin.m
     refine(number1_set x t S W ib mb B wv kv ⟨#[]⟩ ofn p.lo p.hi sv ok val hof hin.item hx hf1.2 hwW hSl hBl hNW hk (cntF cs) hin.cnt hok hf hr sf first cap hsv1 hsv2 tb ti ik (fun W1 hb=>?_)).mono ?_
     ·have hM1:=hD.keep _ _ _ _ _ hin.m (fun b h=>hb.block b (hOl b h))
      obtain⟨_,l,hV,hl⟩:=hvar _ _ _ _ hM1
      exact hsv3 W1 (val t) l (fun b h=>(hb.block b (Kx (hKl b h) hWsz)).trans (hin.kept b h)) hV hl (by have:=hs.lo;omega) (by have:=hs.hi;omega)
     ·rintro e W' ⟨rfl,W1,hb,rfl⟩
      have hM1:=hD.keep _ _ _ _ _ hin.m (fun b h=>hb.block b (hOl b h))
      obtain⟨hOt,_,_,_⟩:=hvar _ _ _ _ hM1
      refine Or.inr ⟨hc0,rfl,O,?_,Frm.set (O:=fun i=>O i∨i=ib) (Frm.of hb) (My hOt) _ _,Grown.refl _ _,?_⟩
      ·rw[hsub,List.append_nil,hv]
       exact hset _ _ _ _ hM1 hc0
      ·rw[hsec]
       exact(hin.item.after hb).stay (lset_else _ _ _ _ _ (fun e=>hin.io (by rw[e];exact hOt)))
    ·have hc8:codeS wh cs x=8:=code_range hp hF hnk hnm ⟨hs.most,by
      rw[hnum]
      have: ¬(p.lo≤numW x.name t∧numW x.name t≤p.hi):=fun e=>hr (hlow.mpr e)
      omega⟩
     by_cases hlt:val t<p.lo
     ·refine(number1_low x t S W ib mb B wv kv ⟨#[]⟩ ofn p.lo p.hi sv ok val hof hin.item hx hf1.2 hwW hSl hBl hNW hk (cntF cs) hin.cnt hok hf hlt).mono ?_
      rintro e W' ⟨rfl,hb⟩
      exact My ⟨by rw[hc8];decide,by rw[hc8],hb⟩
     ·refine(number1_high x t S W ib mb B wv kv ⟨#[]⟩ ofn p.lo p.hi sv ok val hof hin.item hx hf1.2 hwW hSl hBl hNW hk (cntF cs) hin.cnt hok hf ⟨hlt,by omega⟩).mono ?_
      rintro e W' ⟨rfl,hb⟩
      exact My ⟨by rw[hc8];decide,by rw[hc8],hb⟩
   ·have hc18:codeS wh cs x=18:=code_known hp hF ((known_one hs.most).mpr (by rw[←cntF_many];exact hf))
    refine(number1_known x t S W ib mb B wv kv ⟨#[]⟩ ofn p.lo p.hi sv ok val hof hin.item hx hf1.2 hwW hSl hBl hNW hk (cntF cs) hin.cnt hok hf).mono ?_
    rintro e W' ⟨rfl,hb⟩
    exact My ⟨by rw[hc18];decide,by rw[hc18],hb⟩
  ·have hc6:codeS wh cs x=6:=code_form hp (fun h=>by obtain⟨_,t',h2,h3⟩:=hcase.mp h;rw[hx]at h2;injection h2 with h2;subst h2;exact hok h3)
   refine(number1_kind x t S W ib mb B wv kv ⟨#[]⟩ ofn p.lo p.hi sv ok val hof hin.item hx hf1.2 hwW hSl hBl hNW hk hok).mono ?_
   rintro e W' ⟨rfl,hb⟩
   exact My ⟨by rw[hc6];decide,by rw[hc6],hb⟩
 ·have hc6:codeS wh cs x=6:=code_form hp (fun h=>by obtain⟨h1,t',h2,_⟩:=hcase.mp h;exact hf1 ⟨by rw[h2];rfl,h1⟩)
  obtain⟨wa,wc,hwv⟩:=hwd.size
  have hit:=hin.item
  rw[hwv]at hit
  refine(number1_form x W ib mb B wa wc kv ⟨#[]⟩ hit hf1).mono ?_
  rintro e W' ⟨rfl,hb⟩
  exact My ⟨by rw[hc6];decide,by rw[hc6],hb⟩
end
end
end Go.Proofs.YtalcagmhdppdjaaGreatDoor
