/-
  Package compile: all items of a list, handled by a map that has just been made; a rule that has been added: plain.
-/
import Derived.Test.YtalcagmhdppdjaaGreatDoorPkCompileTurns19
set_option maxRecDepth 100000
set_option maxHeartbeats 8000000
namespace Go.Proofs.YtalcagmhdppdjaaGreatDoor
open Lib renaming hid→Lh
open List renaming setIfInBounds_toArray→Lq,set_cons_zero→Lj,set_cons_succ→Lk,take_succ_cons→Kj,take_zero→Jh,drop_succ_cons→Jj,drop_zero→Jk
open Nat renaming reduceAdd→Lx,zero_add→Ly
open StepsJ renaming cons→Lz
open Act renaming put→Mq
open Go.RowKit.Below renaming refl→Mj
open Or renaming inr→Mx,inl→My
section
open Go.RowKit
theorem first_two (u:Tk3) (w:World) (h:1≤u.k∧u.k≤6):(u.k=1∧(u.s=nPage∨u.s=nTicket)→Calls Tryz.prog 122 #[tkA u, .string ⟨#[112,97,103,101]⟩, .string ⟨#[116,105,99,107,101,116]⟩] w fun e w'=>e= .returned (.bool (decide (u.s=nPage)))∧Below w.heap.size w w')∧
  (¬(u.k=1∧(u.s=nPage∨u.s=nTicket))→Calls Tryz.prog 122 #[tkA u, .string ⟨#[112,97,103,101]⟩, .string ⟨#[116,105,99,107,101,116]⟩] w fun e w'=>e=up 6∧Below w.heap.size w w'):=by
 constructor
 ·rintro⟨h1,h2⟩
  by_cases hp:u.s=nPage
  ·rw[decide_eq_true hp];exact first_one u nPage nTicket w h.1 h.2 ⟨h1,hp⟩
  ·rw[decide_eq_false hp];exact first_other u nPage nTicket w h.1 h.2 ⟨h1,hp,h2.resolve_left hp⟩
 ·intro hn
  by_cases h1:u.k=1
  ·exact first_none u nPage nTicket w h.1 h.2 ⟨h1,fun e=>hn ⟨h1,My e⟩,fun e=>hn ⟨h1,Mx e⟩⟩
  ·exact first_no u nPage nTicket w h.1 h.2 h1
theorem rul_form (x:It) (W:World) (gb ib mb:Nat) (wa:Option Addr) (wc:Nat) (kv:Value) (sec:ByteArray) (h:VarL W ib (itemL x (.slice wa x.words.length wc) kv mb sec)) (hno: ¬(x.words.length=2∧x.block=true)):
  Calls Tryz.prog 98 #[.pointer (some ⟨gb,0,none⟩), .pointer (some ⟨ib,0,none⟩)] W fun e w'=>e=up 6∧Below W.heap.size W w':=by
 have HF:Hid (Calls Tryz.prog 59 #[.pointer (some ⟨ib,0,none⟩), .int .i64 2, .bool true] W fun e w'=>e=up 6∧w'=W):=Lh (form_no x 2 true W ib mb wa wc kv sec h hno)
 clear h hno
 go_enter Tryz.func98,Tryz.ntmps98
 go_wp2_with (go_at_call 59;(with_reducible refine(HF.out).mono ?_);rintro e w1 ⟨rfl,rfl⟩)
 first|exact⟨rfl,Mj _ _⟩|exact⟨rfl,rfl,Mj _ _⟩
def TRul (t u:Tk3) (pg:Bool) (ib wb wo wc b1:Nat):Nat→Value→World→Prop
 |0,v,_=>v= .pointer (some ⟨ib,0,none⟩)
 |1,v,_=>v= .pointer (some ⟨ib,0,none⟩)
 |2,v,_=>v= .pointer (some ⟨ib,0,none⟩)
 |3,v,_=>v= .pointer (some ⟨ib,1,none⟩)
 |4,v,_=>v= .slice (some ⟨wb,wo,none⟩) 2 wc
 |5,v,_=>v= .pointer (some ⟨wb,wo,none⟩)
 |6,v,_=>v= .agg #[.int .i64 t.k, .string t.s, .int .u64 t.n, .int .i64 t.a, .int .i64 t.b]
 |7,v,_=>v= .string t.s
 |8,v,_=>v= .pointer (some ⟨ib,0,none⟩)
 |9,v,_=>v= .pointer (some ⟨ib,0,none⟩)
 |10,v,_=>v= .pointer (some ⟨ib,0,none⟩)
 |11,v,_=>v= .pointer (some ⟨ib,1,none⟩)
 |12,v,_=>v= .slice (some ⟨wb,wo,none⟩) 2 wc
 |13,v,_=>v= .pointer (some ⟨wb,wo+5,none⟩)
 |14,v,_=>v= .agg #[.int .i64 u.k, .string u.s, .int .u64 u.n, .int .i64 u.a, .int .i64 u.b]
 |15,v,_=>v= .bool pg
 |16,v,_=>v= .agg #[.string t.s, .bool pg, .int .i64 0, .int .i64 0, .int .u64 0, .int .i64 0, .int .i64 0]
 |17,v,w=> ∃g,v= .pointer (some ⟨g,0,none⟩)∧b1≤g∧VarL w g [.string ⟨#[]⟩, .bool false, .int .i64 0, .int .i64 0, .int .u64 0, .int .i64 0, .int .i64 0]
 |_,_,_=>True
theorem TRul.keep {t u:Tk3} {pg:Bool} {ib wb wo wc b1:Nat} (i:Nat) (v:Value) (w w':World) (h:TRul t u pg ib wb wo wc b1 i v w) (hb:Below w.heap.size w w'):TRul t u pg ib wb wo wc b1 i v w':=by
 match i,h with
 |0,h=>exact h
 |1,h=>exact h
 |2,h=>exact h
 |3,h=>exact h
 |4,h=>exact h
 |5,h=>exact h
 |6,h=>exact h
 |7,h=>exact h
 |8,h=>exact h
 |9,h=>exact h
 |10,h=>exact h
 |11,h=>exact h
 |12,h=>exact h
 |13,h=>exact h
 |14,h=>exact h
 |15,h=>exact h
 |16,h=>exact h
 |17,⟨g,e,h1,h2⟩=>exact⟨g,e,h1,h2.after hb⟩
 |m+18,_=>exact trivial
def TRulA (t u:Tk3) (pg:Bool) (ib wb wo wc b1:Nat):Nat→Value→World→Prop
 |0,v,_=>v= .pointer (some ⟨ib,0,none⟩)
 |1,v,_=>v= .pointer (some ⟨ib,0,none⟩)
 |2,v,_=>v= .pointer (some ⟨ib,0,none⟩)
 |3,v,_=>v= .pointer (some ⟨ib,1,none⟩)
 |4,v,_=>v= .slice (some ⟨wb,wo,none⟩) 2 wc
 |5,v,_=>v= .pointer (some ⟨wb,wo,none⟩)
 |6,v,_=>v= .agg #[.int .i64 t.k, .string t.s, .int .u64 t.n, .int .i64 t.a, .int .i64 t.b]
 |7,_,_=>False
 |8,v,_=>v= .pointer (some ⟨ib,0,none⟩)
 |9,v,_=>v= .pointer (some ⟨ib,0,none⟩)
 |10,v,_=>v= .pointer (some ⟨ib,0,none⟩)
 |11,v,_=>v= .pointer (some ⟨ib,1,none⟩)
 |12,v,_=>v= .slice (some ⟨wb,wo,none⟩) 2 wc
 |13,v,_=>v= .pointer (some ⟨wb,wo+5,none⟩)
 |14,v,_=>v= .agg #[.int .i64 u.k, .string u.s, .int .u64 u.n, .int .i64 u.a, .int .i64 u.b]
 |15,v,_=>v= .bool pg
 |16,v,_=>v= .agg #[.string t.s, .bool pg, .int .i64 0, .int .i64 0, .int .u64 0, .int .i64 0, .int .i64 0]
 |17,v,w=> ∃g,v= .pointer (some ⟨g,0,none⟩)∧b1≤g∧VarL w g [.string ⟨#[]⟩, .bool false, .int .i64 0, .int .i64 0, .int .u64 0, .int .i64 0, .int .i64 0]
 |_,_,_=>True
theorem TRulA.keep {t u:Tk3} {pg:Bool} {ib wb wo wc b1:Nat} (i:Nat) (v:Value) (w w':World) (h:TRulA t u pg ib wb wo wc b1 i v w) (hb:Below w.heap.size w w'):TRulA t u pg ib wb wo wc b1 i v w':=by
 match i,h with
 |0,h=>exact h
 |1,h=>exact h
 |2,h=>exact h
 |3,h=>exact h
 |4,h=>exact h
 |5,h=>exact h
 |6,h=>exact h
 |7,h=>exact h
 |8,h=>exact h
 |9,h=>exact h
 |10,h=>exact h
 |11,h=>exact h
 |12,h=>exact h
 |13,h=>exact h
 |14,h=>exact h
 |15,h=>exact h
 |16,h=>exact h
 |17,⟨g,e,h1,h2⟩=>exact⟨g,e,h1,h2.after hb⟩
 |m+18,_=>exact trivial
def TRulB (t u:Tk3) (pg:Bool) (ib wb wo wc b1:Nat):Nat→Value→World→Prop
 |0,v,_=>v= .pointer (some ⟨ib,0,none⟩)
 |1,v,_=>v= .pointer (some ⟨ib,0,none⟩)
 |2,v,_=>v= .pointer (some ⟨ib,0,none⟩)
 |3,v,_=>v= .pointer (some ⟨ib,1,none⟩)
 |4,v,_=>v= .slice (some ⟨wb,wo,none⟩) 2 wc
 |5,v,_=>v= .pointer (some ⟨wb,wo,none⟩)
 |6,v,_=>v= .agg #[.int .i64 t.k, .string t.s, .int .u64 t.n, .int .i64 t.a, .int .i64 t.b]
 |7,v,_=>v= .string t.s
 |8,v,_=>v= .pointer (some ⟨ib,0,none⟩)
 |9,v,_=>v= .pointer (some ⟨ib,0,none⟩)
 |10,v,_=>v= .pointer (some ⟨ib,0,none⟩)
 |11,v,_=>v= .pointer (some ⟨ib,1,none⟩)
 |12,v,_=>v= .slice (some ⟨wb,wo,none⟩) 2 wc
 |13,v,_=>v= .pointer (some ⟨wb,wo+5,none⟩)
 |14,v,_=>v= .agg #[.int .i64 u.k, .string u.s, .int .u64 u.n, .int .i64 u.a, .int .i64 u.b]
 |15,_,_=>False
 |16,v,_=>v= .agg #[.string t.s, .bool pg, .int .i64 0, .int .i64 0, .int .u64 0, .int .i64 0, .int .i64 0]
 |17,v,w=> ∃g,v= .pointer (some ⟨g,0,none⟩)∧b1≤g∧VarL w g [.string ⟨#[]⟩, .bool false, .int .i64 0, .int .i64 0, .int .u64 0, .int .i64 0, .int .i64 0]
 |_,_,_=>True
theorem TRulB.keep {t u:Tk3} {pg:Bool} {ib wb wo wc b1:Nat} (i:Nat) (v:Value) (w w':World) (h:TRulB t u pg ib wb wo wc b1 i v w) (hb:Below w.heap.size w w'):TRulB t u pg ib wb wo wc b1 i v w':=by
 match i,h with
 |0,h=>exact h
 |1,h=>exact h
 |2,h=>exact h
 |3,h=>exact h
 |4,h=>exact h
 |5,h=>exact h
 |6,h=>exact h
 |7,h=>exact h
 |8,h=>exact h
 |9,h=>exact h
 |10,h=>exact h
 |11,h=>exact h
 |12,h=>exact h
 |13,h=>exact h
 |14,h=>exact h
 |15,h=>exact h
 |16,h=>exact h
 |17,⟨g,e,h1,h2⟩=>exact⟨g,e,h1,h2.after hb⟩
 |m+18,_=>exact trivial
theorem rul_k1 (x:It) (t u:Tk3) (S:Nat→Prop) (W:World) (gb ib mb:Nat) (wv kv:Value) (sec:ByteArray) (h:VarL W ib (itemL x wv kv mb sec)) (hx:x.words= [t,u]) (hbk:x.block=true) (hw:WordsIs W S wv x.words) (hS: ∀b,S b→b<W.heap.size) (hk:1≤t.k∧t.k≤6) (_hk2:1≤u.k∧u.k≤6) (hno:t.k≠1):Calls Tryz.prog 98 #[.pointer (some ⟨gb,0,none⟩), .pointer (some ⟨ib,0,none⟩)] W fun e w'=>e=up 6∧Below W.heap.size W w':=by
 rw[hx]at hw
 obtain⟨wb,wo,wc,rfl,hs,⟨w0,w1,w2,w3,w4⟩,w5,w6,w7,w8,w9⟩:=words_two hw
 have hsl:=hS wb hs
 have HF:Hid (Calls Tryz.prog 59 #[.pointer (some ⟨ib,0,none⟩), .int .i64 2, .bool true] W fun e w'=>e= .returned (.tuple #[])∧w'=W):=Lh (form_yes x 2 true W ib mb (some ⟨wb,wo,none⟩) wc kv sec (by rw[hx];exact h) ⟨by rw[hx];rfl,hbk⟩)
 have HV:=Lh h
 have HTK:Hid (∀W1,Below W.heap.size W W1→(W1.cell? ⟨wb,wo,none⟩=some (.int .i64 t.k)∧W1.cell? ⟨wb,wo+1,none⟩=some (.string t.s)∧W1.cell? ⟨wb,wo+2,none⟩=some (.int .u64 t.n)∧W1.cell? ⟨wb,wo+3,none⟩=some (.int .i64 t.a)∧W1.cell? ⟨wb,wo+4,none⟩=some (.int .i64 t.b))∧
   W1.cell? ⟨wb,wo+5,none⟩=some (.int .i64 u.k)∧W1.cell? ⟨wb,wo+6,none⟩=some (.string u.s)∧W1.cell? ⟨wb,wo+7,none⟩=some (.int .u64 u.n)∧W1.cell? ⟨wb,wo+8,none⟩=some (.int .i64 u.a)∧W1.cell? ⟨wb,wo+9,none⟩=some (.int .i64 u.b)):=Lh (fun W1 hb=>
  ⟨⟨(hb.cell (p:=⟨wb,wo,none⟩) hsl).trans w0,(hb.cell (p:=⟨wb,wo+1,none⟩) hsl).trans w1,(hb.cell (p:=⟨wb,wo+2,none⟩) hsl).trans w2,(hb.cell (p:=⟨wb,wo+3,none⟩) hsl).trans w3,(hb.cell (p:=⟨wb,wo+4,none⟩) hsl).trans w4⟩,(hb.cell (p:=⟨wb,wo+5,none⟩) hsl).trans w5,(hb.cell (p:=⟨wb,wo+6,none⟩) hsl).trans w6,(hb.cell (p:=⟨wb,wo+7,none⟩) hsl).trans w7,(hb.cell (p:=⟨wb,wo+8,none⟩) hsl).trans w8,(hb.cell (p:=⟨wb,wo+9,none⟩) hsl).trans w9⟩)
 have HN1:=Lh (fun V=>nameOf_no t V hk.1 hk.2 hno)
 unfold tkA at HN1
 clear h hx hbk hw hS hk hs hsl w0 w1 w2 w3 w4 w5 w6 w7 w8 w9 hno
 go_enter Tryz.func98,Tryz.ntmps98
 go_wp2_with (go_at_call 59;(with_reducible refine(HF.out).mono ?_);rintro e w1' ⟨rfl,hw1⟩;rw[hw1];clear hw1 w1')
 refine wp_region_mixj 18 (TRulA t u false ib wb wo wc W.heap.size) (fun _ V=>Below W.heap.size W V) (by kernel_rfl) (by kernel_rfl) (Mj _ _).drew ?_ ?_
 ·simp only[Kj,Jh]
  refine(Lz ?_ (Lz ?_ (Lz ?_ (Lz ?_ (Lz ?_ (Lz ?_ (Lz ?_ (Lz ?_ (Lz ?_ (Lz ?_ (Lz ?_ (Lz ?_ (Lz ?_ (Lz ?_ (Lz ?_ (Lz ?_ (Lz ?_ (Lz ?_ StepsJ.nil))))))))))))))))))
  ·intro u0 W1 L hL hj hd
   simp only[putAll,Mq,Lq,Lk,Lj,Ly,Lx]
   have hj1:=hj
   go_wp2
   first|exact hj1|exact rfl|exact⟨rfl,hj1⟩|exact⟨rfl,hj1,k4⟩|exact⟨_,rfl,rfl,hj1,k4⟩
  ·intro u0 W1 L hL hj hd
   have e0:u0 0= .pointer (some ⟨ib,0,none⟩):=(hd.1 rfl (by decide)).2
   simp only[putAll,Mq,Lq,Lk,Lj,Ly,Lx]
   rw[e0]
   have hj1:=hj
   go_wp2
   first|exact hj1|exact rfl|exact⟨rfl,hj1⟩|exact⟨rfl,hj1,k4⟩|exact⟨_,rfl,rfl,hj1,k4⟩
  ·intro u0 W1 L hL hj hd
   have e1:u0 1= .pointer (some ⟨ib,0,none⟩):=(hd.1 rfl (by decide)).2
   simp only[putAll,Mq,Lq,Lk,Lj,Ly,Lx]
   rw[e1]
   have hj1:=hj
   go_wp2
   first|exact hj1|exact rfl|exact⟨rfl,hj1⟩|exact⟨rfl,hj1,k4⟩|exact⟨_,rfl,rfl,hj1,k4⟩
  ·intro u0 W1 L hL hj hd
   have e2:u0 2= .pointer (some ⟨ib,0,none⟩):=(hd.1 rfl (by decide)).2
   simp only[putAll,Mq,Lq,Lk,Lj,Ly,Lx]
   rw[e2]
   have hj1:=hj
   go_wp2
   first|exact hj1|exact rfl|exact⟨rfl,hj1⟩|exact⟨rfl,hj1,k4⟩|exact⟨_,rfl,rfl,hj1,k4⟩
  ·intro u0 W1 L hL hj hd
   have e3:u0 3= .pointer (some ⟨ib,1,none⟩):=(hd.1 rfl (by decide)).2
   have c1:=(HV.out.after hj).c 1 rfl
   simp only[putAll,Mq,Lq,Lk,Lj,Ly,Lx]
   rw[e3]
   have hj1:=hj
   go_wp2
   first|exact hj1|exact rfl|exact⟨rfl,hj1⟩|exact⟨rfl,hj1,k4⟩|exact⟨_,rfl,rfl,hj1,k4⟩
  ·intro u0 W1 L hL hj hd
   have e4:u0 4= .slice (some ⟨wb,wo,none⟩) 2 wc:=(hd.1 rfl (by decide)).2
   simp only[putAll,Mq,Lq,Lk,Lj,Ly,Lx]
   rw[e4]
   have hj1:=hj
   go_wp2
   first|exact hj1|exact rfl|exact⟨rfl,hj1⟩|exact⟨rfl,hj1,k4⟩|exact⟨_,rfl,rfl,hj1,k4⟩
  ·intro u0 W1 L hL hj hd
   have e5:u0 5= .pointer (some ⟨wb,wo,none⟩):=(hd.1 rfl (by decide)).2
   obtain⟨⟨t0,t1,t2,t3,t4⟩,_⟩:=HTK.out W1 hj
   simp only[putAll,Mq,Lq,Lk,Lj,Ly,Lx]
   rw[e5]
   have hj1:=hj
   go_wp2
   first|exact hj1|exact rfl|exact⟨rfl,hj1⟩|exact⟨rfl,hj1,k4⟩|exact⟨_,rfl,rfl,hj1,k4⟩
  ·intro u0 W1 L hL hj hd
   have e6:u0 6= .agg #[.int .i64 t.k, .string t.s, .int .u64 t.n, .int .i64 t.a, .int .i64 t.b]:=(hd.1 rfl (by decide)).2
   simp only[putAll,Mq,Lq,Lk,Lj,Ly,Lx]
   rw[e6]
   go_wp2_with (go_at_call 60;(with_reducible refine(HN1.out _).mono ?_);rintro e W2 ⟨rfl,g2⟩;have hj1:Below W.heap.size W W2:=hj.trans (g2.mono hj.size))
   first|exact⟨rfl,hj1⟩|exact⟨rfl,rfl,hj1⟩
  ·intro u0 W1 L hL hj hd
   simp only[putAll,Mq,Lq,Lk,Lj,Ly,Lx]
   have hj1:=hj
   go_wp2
   first|exact hj1|exact rfl|exact⟨rfl,hj1⟩|exact⟨rfl,hj1,k4⟩|exact⟨_,rfl,rfl,hj1,k4⟩
  ·intro u0 W1 L hL hj hd
   have e8:u0 8= .pointer (some ⟨ib,0,none⟩):=(hd.1 rfl (by decide)).2
   simp only[putAll,Mq,Lq,Lk,Lj,Ly,Lx]
   rw[e8]
   have hj1:=hj
   go_wp2
   first|exact hj1|exact rfl|exact⟨rfl,hj1⟩|exact⟨rfl,hj1,k4⟩|exact⟨_,rfl,rfl,hj1,k4⟩
  ·intro u0 W1 L hL hj hd
   have e9:u0 9= .pointer (some ⟨ib,0,none⟩):=(hd.1 rfl (by decide)).2
   simp only[putAll,Mq,Lq,Lk,Lj,Ly,Lx]
   rw[e9]
   have hj1:=hj
   go_wp2
   first|exact hj1|exact rfl|exact⟨rfl,hj1⟩|exact⟨rfl,hj1,k4⟩|exact⟨_,rfl,rfl,hj1,k4⟩
  ·intro u0 W1 L hL hj hd
   have e10:u0 10= .pointer (some ⟨ib,0,none⟩):=(hd.1 rfl (by decide)).2
   simp only[putAll,Mq,Lq,Lk,Lj,Ly,Lx]
   rw[e10]
   have hj1:=hj
   go_wp2
   first|exact hj1|exact rfl|exact⟨rfl,hj1⟩|exact⟨rfl,hj1,k4⟩|exact⟨_,rfl,rfl,hj1,k4⟩
  ·intro u0 W1 L hL hj hd
   have e11:u0 11= .pointer (some ⟨ib,1,none⟩):=(hd.1 rfl (by decide)).2
   have c1:=(HV.out.after hj).c 1 rfl
   simp only[putAll,Mq,Lq,Lk,Lj,Ly,Lx]
   rw[e11]
   have hj1:=hj
   go_wp2
   first|exact hj1|exact rfl|exact⟨rfl,hj1⟩|exact⟨rfl,hj1,k4⟩|exact⟨_,rfl,rfl,hj1,k4⟩
  ·intro u0 W1 L hL hj hd
   have e12:u0 12= .slice (some ⟨wb,wo,none⟩) 2 wc:=(hd.1 rfl (by decide)).2
   simp only[putAll,Mq,Lq,Lk,Lj,Ly,Lx]
   rw[e12]
   have hj1:=hj
   go_wp2
   first|exact hj1|exact rfl|exact⟨rfl,hj1⟩|exact⟨rfl,hj1,k4⟩|exact⟨_,rfl,rfl,hj1,k4⟩
  ·intro u0 W1 L hL hj hd
   have e13:u0 13= .pointer (some ⟨wb,wo+5,none⟩):=(hd.1 rfl (by decide)).2
   obtain⟨_,t0,t1,t2,t3,t4⟩:=HTK.out W1 hj
   simp only[putAll,Mq,Lq,Lk,Lj,Ly,Lx]
   rw[e13]
   have hj1:=hj
   go_wp2
   first|exact hj1|exact rfl|exact⟨rfl,hj1⟩|exact⟨rfl,hj1,k4⟩|exact⟨_,rfl,rfl,hj1,k4⟩
  ·intro u0 W1 L hL hj hd
   exact(((hd.2.1 rfl (by decide)).2:False)).elim
  ·intro u0 W1 L hL hj hd
   exact(((hd.1 rfl (by decide)).2:False)).elim
  ·intro u0 W1 L hL hj hd
   simp only[putAll,Mq,Lq,Lk,Lj,Ly,Lx]
   obtain⟨g,W2,hg,hW2,V2,g2,_⟩:=boxL W1 [.string ⟨#[]⟩, .bool false, .int .i64 0, .int .i64 0, .int .u64 0, .int .i64 0, .int .i64 0] 58
   have hj1:Below W.heap.size W W2:=hj.trans (g2.mono hj.size)
   have hkp: ∀j v',j<18→L j=true→TRulA t u false ib wb wo wc W.heap.size j v' W1→TRulA t u false ib wb wo wc W.heap.size j v' W2:=fun j v' _ _ h=>TRulA.keep j v' W1 W2 h g2
   have hgl:W.heap.size≤g:=by have:=hj.size;omega
   have hex: ∃g',Value.pointer (some ⟨g,0,none⟩)= .pointer (some ⟨g',0,none⟩)∧W.heap.size≤g'∧VarL W2 g' [.string ⟨#[]⟩, .bool false, .int .i64 0, .int .i64 0, .int .u64 0, .int .i64 0, .int .i64 0]:=⟨g,rfl,hgl,V2⟩
   go_wp2
   first|exact⟨hex,hkp⟩|exact⟨hex,hj1,hkp⟩|exact⟨_,rfl,hex,hj1,hkp⟩|exact⟨⟨hgl,V2⟩,hkp⟩|exact⟨⟨_,rfl,hgl,V2⟩,hkp⟩
 ·intro u0 W1 L hall hb ht
  exact(ht 7 (by decide):False).elim
theorem rul_k2 (x:It) (t u:Tk3) (S:Nat→Prop) (W:World) (gb ib mb:Nat) (wv kv:Value) (sec:ByteArray) (h:VarL W ib (itemL x wv kv mb sec)) (hx:x.words= [t,u]) (hbk:x.block=true) (hw:WordsIs W S wv x.words) (hS: ∀b,S b→b<W.heap.size) (hk:1≤t.k∧t.k≤6) (hk2:1≤u.k∧u.k≤6) (hno:t.k=1∧¬(u.k=1∧(u.s=nPage∨u.s=nTicket))):Calls Tryz.prog 98 #[.pointer (some ⟨gb,0,none⟩), .pointer (some ⟨ib,0,none⟩)] W fun e w'=>e=up 6∧Below W.heap.size W w':=by
 rw[hx]at hw
 obtain⟨wb,wo,wc,rfl,hs,⟨w0,w1,w2,w3,w4⟩,w5,w6,w7,w8,w9⟩:=words_two hw
 have hsl:=hS wb hs
 have HF:Hid (Calls Tryz.prog 59 #[.pointer (some ⟨ib,0,none⟩), .int .i64 2, .bool true] W fun e w'=>e= .returned (.tuple #[])∧w'=W):=Lh (form_yes x 2 true W ib mb (some ⟨wb,wo,none⟩) wc kv sec (by rw[hx];exact h) ⟨by rw[hx];rfl,hbk⟩)
 have HV:=Lh h
 have HTK:Hid (∀W1,Below W.heap.size W W1→(W1.cell? ⟨wb,wo,none⟩=some (.int .i64 t.k)∧W1.cell? ⟨wb,wo+1,none⟩=some (.string t.s)∧W1.cell? ⟨wb,wo+2,none⟩=some (.int .u64 t.n)∧W1.cell? ⟨wb,wo+3,none⟩=some (.int .i64 t.a)∧W1.cell? ⟨wb,wo+4,none⟩=some (.int .i64 t.b))∧
   W1.cell? ⟨wb,wo+5,none⟩=some (.int .i64 u.k)∧W1.cell? ⟨wb,wo+6,none⟩=some (.string u.s)∧W1.cell? ⟨wb,wo+7,none⟩=some (.int .u64 u.n)∧W1.cell? ⟨wb,wo+8,none⟩=some (.int .i64 u.a)∧W1.cell? ⟨wb,wo+9,none⟩=some (.int .i64 u.b)):=Lh (fun W1 hb=>
  ⟨⟨(hb.cell (p:=⟨wb,wo,none⟩) hsl).trans w0,(hb.cell (p:=⟨wb,wo+1,none⟩) hsl).trans w1,(hb.cell (p:=⟨wb,wo+2,none⟩) hsl).trans w2,(hb.cell (p:=⟨wb,wo+3,none⟩) hsl).trans w3,(hb.cell (p:=⟨wb,wo+4,none⟩) hsl).trans w4⟩,(hb.cell (p:=⟨wb,wo+5,none⟩) hsl).trans w5,(hb.cell (p:=⟨wb,wo+6,none⟩) hsl).trans w6,(hb.cell (p:=⟨wb,wo+7,none⟩) hsl).trans w7,(hb.cell (p:=⟨wb,wo+8,none⟩) hsl).trans w8,(hb.cell (p:=⟨wb,wo+9,none⟩) hsl).trans w9⟩)
 have HN1:=Lh (fun V=>nameOf_yes t V hk.1 hk.2 hno.1)
 have HN2:=Lh (fun V=>(first_two u V hk2).2 hno.2)
 unfold tkA at HN1 HN2
 clear h hx hbk hw hS hk hk2 hs hsl w0 w1 w2 w3 w4 w5 w6 w7 w8 w9 hno
 go_enter Tryz.func98,Tryz.ntmps98
 go_wp2_with (go_at_call 59;(with_reducible refine(HF.out).mono ?_);rintro e w1' ⟨rfl,hw1⟩;rw[hw1];clear hw1 w1')
 refine wp_region_mixj 18 (TRulB t u false ib wb wo wc W.heap.size) (fun _ V=>Below W.heap.size W V) (by kernel_rfl) (by kernel_rfl) (Mj _ _).drew ?_ ?_
 ·simp only[Kj,Jh]
  refine(Lz ?_ (Lz ?_ (Lz ?_ (Lz ?_ (Lz ?_ (Lz ?_ (Lz ?_ (Lz ?_ (Lz ?_ (Lz ?_ (Lz ?_ (Lz ?_ (Lz ?_ (Lz ?_ (Lz ?_ (Lz ?_ (Lz ?_ (Lz ?_ StepsJ.nil))))))))))))))))))
  ·intro u0 W1 L hL hj hd
   simp only[putAll,Mq,Lq,Lk,Lj,Ly,Lx]
   have hj1:=hj
   go_wp2
   first|exact hj1|exact rfl|exact⟨rfl,hj1⟩|exact⟨rfl,hj1,k4⟩|exact⟨_,rfl,rfl,hj1,k4⟩
  ·intro u0 W1 L hL hj hd
   have e0:u0 0= .pointer (some ⟨ib,0,none⟩):=(hd.1 rfl (by decide)).2
   simp only[putAll,Mq,Lq,Lk,Lj,Ly,Lx]
   rw[e0]
   have hj1:=hj
   go_wp2
   first|exact hj1|exact rfl|exact⟨rfl,hj1⟩|exact⟨rfl,hj1,k4⟩|exact⟨_,rfl,rfl,hj1,k4⟩
  ·intro u0 W1 L hL hj hd
   have e1:u0 1= .pointer (some ⟨ib,0,none⟩):=(hd.1 rfl (by decide)).2
   simp only[putAll,Mq,Lq,Lk,Lj,Ly,Lx]
   rw[e1]
   have hj1:=hj
   go_wp2
   first|exact hj1|exact rfl|exact⟨rfl,hj1⟩|exact⟨rfl,hj1,k4⟩|exact⟨_,rfl,rfl,hj1,k4⟩
  ·intro u0 W1 L hL hj hd
   have e2:u0 2= .pointer (some ⟨ib,0,none⟩):=(hd.1 rfl (by decide)).2
   simp only[putAll,Mq,Lq,Lk,Lj,Ly,Lx]
   rw[e2]
   have hj1:=hj
   go_wp2
   first|exact hj1|exact rfl|exact⟨rfl,hj1⟩|exact⟨rfl,hj1,k4⟩|exact⟨_,rfl,rfl,hj1,k4⟩
  ·intro u0 W1 L hL hj hd
   have e3:u0 3= .pointer (some ⟨ib,1,none⟩):=(hd.1 rfl (by decide)).2
   have c1:=(HV.out.after hj).c 1 rfl
   simp only[putAll,Mq,Lq,Lk,Lj,Ly,Lx]
   rw[e3]
   have hj1:=hj
   go_wp2
   first|exact hj1|exact rfl|exact⟨rfl,hj1⟩|exact⟨rfl,hj1,k4⟩|exact⟨_,rfl,rfl,hj1,k4⟩
  ·intro u0 W1 L hL hj hd
   have e4:u0 4= .slice (some ⟨wb,wo,none⟩) 2 wc:=(hd.1 rfl (by decide)).2
   simp only[putAll,Mq,Lq,Lk,Lj,Ly,Lx]
   rw[e4]
   have hj1:=hj
   go_wp2
   first|exact hj1|exact rfl|exact⟨rfl,hj1⟩|exact⟨rfl,hj1,k4⟩|exact⟨_,rfl,rfl,hj1,k4⟩
  ·intro u0 W1 L hL hj hd
   have e5:u0 5= .pointer (some ⟨wb,wo,none⟩):=(hd.1 rfl (by decide)).2
   obtain⟨⟨t0,t1,t2,t3,t4⟩,_⟩:=HTK.out W1 hj
   simp only[putAll,Mq,Lq,Lk,Lj,Ly,Lx]
   rw[e5]
   have hj1:=hj
   go_wp2
   first|exact hj1|exact rfl|exact⟨rfl,hj1⟩|exact⟨rfl,hj1,k4⟩|exact⟨_,rfl,rfl,hj1,k4⟩
  ·intro u0 W1 L hL hj hd
   have e6:u0 6= .agg #[.int .i64 t.k, .string t.s, .int .u64 t.n, .int .i64 t.a, .int .i64 t.b]:=(hd.1 rfl (by decide)).2
   simp only[putAll,Mq,Lq,Lk,Lj,Ly,Lx]
   rw[e6]
   go_wp2_with (go_at_call 60;(with_reducible refine(HN1.out _).mono ?_);rintro e W2 ⟨rfl,g2⟩;have hj1:Below W.heap.size W W2:=hj.trans (g2.mono hj.size);have hkp: ∀j v',j<18→L j=true→TRulB t u false ib wb wo wc W.heap.size j v' W1→TRulB t u false ib wb wo wc W.heap.size j v' W2:=fun j v' _ _ h=>TRulB.keep j v' W1 W2 h g2)
   first|exact hkp|exact⟨rfl,hkp⟩|exact⟨rfl,hj1,hkp⟩|exact⟨_,rfl,rfl,hj1,hkp⟩
  ·intro u0 W1 L hL hj hd
   simp only[putAll,Mq,Lq,Lk,Lj,Ly,Lx]
   have hj1:=hj
   go_wp2
   first|exact hj1|exact rfl|exact⟨rfl,hj1⟩|exact⟨rfl,hj1,k4⟩|exact⟨_,rfl,rfl,hj1,k4⟩
  ·intro u0 W1 L hL hj hd
   have e8:u0 8= .pointer (some ⟨ib,0,none⟩):=(hd.1 rfl (by decide)).2
   simp only[putAll,Mq,Lq,Lk,Lj,Ly,Lx]
   rw[e8]
   have hj1:=hj
   go_wp2
   first|exact hj1|exact rfl|exact⟨rfl,hj1⟩|exact⟨rfl,hj1,k4⟩|exact⟨_,rfl,rfl,hj1,k4⟩
  ·intro u0 W1 L hL hj hd
   have e9:u0 9= .pointer (some ⟨ib,0,none⟩):=(hd.1 rfl (by decide)).2
   simp only[putAll,Mq,Lq,Lk,Lj,Ly,Lx]
   rw[e9]
   have hj1:=hj
   go_wp2
   first|exact hj1|exact rfl|exact⟨rfl,hj1⟩|exact⟨rfl,hj1,k4⟩|exact⟨_,rfl,rfl,hj1,k4⟩
  ·intro u0 W1 L hL hj hd
   have e10:u0 10= .pointer (some ⟨ib,0,none⟩):=(hd.1 rfl (by decide)).2
   simp only[putAll,Mq,Lq,Lk,Lj,Ly,Lx]
   rw[e10]
   have hj1:=hj
   go_wp2
   first|exact hj1|exact rfl|exact⟨rfl,hj1⟩|exact⟨rfl,hj1,k4⟩|exact⟨_,rfl,rfl,hj1,k4⟩
  ·intro u0 W1 L hL hj hd
   have e11:u0 11= .pointer (some ⟨ib,1,none⟩):=(hd.1 rfl (by decide)).2
   have c1:=(HV.out.after hj).c 1 rfl
   simp only[putAll,Mq,Lq,Lk,Lj,Ly,Lx]
   rw[e11]
   have hj1:=hj
   go_wp2
   first|exact hj1|exact rfl|exact⟨rfl,hj1⟩|exact⟨rfl,hj1,k4⟩|exact⟨_,rfl,rfl,hj1,k4⟩
  ·intro u0 W1 L hL hj hd
   have e12:u0 12= .slice (some ⟨wb,wo,none⟩) 2 wc:=(hd.1 rfl (by decide)).2
   simp only[putAll,Mq,Lq,Lk,Lj,Ly,Lx]
   rw[e12]
   have hj1:=hj
   go_wp2
   first|exact hj1|exact rfl|exact⟨rfl,hj1⟩|exact⟨rfl,hj1,k4⟩|exact⟨_,rfl,rfl,hj1,k4⟩
  ·intro u0 W1 L hL hj hd
   have e13:u0 13= .pointer (some ⟨wb,wo+5,none⟩):=(hd.1 rfl (by decide)).2
   obtain⟨_,t0,t1,t2,t3,t4⟩:=HTK.out W1 hj
   simp only[putAll,Mq,Lq,Lk,Lj,Ly,Lx]
   rw[e13]
   have hj1:=hj
   go_wp2
   first|exact hj1|exact rfl|exact⟨rfl,hj1⟩|exact⟨rfl,hj1,k4⟩|exact⟨_,rfl,rfl,hj1,k4⟩
  ·intro u0 W1 L hL hj hd
   have e14:u0 14= .agg #[.int .i64 u.k, .string u.s, .int .u64 u.n, .int .i64 u.a, .int .i64 u.b]:=(hd.1 rfl (by decide)).2
   simp only[putAll,Mq,Lq,Lk,Lj,Ly,Lx]
   rw[e14]
   go_wp2_with (go_at_call 122;(with_reducible refine(HN2.out _).mono ?_);rintro e W2 ⟨rfl,g2⟩;have hj1:Below W.heap.size W W2:=hj.trans (g2.mono hj.size))
   first|exact⟨rfl,hj1⟩|exact⟨rfl,rfl,hj1⟩
  ·intro u0 W1 L hL hj hd
   exact(((hd.2.1 rfl (by decide)).2:False)).elim
  ·intro u0 W1 L hL hj hd
   simp only[putAll,Mq,Lq,Lk,Lj,Ly,Lx]
   obtain⟨g,W2,hg,hW2,V2,g2,_⟩:=boxL W1 [.string ⟨#[]⟩, .bool false, .int .i64 0, .int .i64 0, .int .u64 0, .int .i64 0, .int .i64 0] 58
   have hj1:Below W.heap.size W W2:=hj.trans (g2.mono hj.size)
   have hkp: ∀j v',j<18→L j=true→TRulB t u false ib wb wo wc W.heap.size j v' W1→TRulB t u false ib wb wo wc W.heap.size j v' W2:=fun j v' _ _ h=>TRulB.keep j v' W1 W2 h g2
   have hgl:W.heap.size≤g:=by have:=hj.size;omega
   have hex: ∃g',Value.pointer (some ⟨g,0,none⟩)= .pointer (some ⟨g',0,none⟩)∧W.heap.size≤g'∧VarL W2 g' [.string ⟨#[]⟩, .bool false, .int .i64 0, .int .i64 0, .int .u64 0, .int .i64 0, .int .i64 0]:=⟨g,rfl,hgl,V2⟩
   go_wp2
   first|exact⟨hex,hkp⟩|exact⟨hex,hj1,hkp⟩|exact⟨_,rfl,hex,hj1,hkp⟩|exact⟨⟨hgl,V2⟩,hkp⟩|exact⟨⟨_,rfl,hgl,V2⟩,hkp⟩
 ·intro u0 W1 L hall hb ht
  exact(ht 15 (by decide):False).elim
theorem rul_known (x:It) (t u:Tk3) (S:Nat→Prop) (W:World) (gb ib mb:Nat) (wv kv:Value) (sec:ByteArray) (h:VarL W ib (itemL x wv kv mb sec)) (hx:x.words= [t,u]) (hbk:x.block=true) (hw:WordsIs W S wv x.words) (hS: ∀b,S b→b<W.heap.size) (hk:1≤t.k∧t.k≤6) (hk2:1≤u.k∧u.k≤6) (f:ByteArray→ByteArray→Nat) (hc:CntIs W mb f) (hno:t.k=1∧u.k=1∧(u.s=nPage∨u.s=nTicket)) (hne:ib≠mb) (hf:f x.name t.s≠0):Calls Tryz.prog 98 #[.pointer (some ⟨gb,0,none⟩), .pointer (some ⟨ib,0,none⟩)] W fun e w'=>e=up 18∧Below W.heap.size W w':=by
 rw[hx]at hw
 obtain⟨wb,wo,wc,rfl,hs,⟨w0,w1,w2,w3,w4⟩,w5,w6,w7,w8,w9⟩:=words_two hw
 have hsl:=hS wb hs
 have HF:Hid (Calls Tryz.prog 59 #[.pointer (some ⟨ib,0,none⟩), .int .i64 2, .bool true] W fun e w'=>e= .returned (.tuple #[])∧w'=W):=Lh (form_yes x 2 true W ib mb (some ⟨wb,wo,none⟩) wc kv sec (by rw[hx];exact h) ⟨by rw[hx];rfl,hbk⟩)
 have HV:=Lh h
 have HTK:Hid (∀W1,Below W.heap.size W W1→(W1.cell? ⟨wb,wo,none⟩=some (.int .i64 t.k)∧W1.cell? ⟨wb,wo+1,none⟩=some (.string t.s)∧W1.cell? ⟨wb,wo+2,none⟩=some (.int .u64 t.n)∧W1.cell? ⟨wb,wo+3,none⟩=some (.int .i64 t.a)∧W1.cell? ⟨wb,wo+4,none⟩=some (.int .i64 t.b))∧
   W1.cell? ⟨wb,wo+5,none⟩=some (.int .i64 u.k)∧W1.cell? ⟨wb,wo+6,none⟩=some (.string u.s)∧W1.cell? ⟨wb,wo+7,none⟩=some (.int .u64 u.n)∧W1.cell? ⟨wb,wo+8,none⟩=some (.int .i64 u.a)∧W1.cell? ⟨wb,wo+9,none⟩=some (.int .i64 u.b)):=Lh (fun W1 hb=>
  ⟨⟨(hb.cell (p:=⟨wb,wo,none⟩) hsl).trans w0,(hb.cell (p:=⟨wb,wo+1,none⟩) hsl).trans w1,(hb.cell (p:=⟨wb,wo+2,none⟩) hsl).trans w2,(hb.cell (p:=⟨wb,wo+3,none⟩) hsl).trans w3,(hb.cell (p:=⟨wb,wo+4,none⟩) hsl).trans w4⟩,(hb.cell (p:=⟨wb,wo+5,none⟩) hsl).trans w5,(hb.cell (p:=⟨wb,wo+6,none⟩) hsl).trans w6,(hb.cell (p:=⟨wb,wo+7,none⟩) hsl).trans w7,(hb.cell (p:=⟨wb,wo+8,none⟩) hsl).trans w8,(hb.cell (p:=⟨wb,wo+9,none⟩) hsl).trans w9⟩)
 have HN1:=Lh (fun V=>nameOf_yes t V hk.1 hk.2 hno.1)
 have HN2:=Lh (fun V=>(first_two u V hk2).1 hno.2)
 obtain⟨pg,hpg⟩: ∃pg,decide (u.s=nPage)=pg:=⟨_,rfl⟩
 rw[hpg]at HN2
 have HPG:=Lh hpg
 unfold tkA at HN1 HN2
 have HC:=Lh hc
 have HNE:=Lh hne
 have HF0:=Lh hf
 clear hf
 clear h hx hbk hw hS hk hk2 hs hsl w0 w1 w2 w3 w4 w5 w6 w7 w8 w9 hno hc hne hpg
 go_enter Tryz.func98,Tryz.ntmps98
 go_wp2_with (go_at_call 59;(with_reducible refine(HF.out).mono ?_);rintro e w1' ⟨rfl,hw1⟩;rw[hw1];clear hw1 w1')
 refine wp_region_mixj 18 (TRul t u pg ib wb wo wc W.heap.size) (fun _ V=>Below W.heap.size W V) (by kernel_rfl) (by kernel_rfl) (Mj _ _).drew ?_ ?_
 ·simp only[Kj,Jh]
  refine(Lz ?_ (Lz ?_ (Lz ?_ (Lz ?_ (Lz ?_ (Lz ?_ (Lz ?_ (Lz ?_ (Lz ?_ (Lz ?_ (Lz ?_ (Lz ?_ (Lz ?_ (Lz ?_ (Lz ?_ (Lz ?_ (Lz ?_ (Lz ?_ StepsJ.nil))))))))))))))))))
  all_goals(intro u0 W1 L hL hj hd;simp only[putAll,Mq,Lq,Lk,Lj,Ly,Lx])
  ·have hj1:=hj
   go_wp2
   first|exact hj1|exact rfl|exact⟨rfl,hj1⟩|exact⟨rfl,hj1,k4⟩|exact⟨_,rfl,rfl,hj1,k4⟩
  ·have e0:u0 0= .pointer (some ⟨ib,0,none⟩):=(hd.1 rfl (by decide)).2
   rw[e0]
   have hj1:=hj
   go_wp2
   first|exact hj1|exact rfl|exact⟨rfl,hj1⟩|exact⟨rfl,hj1,k4⟩|exact⟨_,rfl,rfl,hj1,k4⟩
  ·have e1:u0 1= .pointer (some ⟨ib,0,none⟩):=(hd.1 rfl (by decide)).2
   rw[e1]
   have hj1:=hj
   go_wp2
   first|exact hj1|exact rfl|exact⟨rfl,hj1⟩|exact⟨rfl,hj1,k4⟩|exact⟨_,rfl,rfl,hj1,k4⟩
  ·have e2:u0 2= .pointer (some ⟨ib,0,none⟩):=(hd.1 rfl (by decide)).2
   rw[e2]
   have hj1:=hj
   go_wp2
   first|exact hj1|exact rfl|exact⟨rfl,hj1⟩|exact⟨rfl,hj1,k4⟩|exact⟨_,rfl,rfl,hj1,k4⟩
  ·have e3:u0 3= .pointer (some ⟨ib,1,none⟩):=(hd.1 rfl (by decide)).2
   have c1:=(HV.out.after hj).c 1 rfl
   rw[e3]
   have hj1:=hj
   go_wp2
   first|exact hj1|exact rfl|exact⟨rfl,hj1⟩|exact⟨rfl,hj1,k4⟩|exact⟨_,rfl,rfl,hj1,k4⟩
  ·have e4:u0 4= .slice (some ⟨wb,wo,none⟩) 2 wc:=(hd.1 rfl (by decide)).2
   rw[e4]
   have hj1:=hj
   go_wp2
   first|exact hj1|exact rfl|exact⟨rfl,hj1⟩|exact⟨rfl,hj1,k4⟩|exact⟨_,rfl,rfl,hj1,k4⟩
  ·have e5:u0 5= .pointer (some ⟨wb,wo,none⟩):=(hd.1 rfl (by decide)).2
   obtain⟨⟨t0,t1,t2,t3,t4⟩,_⟩:=HTK.out W1 hj
   rw[e5]
   have hj1:=hj
   go_wp2
   first|exact hj1|exact rfl|exact⟨rfl,hj1⟩|exact⟨rfl,hj1,k4⟩|exact⟨_,rfl,rfl,hj1,k4⟩
  ·have e6:u0 6= .agg #[.int .i64 t.k, .string t.s, .int .u64 t.n, .int .i64 t.a, .int .i64 t.b]:=(hd.1 rfl (by decide)).2
   rw[e6]
   go_wp2_with (go_at_call 60;(with_reducible refine(HN1.out _).mono ?_);rintro e W2 ⟨rfl,g2⟩;have hj1:Below W.heap.size W W2:=hj.trans (g2.mono hj.size);have hkp: ∀j v',j<18→L j=true→TRul t u pg ib wb wo wc W.heap.size j v' W1→TRul t u pg ib wb wo wc W.heap.size j v' W2:=fun j v' _ _ h=>TRul.keep j v' W1 W2 h g2)
   first|exact hkp|exact⟨rfl,hkp⟩|exact⟨rfl,hj1,hkp⟩|exact⟨_,rfl,rfl,hj1,hkp⟩
  ·have hj1:=hj
   go_wp2
   first|exact hj1|exact rfl|exact⟨rfl,hj1⟩|exact⟨rfl,hj1,k4⟩|exact⟨_,rfl,rfl,hj1,k4⟩
  ·have e8:u0 8= .pointer (some ⟨ib,0,none⟩):=(hd.1 rfl (by decide)).2
   rw[e8]
   have hj1:=hj
   go_wp2
   first|exact hj1|exact rfl|exact⟨rfl,hj1⟩|exact⟨rfl,hj1,k4⟩|exact⟨_,rfl,rfl,hj1,k4⟩
  ·have e9:u0 9= .pointer (some ⟨ib,0,none⟩):=(hd.1 rfl (by decide)).2
   rw[e9]
   have hj1:=hj
   go_wp2
   first|exact hj1|exact rfl|exact⟨rfl,hj1⟩|exact⟨rfl,hj1,k4⟩|exact⟨_,rfl,rfl,hj1,k4⟩
  ·have e10:u0 10= .pointer (some ⟨ib,0,none⟩):=(hd.1 rfl (by decide)).2
   rw[e10]
   have hj1:=hj
   go_wp2
   first|exact hj1|exact rfl|exact⟨rfl,hj1⟩|exact⟨rfl,hj1,k4⟩|exact⟨_,rfl,rfl,hj1,k4⟩
  ·have e11:u0 11= .pointer (some ⟨ib,1,none⟩):=(hd.1 rfl (by decide)).2
   have c1:=(HV.out.after hj).c 1 rfl
   rw[e11]
   have hj1:=hj
   go_wp2
   first|exact hj1|exact rfl|exact⟨rfl,hj1⟩|exact⟨rfl,hj1,k4⟩|exact⟨_,rfl,rfl,hj1,k4⟩
  ·have e12:u0 12= .slice (some ⟨wb,wo,none⟩) 2 wc:=(hd.1 rfl (by decide)).2
   rw[e12]
   have hj1:=hj
   go_wp2
   first|exact hj1|exact rfl|exact⟨rfl,hj1⟩|exact⟨rfl,hj1,k4⟩|exact⟨_,rfl,rfl,hj1,k4⟩
  ·have e13:u0 13= .pointer (some ⟨wb,wo+5,none⟩):=(hd.1 rfl (by decide)).2
   obtain⟨_,t0,t1,t2,t3,t4⟩:=HTK.out W1 hj
   rw[e13]
   have hj1:=hj
   go_wp2
   first|exact hj1|exact rfl|exact⟨rfl,hj1⟩|exact⟨rfl,hj1,k4⟩|exact⟨_,rfl,rfl,hj1,k4⟩
  ·have e14:u0 14= .agg #[.int .i64 u.k, .string u.s, .int .u64 u.n, .int .i64 u.a, .int .i64 u.b]:=(hd.1 rfl (by decide)).2
   rw[e14]
   go_wp2_with (go_at_call 122;(with_reducible refine(HN2.out _).mono ?_);rintro e W2 ⟨rfl,g2⟩;have hj1:Below W.heap.size W W2:=hj.trans (g2.mono hj.size);have hkp: ∀j v',j<18→L j=true→TRul t u pg ib wb wo wc W.heap.size j v' W1→TRul t u pg ib wb wo wc W.heap.size j v' W2:=fun j v' _ _ h=>TRul.keep j v' W1 W2 h g2)
   first|exact hkp|exact⟨rfl,hkp⟩|exact⟨rfl,hj1,hkp⟩|exact⟨_,rfl,rfl,hj1,hkp⟩
  ·have e7:u0 7= .string t.s:=(hd.1 rfl (by decide)).2
   have e15:u0 15= .bool pg:=(hd.2.1 rfl (by decide)).2
   rw[e7,e15]
   have hj1:=hj
   go_wp2
   first|exact hj1|exact rfl|exact⟨rfl,hj1⟩|exact⟨rfl,hj1,k4⟩|exact⟨_,rfl,rfl,hj1,k4⟩
  ·obtain⟨g,W2,hg,hW2,V2,g2,_⟩:=boxL W1 [.string ⟨#[]⟩, .bool false, .int .i64 0, .int .i64 0, .int .u64 0, .int .i64 0, .int .i64 0] 58
   have hj1:Below W.heap.size W W2:=hj.trans (g2.mono hj.size)
   have hkp: ∀j v',j<18→L j=true→TRul t u pg ib wb wo wc W.heap.size j v' W1→TRul t u pg ib wb wo wc W.heap.size j v' W2:=fun j v' _ _ h=>TRul.keep j v' W1 W2 h g2
   have hgl:W.heap.size≤g:=by have:=hj.size;omega
   have hex: ∃g',Value.pointer (some ⟨g,0,none⟩)= .pointer (some ⟨g',0,none⟩)∧W.heap.size≤g'∧VarL W2 g' [.string ⟨#[]⟩, .bool false, .int .i64 0, .int .i64 0, .int .u64 0, .int .i64 0, .int .i64 0]:=⟨g,rfl,hgl,V2⟩
   go_wp2
   first|exact⟨hex,hkp⟩|exact⟨hex,hj1,hkp⟩|exact⟨_,rfl,hex,hj1,hkp⟩|exact⟨⟨hgl,V2⟩,hkp⟩|exact⟨⟨_,rfl,hgl,V2⟩,hkp⟩
 ·intro u0 W1 L hall hb ht
  have e16:u0 16= .agg #[.string t.s, .bool pg, .int .i64 0, .int .i64 0, .int .u64 0, .int .i64 0, .int .i64 0]:=ht 16 (by decide)
  obtain⟨gv,e17,hgv,hvg⟩:=ht 17 (by decide)
  have HBW:=Lh hb
  clear hb ht hall
  simp only[Kj,Jh,Jj,Jk,putAll,Mq,Lq,Lk,Lj,Ly,Lx]
  rw[e16,e17]
  have HVG:=Lh hvg
  have x0:=hvg.c 0 rfl
  have q0:=hvg.q 0 rfl
  have x1:=hvg.c 1 rfl
  have q1:=hvg.q 1 rfl
  have x2:=hvg.c 2 rfl
  have q2:=hvg.q 2 rfl
  have x3:=hvg.c 3 rfl
  have q3:=hvg.q 3 rfl
  have x4:=hvg.c 4 rfl
  have q4:=hvg.q 4 rfl
  have x5:=hvg.c 5 rfl
  have q5:=hvg.q 5 rfl
  have x6:=hvg.c 6 rfl
  have q6:=hvg.q 6 rfl
  obtain⟨W2,hW2⟩: ∃W2,putL gv 0 [.string t.s, .bool pg, .int .i64 0, .int .i64 0, .int .u64 0, .int .i64 0, .int .i64 0] W1=W2:=⟨_,rfl⟩
  have HV2:Hid (VarL W2 gv [.string t.s, .bool pg, .int .i64 0, .int .i64 0, .int .u64 0, .int .i64 0, .int .i64 0]):=Lh (by rw[←hW2];exact putL_var [.string t.s, .bool pg, .int .i64 0, .int .i64 0, .int .u64 0, .int .i64 0, .int .i64 0] [] [.string ⟨#[]⟩, .bool false, .int .i64 0, .int .i64 0, .int .u64 0, .int .i64 0, .int .i64 0] W1 HVG.out rfl)
  have HB2:Hid (Below W.heap.size W W2):=Lh (by rw[←hW2];exact putL_below _ hgv _ _ HBW.out)
  have HGV:=Lh hgv
  simp only[putL,Ly,Lx]at hW2
  have y0:=HV2.out.c 0 rfl
  have HIV:=Lh (HV.out.after HB2.out)
  have HIC:=Lh (HC.out.keep (HB2.out.block mb HC.out.lt))
  have HNA:=Lh (named_known x t.s 4 W2 ib mb _ kv sec f HIV.out HIC.out HF0.out)
  clear hvg hgv
  go_wp2_with (go_at_call 61;(with_reducible refine(HNA.out).mono ?_);rintro e w3 ⟨rfl,g3⟩;have G3:=Lh (below_step HB2.out g3);clear g3)
  first|exact⟨rfl,G3.out⟩|exact⟨rfl,rfl,G3.out⟩
theorem rul_long (x:It) (t u:Tk3) (S:Nat→Prop) (W:World) (gb ib mb:Nat) (wv kv:Value) (sec:ByteArray) (h:VarL W ib (itemL x wv kv mb sec)) (hx:x.words= [t,u]) (hbk:x.block=true) (hw:WordsIs W S wv x.words) (hS: ∀b,S b→b<W.heap.size) (hk:1≤t.k∧t.k≤6) (hk2:1≤u.k∧u.k≤6) (f:ByteArray→ByteArray→Nat) (hc:CntIs W mb f) (hno:t.k=1∧u.k=1∧(u.s=nPage∨u.s=nTicket)) (hne:ib≠mb) (hf:f x.name t.s=0) (hn:f x.name ⟨#[]⟩=4):Calls Tryz.prog 98 #[.pointer (some ⟨gb,0,none⟩), .pointer (some ⟨ib,0,none⟩)] W fun e w'=>e=up 9∧Below W.heap.size W w':=by
 rw[hx]at hw
 obtain⟨wb,wo,wc,rfl,hs,⟨w0,w1,w2,w3,w4⟩,w5,w6,w7,w8,w9⟩:=words_two hw
 have hsl:=hS wb hs
 have HF:Hid (Calls Tryz.prog 59 #[.pointer (some ⟨ib,0,none⟩), .int .i64 2, .bool true] W fun e w'=>e= .returned (.tuple #[])∧w'=W):=Lh (form_yes x 2 true W ib mb (some ⟨wb,wo,none⟩) wc kv sec (by rw[hx];exact h) ⟨by rw[hx];rfl,hbk⟩)
 have HV:=Lh h
 have HTK:Hid (∀W1,Below W.heap.size W W1→(W1.cell? ⟨wb,wo,none⟩=some (.int .i64 t.k)∧W1.cell? ⟨wb,wo+1,none⟩=some (.string t.s)∧W1.cell? ⟨wb,wo+2,none⟩=some (.int .u64 t.n)∧W1.cell? ⟨wb,wo+3,none⟩=some (.int .i64 t.a)∧W1.cell? ⟨wb,wo+4,none⟩=some (.int .i64 t.b))∧
   W1.cell? ⟨wb,wo+5,none⟩=some (.int .i64 u.k)∧W1.cell? ⟨wb,wo+6,none⟩=some (.string u.s)∧W1.cell? ⟨wb,wo+7,none⟩=some (.int .u64 u.n)∧W1.cell? ⟨wb,wo+8,none⟩=some (.int .i64 u.a)∧W1.cell? ⟨wb,wo+9,none⟩=some (.int .i64 u.b)):=Lh (fun W1 hb=>
  ⟨⟨(hb.cell (p:=⟨wb,wo,none⟩) hsl).trans w0,(hb.cell (p:=⟨wb,wo+1,none⟩) hsl).trans w1,(hb.cell (p:=⟨wb,wo+2,none⟩) hsl).trans w2,(hb.cell (p:=⟨wb,wo+3,none⟩) hsl).trans w3,(hb.cell (p:=⟨wb,wo+4,none⟩) hsl).trans w4⟩,(hb.cell (p:=⟨wb,wo+5,none⟩) hsl).trans w5,(hb.cell (p:=⟨wb,wo+6,none⟩) hsl).trans w6,(hb.cell (p:=⟨wb,wo+7,none⟩) hsl).trans w7,(hb.cell (p:=⟨wb,wo+8,none⟩) hsl).trans w8,(hb.cell (p:=⟨wb,wo+9,none⟩) hsl).trans w9⟩)
 have HN1:=Lh (fun V=>nameOf_yes t V hk.1 hk.2 hno.1)
 have HN2:=Lh (fun V=>(first_two u V hk2).1 hno.2)
 obtain⟨pg,hpg⟩: ∃pg,decide (u.s=nPage)=pg:=⟨_,rfl⟩
 rw[hpg]at HN2
 have HPG:=Lh hpg
 unfold tkA at HN1 HN2
 have HC:=Lh hc
 have HNE:=Lh hne
 have HF0:=Lh hf
 have HFN:=Lh hn
 clear hf hn
 clear h hx hbk hw hS hk hk2 hs hsl w0 w1 w2 w3 w4 w5 w6 w7 w8 w9 hno hc hne hpg
 go_enter Tryz.func98,Tryz.ntmps98
 go_wp2_with (go_at_call 59;(with_reducible refine(HF.out).mono ?_);rintro e w1' ⟨rfl,hw1⟩;rw[hw1];clear hw1 w1')
 refine wp_region_mixj 18 (TRul t u pg ib wb wo wc W.heap.size) (fun _ V=>Below W.heap.size W V) (by kernel_rfl) (by kernel_rfl) (Mj _ _).drew ?_ ?_
 ·simp only[Kj,Jh]
  refine(Lz ?_ (Lz ?_ (Lz ?_ (Lz ?_ (Lz ?_ (Lz ?_ (Lz ?_ (Lz ?_ (Lz ?_ (Lz ?_ (Lz ?_ (Lz ?_ (Lz ?_ (Lz ?_ (Lz ?_ (Lz ?_ (Lz ?_ (Lz ?_ StepsJ.nil))))))))))))))))))
  all_goals(intro u0 W1 L hL hj hd;simp only[putAll,Mq,Lq,Lk,Lj,Ly,Lx])
  ·have hj1:=hj
   go_wp2
   first|exact hj1|exact rfl|exact⟨rfl,hj1⟩|exact⟨rfl,hj1,k4⟩|exact⟨_,rfl,rfl,hj1,k4⟩
  ·have e0:u0 0= .pointer (some ⟨ib,0,none⟩):=(hd.1 rfl (by decide)).2
   rw[e0]
   have hj1:=hj
   go_wp2
   first|exact hj1|exact rfl|exact⟨rfl,hj1⟩|exact⟨rfl,hj1,k4⟩|exact⟨_,rfl,rfl,hj1,k4⟩
  ·have e1:u0 1= .pointer (some ⟨ib,0,none⟩):=(hd.1 rfl (by decide)).2
   rw[e1]
   have hj1:=hj
   go_wp2
   first|exact hj1|exact rfl|exact⟨rfl,hj1⟩|exact⟨rfl,hj1,k4⟩|exact⟨_,rfl,rfl,hj1,k4⟩
  ·have e2:u0 2= .pointer (some ⟨ib,0,none⟩):=(hd.1 rfl (by decide)).2
   rw[e2]
   have hj1:=hj
   go_wp2
   first|exact hj1|exact rfl|exact⟨rfl,hj1⟩|exact⟨rfl,hj1,k4⟩|exact⟨_,rfl,rfl,hj1,k4⟩
  ·have e3:u0 3= .pointer (some ⟨ib,1,none⟩):=(hd.1 rfl (by decide)).2
   have c1:=(HV.out.after hj).c 1 rfl
   rw[e3]
   have hj1:=hj
   go_wp2
   first|exact hj1|exact rfl|exact⟨rfl,hj1⟩|exact⟨rfl,hj1,k4⟩|exact⟨_,rfl,rfl,hj1,k4⟩
  ·have e4:u0 4= .slice (some ⟨wb,wo,none⟩) 2 wc:=(hd.1 rfl (by decide)).2
   rw[e4]
   have hj1:=hj
   go_wp2
   first|exact hj1|exact rfl|exact⟨rfl,hj1⟩|exact⟨rfl,hj1,k4⟩|exact⟨_,rfl,rfl,hj1,k4⟩
  ·have e5:u0 5= .pointer (some ⟨wb,wo,none⟩):=(hd.1 rfl (by decide)).2
   obtain⟨⟨t0,t1,t2,t3,t4⟩,_⟩:=HTK.out W1 hj
   rw[e5]
   have hj1:=hj
   go_wp2
   first|exact hj1|exact rfl|exact⟨rfl,hj1⟩|exact⟨rfl,hj1,k4⟩|exact⟨_,rfl,rfl,hj1,k4⟩
  ·have e6:u0 6= .agg #[.int .i64 t.k, .string t.s, .int .u64 t.n, .int .i64 t.a, .int .i64 t.b]:=(hd.1 rfl (by decide)).2
   rw[e6]
   go_wp2_with (go_at_call 60;(with_reducible refine(HN1.out _).mono ?_);rintro e W2 ⟨rfl,g2⟩;have hj1:Below W.heap.size W W2:=hj.trans (g2.mono hj.size);have hkp: ∀j v',j<18→L j=true→TRul t u pg ib wb wo wc W.heap.size j v' W1→TRul t u pg ib wb wo wc W.heap.size j v' W2:=fun j v' _ _ h=>TRul.keep j v' W1 W2 h g2)
   first|exact hkp|exact⟨rfl,hkp⟩|exact⟨rfl,hj1,hkp⟩|exact⟨_,rfl,rfl,hj1,hkp⟩
  ·have hj1:=hj
   go_wp2
   first|exact hj1|exact rfl|exact⟨rfl,hj1⟩|exact⟨rfl,hj1,k4⟩|exact⟨_,rfl,rfl,hj1,k4⟩
  ·have e8:u0 8= .pointer (some ⟨ib,0,none⟩):=(hd.1 rfl (by decide)).2
   rw[e8]
   have hj1:=hj
   go_wp2
   first|exact hj1|exact rfl|exact⟨rfl,hj1⟩|exact⟨rfl,hj1,k4⟩|exact⟨_,rfl,rfl,hj1,k4⟩
  ·have e9:u0 9= .pointer (some ⟨ib,0,none⟩):=(hd.1 rfl (by decide)).2
   rw[e9]
   have hj1:=hj
   go_wp2
   first|exact hj1|exact rfl|exact⟨rfl,hj1⟩|exact⟨rfl,hj1,k4⟩|exact⟨_,rfl,rfl,hj1,k4⟩
  ·have e10:u0 10= .pointer (some ⟨ib,0,none⟩):=(hd.1 rfl (by decide)).2
   rw[e10]
   have hj1:=hj
   go_wp2
   first|exact hj1|exact rfl|exact⟨rfl,hj1⟩|exact⟨rfl,hj1,k4⟩|exact⟨_,rfl,rfl,hj1,k4⟩
  ·have e11:u0 11= .pointer (some ⟨ib,1,none⟩):=(hd.1 rfl (by decide)).2
   have c1:=(HV.out.after hj).c 1 rfl
   rw[e11]
   have hj1:=hj
   go_wp2
   first|exact hj1|exact rfl|exact⟨rfl,hj1⟩|exact⟨rfl,hj1,k4⟩|exact⟨_,rfl,rfl,hj1,k4⟩
  ·have e12:u0 12= .slice (some ⟨wb,wo,none⟩) 2 wc:=(hd.1 rfl (by decide)).2
   rw[e12]
   have hj1:=hj
   go_wp2
   first|exact hj1|exact rfl|exact⟨rfl,hj1⟩|exact⟨rfl,hj1,k4⟩|exact⟨_,rfl,rfl,hj1,k4⟩
  ·have e13:u0 13= .pointer (some ⟨wb,wo+5,none⟩):=(hd.1 rfl (by decide)).2
   obtain⟨_,t0,t1,t2,t3,t4⟩:=HTK.out W1 hj
   rw[e13]
   have hj1:=hj
   go_wp2
   first|exact hj1|exact rfl|exact⟨rfl,hj1⟩|exact⟨rfl,hj1,k4⟩|exact⟨_,rfl,rfl,hj1,k4⟩
  ·have e14:u0 14= .agg #[.int .i64 u.k, .string u.s, .int .u64 u.n, .int .i64 u.a, .int .i64 u.b]:=(hd.1 rfl (by decide)).2
   rw[e14]
   go_wp2_with (go_at_call 122;(with_reducible refine(HN2.out _).mono ?_);rintro e W2 ⟨rfl,g2⟩;have hj1:Below W.heap.size W W2:=hj.trans (g2.mono hj.size);have hkp: ∀j v',j<18→L j=true→TRul t u pg ib wb wo wc W.heap.size j v' W1→TRul t u pg ib wb wo wc W.heap.size j v' W2:=fun j v' _ _ h=>TRul.keep j v' W1 W2 h g2)
   first|exact hkp|exact⟨rfl,hkp⟩|exact⟨rfl,hj1,hkp⟩|exact⟨_,rfl,rfl,hj1,hkp⟩
  ·have e7:u0 7= .string t.s:=(hd.1 rfl (by decide)).2
   have e15:u0 15= .bool pg:=(hd.2.1 rfl (by decide)).2
   rw[e7,e15]
   have hj1:=hj
   go_wp2
   first|exact hj1|exact rfl|exact⟨rfl,hj1⟩|exact⟨rfl,hj1,k4⟩|exact⟨_,rfl,rfl,hj1,k4⟩
  ·obtain⟨g,W2,hg,hW2,V2,g2,_⟩:=boxL W1 [.string ⟨#[]⟩, .bool false, .int .i64 0, .int .i64 0, .int .u64 0, .int .i64 0, .int .i64 0] 58
   have hj1:Below W.heap.size W W2:=hj.trans (g2.mono hj.size)
   have hkp: ∀j v',j<18→L j=true→TRul t u pg ib wb wo wc W.heap.size j v' W1→TRul t u pg ib wb wo wc W.heap.size j v' W2:=fun j v' _ _ h=>TRul.keep j v' W1 W2 h g2
   have hgl:W.heap.size≤g:=by have:=hj.size;omega
   have hex: ∃g',Value.pointer (some ⟨g,0,none⟩)= .pointer (some ⟨g',0,none⟩)∧W.heap.size≤g'∧VarL W2 g' [.string ⟨#[]⟩, .bool false, .int .i64 0, .int .i64 0, .int .u64 0, .int .i64 0, .int .i64 0]:=⟨g,rfl,hgl,V2⟩
   go_wp2
   first|exact⟨hex,hkp⟩|exact⟨hex,hj1,hkp⟩|exact⟨_,rfl,hex,hj1,hkp⟩|exact⟨⟨hgl,V2⟩,hkp⟩|exact⟨⟨_,rfl,hgl,V2⟩,hkp⟩
 ·intro u0 W1 L hall hb ht
  have e16:u0 16= .agg #[.string t.s, .bool pg, .int .i64 0, .int .i64 0, .int .u64 0, .int .i64 0, .int .i64 0]:=ht 16 (by decide)
  obtain⟨gv,e17,hgv,hvg⟩:=ht 17 (by decide)
  have HBW:=Lh hb
  clear hb ht hall
  simp only[Kj,Jh,Jj,Jk,putAll,Mq,Lq,Lk,Lj,Ly,Lx]
  rw[e16,e17]
  have HVG:=Lh hvg
  have x0:=hvg.c 0 rfl
  have q0:=hvg.q 0 rfl
  have x1:=hvg.c 1 rfl
  have q1:=hvg.q 1 rfl
  have x2:=hvg.c 2 rfl
  have q2:=hvg.q 2 rfl
  have x3:=hvg.c 3 rfl
  have q3:=hvg.q 3 rfl
  have x4:=hvg.c 4 rfl
  have q4:=hvg.q 4 rfl
  have x5:=hvg.c 5 rfl
  have q5:=hvg.q 5 rfl
  have x6:=hvg.c 6 rfl
  have q6:=hvg.q 6 rfl
  obtain⟨W2,hW2⟩: ∃W2,putL gv 0 [.string t.s, .bool pg, .int .i64 0, .int .i64 0, .int .u64 0, .int .i64 0, .int .i64 0] W1=W2:=⟨_,rfl⟩
  have HV2:Hid (VarL W2 gv [.string t.s, .bool pg, .int .i64 0, .int .i64 0, .int .u64 0, .int .i64 0, .int .i64 0]):=Lh (by rw[←hW2];exact putL_var [.string t.s, .bool pg, .int .i64 0, .int .i64 0, .int .u64 0, .int .i64 0, .int .i64 0] [] [.string ⟨#[]⟩, .bool false, .int .i64 0, .int .i64 0, .int .u64 0, .int .i64 0, .int .i64 0] W1 HVG.out rfl)
  have HB2:Hid (Below W.heap.size W W2):=Lh (by rw[←hW2];exact putL_below _ hgv _ _ HBW.out)
  have HGV:=Lh hgv
  simp only[putL,Ly,Lx]at hW2
  have y0:=HV2.out.c 0 rfl
  have HIV:=Lh (HV.out.after HB2.out)
  have HIC:=Lh (HC.out.keep (HB2.out.block mb HC.out.lt))
  have HNA:Hid (Calls Tryz.prog 61 #[.pointer (some ⟨ib,0,none⟩), .string t.s, .int .i64 4] W2 fun e w'=>e=up 9∧Below W2.heap.size W2 w'):=Lh (named_long x t.s 4 4 W2 ib mb _ kv sec f HIV.out HIC.out HF0.out HFN.out rfl)
  clear hvg hgv
  go_wp2_with (go_at_call 61;(with_reducible refine(HNA.out).mono ?_);rintro e w3 ⟨rfl,g3⟩;have G3:=Lh (below_step HB2.out g3);clear g3)
  first|exact⟨rfl,G3.out⟩|exact⟨rfl,rfl,G3.out⟩
end
section
open Go.RowKit
theorem Grown.less {O O':Foot} {n m:Nat} (h:Grown O O' n) (hm:m≤n):Grown O O' m:=fun i hi=>(h i hi).imp id (fun e=>Nat.le_trans hm e)
theorem each_map {wh:Nat} {sub:It→List Flt} {M:List It→List Flt→Foot→World→Prop} {fpv:Value} (hD:Doing M fpv) {k:Nat} (hk1:1≤k) (hk4:k≤4) (hSub:SubLe k sub) {L:List It} {D:Nat} {S:Nat→Prop} {v:Value} {w W:World} {B:Nat} {hm:ByteArray→Option Value}
  {F:List Flt} {O:Foot} (hM:M [] F O w) (hb:Below w.heap.size w W) (hH:HIs W B hm) (hB:w.heap.size≤B) (hT:ItemsIs D w S v L) (hSl: ∀b,S b→b<w.heap.size) (hSO: ∀b,S b→¬O b) (hfew:F.length+4*cntL L≤1000000)
  (hE: ∀x∈L,HandlesC wh sub M (fun b=>S b∨(w.heap.size≤b∧b<W.heap.size)) W hm S x):
  Calls Tryz.prog 33 #[fpv,v, .map (some B)] W fun e w'=>e= .returned (.tuple #[])∧∃O',M (lookS wh sub L).1 (F++(lookS wh sub L).2) O' w'∧Frm O w w'∧Grown O O' w.heap.size:=by
 have hOl:=hD.lt _ _ _ _ hM
 refine(each_any hD hk1 hk4 hSub L D S v W B hm hH (fun b=>S b∨(w.heap.size≤b∧b<W.heap.size)) (fun b h=>h.elim (fun h=>Nat.lt_of_lt_of_le (hSl b h) hb.size) (fun h=>h.2)) (Mx ⟨hB,hH.lt⟩) (fun b h=>My h) (hT.keep (fun _ h=>h) (fun b h=>hb.block b (hSl b h))) hE F O
  (hD.keep _ _ _ _ _ hM (fun b h=>hb.block b (hOl b h))) (fun b h ho=>h.elim (fun h=>hSO b h ho) (fun h=>by have:=hOl b ho;omega)) hfew).mono ?_
 rintro e w' ⟨rfl,O',h1,h2,h3⟩
 exact⟨rfl,O',h1,(Frm.of hb).trans h2 (Grown.refl _ _),h3.less hb.size⟩
section
variable {base:Nat} {fpv:Value} {X:List Flt→Foot→World→Prop} {gb:Nat} {nm:ByteArray} {cs:List It} {F:List Flt} {O1:Foot} {lv rv pv:Value} {w:World}
theorem goalL_rule {x:It} (hn:x.name=nRule) (lv rv pv:Value):goalL fpv nm (cs++ [x]) lv rv pv=goalL fpv nm cs lv rv pv:=goal_ne (by rw[hn];decide) (by rw[hn];decide) (by rw[hn];decide) (by rw[hn];decide) (by rw[hn];decide) _ _ _ _ _ _
theorem M1At.ruled (hX:CtxC fpv X) (h:M1At base fpv X gb nm cs F O1 lv rv pv w) {x:It} (hn:x.name=nRule) {rv' pv':Value} {w1 w2:World}
  (hr:RowK 58 7 w1 base rv' ((rulC cs).map rulV++ [rulV (ruleC x)])) (ho:rv'.ownBlock=rv.ownBlock∨∃b,rv'.ownBlock=some b∧w.heap.size≤b) (hf:Frm (fun i=>some i=rv.ownBlock) w w1)
  (hp:RowK 39 2 w2 base pv' ((plcC cs).map plcV++ [plcV (x.a,x.b)])) (ho2:pv'.ownBlock=pv.ownBlock∨∃b,pv'.ownBlock=some b∧w1.heap.size≤b) (hf2:Frm (fun i=>some i=pv.ownBlock) (w1.setCell ⟨gb,8,none⟩ rv') w2):
  M1At base fpv X gb nm (cs++ [x]) F O1 lv rv' pv' (w2.setCell ⟨gb,9,none⟩ pv')∧Frm (fun i=>ownG gb lv rv pv i) w (w2.setCell ⟨gb,9,none⟩ pv')∧∀i,ownG gb lv rv' pv' i→ownG gb lv rv pv i∨w.heap.size≤i:=by
 have hz1:=hf.size
 have hz2:w1.heap.size≤w2.heap.size:=by simpa using hf2.size
 have hgw:=h.var.s
 have hf0:Frm (fun i=>i=gb∨some i=rv.ownBlock∨some i=pv.ownBlock) w (w2.setCell ⟨gb,9,none⟩ pv'):=by
  have h1:Frm (fun i=>i=gb∨some i=rv.ownBlock∨some i=pv.ownBlock) w (w1.setCell ⟨gb,8,none⟩ rv'):=Frm.set (O:=fun i=>i=gb∨some i=rv.ownBlock∨some i=pv.ownBlock) (hf.wider (fun i e=>Mx (My e))) (My rfl) _ _
  have h2:Frm (fun i=>i=gb∨some i=rv.ownBlock∨some i=pv.ownBlock) (w1.setCell ⟨gb,8,none⟩ rv') w2:=hf2.wider (fun i e=>Mx (Mx e))
  exact Frm.set (O:=fun i=>i=gb∨some i=rv.ownBlock∨some i=pv.ownBlock) (h1.trans h2 (Grown.refl _ _)) (My rfl) _ _
 have hfr:Frm (fun i=>ownG gb lv rv pv i) w (w2.setCell ⟨gb,9,none⟩ pv'):=hf0.wider (fun i e=>e.elim My (fun e=>e.elim (fun e=>Mx (Mx (My e))) (fun e=>Mx (Mx (Mx e)))))
 have hXk: ∀b,O1 b→(w2.setCell ⟨gb,9,none⟩ pv').heap[b]?=w.heap[b]?:=fun b hb=>hfr.keep b (hX.lt _ _ _ h.x b hb) (fun e=>h.ox e hb)
 have hrg: ∀b,rv'.ownBlock=some b→b≠gb∧¬O1 b∧(lv.ownBlock≠some b)∧pv.ownBlock≠some b:=fun b hb=>by
  rcases own_new ho hb with e|e
  ·exact⟨(h.rx b e).1,(h.rx b e).2,fun e2=>h.lr b e2 e,fun e2=>h.rp b e e2⟩
  ·exact⟨fun e2=>by omega,fun e2=>by have:=hX.lt _ _ _ h.x b e2;omega,fun e2=>by have:=(h.lab.lt e2).2;omega,fun e2=>by have:=(h.plc.lt e2).2;omega⟩
 have hrl: ∀b,rv'.ownBlock=some b→b<w1.heap.size:=fun b hb=>(hr.lt hb).2
 have hpg: ∀b,pv'.ownBlock=some b→b≠gb∧¬O1 b∧(lv.ownBlock≠some b)∧rv'.ownBlock≠some b:=fun b hb=>by
  rcases own_new ho2 hb with e|e
  ·exact⟨(h.px b e).1,(h.px b e).2,fun e2=>h.lp b e2 e,fun e2=>(hrg b e2).2.2.2 e⟩
  ·exact⟨fun e2=>by omega,fun e2=>by have:=hX.lt _ _ _ h.x b e2;omega,fun e2=>by have:=(h.lab.lt e2).2;omega,fun e2=>by have:=hrl b e2;omega⟩
 refine⟨⟨hX.keep _ _ _ _ h.x hXk,?_,?_,?_,?_,h.gx,h.lx,fun b e=>⟨(hrg b e).1,(hrg b e).2.1⟩,fun b e=>⟨(hpg b e).1,(hpg b e).2.1⟩,fun b e e2=>(hrg b e2).2.2.1 e,fun b e e2=>(hpg b e2).2.2.1 e,fun b e e2=>(hpg b e2).2.2.2 e,h.bg⟩,hfr,?_⟩
 ·rw[goalL_rule hn]
  have v1:=(hf.var h.var (fun e=>(h.rx gb e.symm).1 rfl)).set 8 rv' (by simp[goalL])
  have v2:=(hf2.var v1 (fun e=>(h.px gb e.symm).1 rfl)).set 9 pv' (by simp[goalL])
  exact v2
 ·rw[lab_ne (by rw[hn];decide)]
  refine h.lab.kept (fun b e=>hf0.keep b (h.lab.lt e).2 (fun e2=>?_))
  rcases e2 with e2|e2|e2
  ·exact(h.lx b e).1 e2
  ·exact h.lr b e e2.symm
  ·exact h.lp b e e2.symm
 ·rw[rulC_app,List.map_append]
  have e:rulC [x]= [ruleC x]:=by simp only[rulC];rw[if_pos hn];rfl
  rw[e]
  refine hr.kept (fun b e=>?_)
  have e1:=hrg b e
  refine(lset_else _ _ _ _ _ e1.1).trans ((hf2.keep b (by simpa using hrl b e) (fun e2=>e1.2.2.2 e2.symm)).trans (lset_else _ _ _ _ _ e1.1))
 ·rw[plcC_app,List.map_append]
  have e:plcC [x]= [(x.a,x.b)]:=by simp only[plcC];rw[if_pos hn];rfl
  rw[e]
  exact hp.kept (fun b e=>lset_else _ _ _ _ _ (hpg b e).1)
 ·rintro i (rfl|e|e|e)
  ·exact My (My rfl)
  ·exact My (Mx (My e))
  ·rcases own_new ho e.symm with e|e
   ·exact My (Mx (Mx (My e.symm)))
   ·exact Mx e
  ·rcases own_new ho2 e.symm with e|e
   ·exact My (Mx (Mx (Mx e.symm)))
   ·exact Mx (by omega)
end
end
end Go.Proofs.YtalcagmhdppdjaaGreatDoor
