/-
  Package compile's calendar and label: walked.
-/
import Derived.Test.YtalcagmhdppdjaaGreatDoorPkCompileTurns17
set_option maxRecDepth 100000
set_option maxHeartbeats 4000000
namespace Go.Proofs.YtalcagmhdppdjaaGreatDoor
open Lib renaming hid→Lh
open List renaming setIfInBounds_toArray→Lq,set_cons_zero→Lj,set_cons_succ→Lk,getElem?_eq_getElem→Kh,take_succ_cons→Kj,take_zero→Jh,drop_succ_cons→Jj,drop_zero→Jk
open Nat renaming reduceAdd→Lx,zero_add→Ly,le_refl→Mz,le_trans→Kz
open StepsJ renaming cons→Lz
open Act renaming put→Mq
open Go.RowKit.Below renaming refl→Mj
section
open Go.RowKit
theorem cal_form (x:It) (W:World) (gb ib mb:Nat) (wa:Option Addr) (wc:Nat) (kv:Value) (sec:ByteArray) (h:VarL W ib (itemL x (.slice wa x.words.length wc) kv mb sec)) (hno: ¬(x.words.length=1∧x.block=false)):
  Calls Tryz.prog 96 #[.pointer (some ⟨gb,0,none⟩), .pointer (some ⟨ib,0,none⟩)] W fun e w'=>e=up 6∧Below W.heap.size W w':=by
 have HF:Hid (Calls Tryz.prog 59 #[.pointer (some ⟨ib,0,none⟩), .int .i64 1, .bool false] W fun e w'=>e=up 6∧w'=W):=Lh (form_no x 1 false W ib mb wa wc kv sec h hno)
 clear h hno
 go_enter Tryz.func96,Tryz.ntmps96
 go_wp2_with (go_at_call 59;(with_reducible refine(HF.out).mono ?_);rintro e w1 ⟨rfl,rfl⟩)
 first|exact⟨rfl,Mj _ _⟩|exact⟨rfl,rfl,Mj _ _⟩
theorem cal_kind (x:It) (t:Tk3) (S:Nat→Prop) (W:World) (gb ib mb:Nat) (wv kv:Value) (sec:ByteArray) (h:VarL W ib (itemL x wv kv mb sec)) (hx:x.words= [t]) (hbk:x.block=false) (hw:WordsIs W S wv x.words) (hk:1≤t.k∧t.k≤6) (hno:t.k≠1):Calls Tryz.prog 96 #[.pointer (some ⟨gb,0,none⟩), .pointer (some ⟨ib,0,none⟩)] W fun e w'=>e=up 6∧Below W.heap.size W w':=by
 rw[hx]at hw
 obtain⟨wb,wo,wc,rfl,hs,w0,w1,w2,w3,w4⟩:=words_one hw
 have HF:Hid (Calls Tryz.prog 59 #[.pointer (some ⟨ib,0,none⟩), .int .i64 1, .bool false] W fun e w'=>e= .returned (.tuple #[])∧w'=W):=Lh (form_yes x 1 false W ib mb (some ⟨wb,wo,none⟩) wc kv sec (by rw[hx];exact h) ⟨by rw[hx];rfl,hbk⟩)
 have c1:=h.c 1 rfl
 have HI:=Lh (first_no t nMonth nQuarter W hk.1 hk.2 hno)
 unfold tkA at HI
 clear h hx hbk hw hk hno hs
 go_enter Tryz.func96,Tryz.ntmps96
 go_wp2_with (first
  |(go_at_call 59;(with_reducible refine(HF.out).mono ?_);rintro e w1' ⟨rfl,hw1⟩;rw[hw1];clear hw1 w1')
  |(go_at_call 122;(with_reducible refine(HI.out).mono ?_);rintro e w2 ⟨rfl,g2⟩;have G2:=Lh g2;clear g2))
 first|exact⟨rfl,G2.out⟩|exact⟨rfl,rfl,G2.out⟩
theorem cal_none (x:It) (t:Tk3) (S:Nat→Prop) (W:World) (gb ib mb:Nat) (wv kv:Value) (sec:ByteArray) (h:VarL W ib (itemL x wv kv mb sec)) (hx:x.words= [t]) (hbk:x.block=false) (hw:WordsIs W S wv x.words) (hk:1≤t.k∧t.k≤6) (hno:t.k=1∧t.s≠nMonth∧t.s≠nQuarter):Calls Tryz.prog 96 #[.pointer (some ⟨gb,0,none⟩), .pointer (some ⟨ib,0,none⟩)] W fun e w'=>e=up 6∧Below W.heap.size W w':=by
 rw[hx]at hw
 obtain⟨wb,wo,wc,rfl,hs,w0,w1,w2,w3,w4⟩:=words_one hw
 have HF:Hid (Calls Tryz.prog 59 #[.pointer (some ⟨ib,0,none⟩), .int .i64 1, .bool false] W fun e w'=>e= .returned (.tuple #[])∧w'=W):=Lh (form_yes x 1 false W ib mb (some ⟨wb,wo,none⟩) wc kv sec (by rw[hx];exact h) ⟨by rw[hx];rfl,hbk⟩)
 have c1:=h.c 1 rfl
 have HI:=Lh (first_none t nMonth nQuarter W hk.1 hk.2 hno)
 unfold tkA at HI
 clear h hx hbk hw hk hno hs
 go_enter Tryz.func96,Tryz.ntmps96
 go_wp2_with (first
  |(go_at_call 59;(with_reducible refine(HF.out).mono ?_);rintro e w1' ⟨rfl,hw1⟩;rw[hw1];clear hw1 w1')
  |(go_at_call 122;(with_reducible refine(HI.out).mono ?_);rintro e w2 ⟨rfl,g2⟩;have G2:=Lh g2;clear g2))
 first|exact⟨rfl,G2.out⟩|exact⟨rfl,rfl,G2.out⟩
theorem cal_knownm (x:It) (t:Tk3) (S:Nat→Prop) (W:World) (gb ib mb:Nat) (wv kv:Value) (sec:ByteArray) (h:VarL W ib (itemL x wv kv mb sec)) (hx:x.words= [t]) (hbk:x.block=false) (hw:WordsIs W S wv x.words) (hk:1≤t.k∧t.k≤6) (f:ByteArray→ByteArray→Nat) (hc:CntIs W mb f) (hf:f x.name ⟨#[]⟩≠0) (hno:t.k=1∧t.s=nMonth):Calls Tryz.prog 96 #[.pointer (some ⟨gb,0,none⟩), .pointer (some ⟨ib,0,none⟩)] W fun e w'=>e=up 18∧Below W.heap.size W w':=by
 rw[hx]at hw
 obtain⟨wb,wo,wc,rfl,hs,w0,w1,w2,w3,w4⟩:=words_one hw
 have HF:Hid (Calls Tryz.prog 59 #[.pointer (some ⟨ib,0,none⟩), .int .i64 1, .bool false] W fun e w'=>e= .returned (.tuple #[])∧w'=W):=Lh (form_yes x 1 false W ib mb (some ⟨wb,wo,none⟩) wc kv sec (by rw[hx];exact h) ⟨by rw[hx];rfl,hbk⟩)
 have c1:=h.c 1 rfl
 have HI:=Lh (first_one t nMonth nQuarter W hk.1 hk.2 hno)
 unfold tkA at HI
 have HONC:Hid (∀W1,Below W.heap.size W W1→Calls Tryz.prog 63 #[.pointer (some ⟨ib,0,none⟩)] W1 fun e w'=>e=up 18∧Below W1.heap.size W1 w'):=Lh (fun W1 hb=>once_no x W1 ib mb (.slice (some ⟨wb,wo,none⟩) 1 wc) kv sec f (h.after hb) (hc.keep (hb.block mb hc.lt)) hf)
 clear h hx hbk hw hk hno hs hc hf
 go_enter Tryz.func96,Tryz.ntmps96
 go_wp2_with (first
  |(go_at_call 59;(with_reducible refine(HF.out).mono ?_);rintro e w1' ⟨rfl,hw1⟩;rw[hw1];clear hw1 w1')
  |(go_at_call 122;(with_reducible refine(HI.out).mono ?_);rintro e w2 ⟨rfl,g2⟩;have G2:=Lh g2;have hon:=HONC.out w2 g2;clear g2)
  |(go_at_call 63;(with_reducible refine hon.mono ?_);rintro e w3 ⟨rfl,g3⟩;have G3:=Lh (below_step G2.out g3);clear g3 hon))
 first|exact⟨rfl,G3.out⟩|exact⟨rfl,rfl,G3.out⟩
theorem cal_setm (x:It) (t:Tk3) (S:Nat→Prop) (W:World) (gb ib mb:Nat) (wv kv:Value) (sec:ByteArray) (h:VarL W ib (itemL x wv kv mb sec)) (hx:x.words= [t]) (hbk:x.block=false) (hw:WordsIs W S wv x.words) (hk:1≤t.k∧t.k≤6) (f:ByteArray→ByteArray→Nat) (hc:CntIs W mb f) (hf:f x.name ⟨#[]⟩=0) (hno:t.k=1∧t.s=nMonth) (l:List Value) (hV:VarL W gb l) (hl:6<l.length):Calls Tryz.prog 96 #[.pointer (some ⟨gb,0,none⟩), .pointer (some ⟨ib,0,none⟩)] W fun e w'=>e= .returned (.tuple #[])∧∃W1,Below W.heap.size W W1∧w'=W1.setCell ⟨gb,6,none⟩ (.int .i64 1):=by
 rw[hx]at hw
 obtain⟨wb,wo,wc,rfl,hs,w0,w1,w2,w3,w4⟩:=words_one hw
 have HF:Hid (Calls Tryz.prog 59 #[.pointer (some ⟨ib,0,none⟩), .int .i64 1, .bool false] W fun e w'=>e= .returned (.tuple #[])∧w'=W):=Lh (form_yes x 1 false W ib mb (some ⟨wb,wo,none⟩) wc kv sec (by rw[hx];exact h) ⟨by rw[hx];rfl,hbk⟩)
 have c1:=h.c 1 rfl
 obtain⟨old,ho⟩: ∃old,l[6]=old:=⟨_,rfl⟩
 have hce:=Kh hl
 rw[ho]at hce
 have HVV:Hid (∀W1,Below W.heap.size W W1→W1.cell? ⟨gb,6,none⟩=some old∧W1.frozen? ⟨gb,6,none⟩=false):=Lh (fun W1 hb=>⟨(hV.after hb).c 6 hce,(hV.after hb).q 6 hce⟩)
 have HI:=Lh (first_one t nMonth nQuarter W hk.1 hk.2 hno)
 unfold tkA at HI
 have HONC:Hid (∀W1,Below W.heap.size W W1→Calls Tryz.prog 63 #[.pointer (some ⟨ib,0,none⟩)] W1 fun e w'=>e= .returned (.tuple #[])∧Below W1.heap.size W1 w'):=Lh (fun W1 hb=>once_yes x W1 ib mb (.slice (some ⟨wb,wo,none⟩) 1 wc) kv sec f (h.after hb) (hc.keep (hb.block mb hc.lt)) hf)
 clear h hx hbk hw hk hno hs hc hf hV hl ho hce
 go_enter Tryz.func96,Tryz.ntmps96
 go_wp2_with (first
  |(go_at_call 59;(with_reducible refine(HF.out).mono ?_);rintro e w1' ⟨rfl,hw1⟩;rw[hw1];clear hw1 w1')
  |(go_at_call 122;(with_reducible refine(HI.out).mono ?_);rintro e w2 ⟨rfl,g2⟩;have G2:=Lh g2;have hon:=HONC.out w2 g2;clear g2)
  |(go_at_call 63;(with_reducible refine hon.mono ?_);rintro e w3 ⟨rfl,g3⟩;have G3:=Lh (below_step G2.out g3);have v6:=(HVV.out w3 G3.out).1;have q6:=(HVV.out w3 G3.out).2;clear g3 hon))
 first|go_end0|refine bodyPost_ret (results_none rfl _ _ _) rfl ?_
 exact⟨rfl,w3,G3.out,rfl⟩
theorem cal_knownq (x:It) (t:Tk3) (S:Nat→Prop) (W:World) (gb ib mb:Nat) (wv kv:Value) (sec:ByteArray) (h:VarL W ib (itemL x wv kv mb sec)) (hx:x.words= [t]) (hbk:x.block=false) (hw:WordsIs W S wv x.words) (hk:1≤t.k∧t.k≤6) (f:ByteArray→ByteArray→Nat) (hc:CntIs W mb f) (hf:f x.name ⟨#[]⟩≠0) (hno:t.k=1∧t.s≠nMonth∧t.s=nQuarter):Calls Tryz.prog 96 #[.pointer (some ⟨gb,0,none⟩), .pointer (some ⟨ib,0,none⟩)] W fun e w'=>e=up 18∧Below W.heap.size W w':=by
 rw[hx]at hw
 obtain⟨wb,wo,wc,rfl,hs,w0,w1,w2,w3,w4⟩:=words_one hw
 have HF:Hid (Calls Tryz.prog 59 #[.pointer (some ⟨ib,0,none⟩), .int .i64 1, .bool false] W fun e w'=>e= .returned (.tuple #[])∧w'=W):=Lh (form_yes x 1 false W ib mb (some ⟨wb,wo,none⟩) wc kv sec (by rw[hx];exact h) ⟨by rw[hx];rfl,hbk⟩)
 have c1:=h.c 1 rfl
 have HI:=Lh (first_other t nMonth nQuarter W hk.1 hk.2 hno)
 unfold tkA at HI
 have HONC:Hid (∀W1,Below W.heap.size W W1→Calls Tryz.prog 63 #[.pointer (some ⟨ib,0,none⟩)] W1 fun e w'=>e=up 18∧Below W1.heap.size W1 w'):=Lh (fun W1 hb=>once_no x W1 ib mb (.slice (some ⟨wb,wo,none⟩) 1 wc) kv sec f (h.after hb) (hc.keep (hb.block mb hc.lt)) hf)
 clear h hx hbk hw hk hno hs hc hf
 go_enter Tryz.func96,Tryz.ntmps96
 go_wp2_with (first
  |(go_at_call 59;(with_reducible refine(HF.out).mono ?_);rintro e w1' ⟨rfl,hw1⟩;rw[hw1];clear hw1 w1')
  |(go_at_call 122;(with_reducible refine(HI.out).mono ?_);rintro e w2 ⟨rfl,g2⟩;have G2:=Lh g2;have hon:=HONC.out w2 g2;clear g2)
  |(go_at_call 63;(with_reducible refine hon.mono ?_);rintro e w3 ⟨rfl,g3⟩;have G3:=Lh (below_step G2.out g3);clear g3 hon))
 first|exact⟨rfl,G3.out⟩|exact⟨rfl,rfl,G3.out⟩
theorem cal_setq (x:It) (t:Tk3) (S:Nat→Prop) (W:World) (gb ib mb:Nat) (wv kv:Value) (sec:ByteArray) (h:VarL W ib (itemL x wv kv mb sec)) (hx:x.words= [t]) (hbk:x.block=false) (hw:WordsIs W S wv x.words) (hk:1≤t.k∧t.k≤6) (f:ByteArray→ByteArray→Nat) (hc:CntIs W mb f) (hf:f x.name ⟨#[]⟩=0) (hno:t.k=1∧t.s≠nMonth∧t.s=nQuarter) (l:List Value) (hV:VarL W gb l) (hl:6<l.length):Calls Tryz.prog 96 #[.pointer (some ⟨gb,0,none⟩), .pointer (some ⟨ib,0,none⟩)] W fun e w'=>e= .returned (.tuple #[])∧∃W1,Below W.heap.size W W1∧w'=W1.setCell ⟨gb,6,none⟩ (.int .i64 2):=by
 rw[hx]at hw
 obtain⟨wb,wo,wc,rfl,hs,w0,w1,w2,w3,w4⟩:=words_one hw
 have HF:Hid (Calls Tryz.prog 59 #[.pointer (some ⟨ib,0,none⟩), .int .i64 1, .bool false] W fun e w'=>e= .returned (.tuple #[])∧w'=W):=Lh (form_yes x 1 false W ib mb (some ⟨wb,wo,none⟩) wc kv sec (by rw[hx];exact h) ⟨by rw[hx];rfl,hbk⟩)
 have c1:=h.c 1 rfl
 obtain⟨old,ho⟩: ∃old,l[6]=old:=⟨_,rfl⟩
 have hce:=Kh hl
 rw[ho]at hce
 have HVV:Hid (∀W1,Below W.heap.size W W1→W1.cell? ⟨gb,6,none⟩=some old∧W1.frozen? ⟨gb,6,none⟩=false):=Lh (fun W1 hb=>⟨(hV.after hb).c 6 hce,(hV.after hb).q 6 hce⟩)
 have HI:=Lh (first_other t nMonth nQuarter W hk.1 hk.2 hno)
 unfold tkA at HI
 have HONC:Hid (∀W1,Below W.heap.size W W1→Calls Tryz.prog 63 #[.pointer (some ⟨ib,0,none⟩)] W1 fun e w'=>e= .returned (.tuple #[])∧Below W1.heap.size W1 w'):=Lh (fun W1 hb=>once_yes x W1 ib mb (.slice (some ⟨wb,wo,none⟩) 1 wc) kv sec f (h.after hb) (hc.keep (hb.block mb hc.lt)) hf)
 clear h hx hbk hw hk hno hs hc hf hV hl ho hce
 go_enter Tryz.func96,Tryz.ntmps96
 go_wp2_with (first
  |(go_at_call 59;(with_reducible refine(HF.out).mono ?_);rintro e w1' ⟨rfl,hw1⟩;rw[hw1];clear hw1 w1')
  |(go_at_call 122;(with_reducible refine(HI.out).mono ?_);rintro e w2 ⟨rfl,g2⟩;have G2:=Lh g2;have hon:=HONC.out w2 g2;clear g2)
  |(go_at_call 63;(with_reducible refine hon.mono ?_);rintro e w3 ⟨rfl,g3⟩;have G3:=Lh (below_step G2.out g3);have v6:=(HVV.out w3 G3.out).1;have q6:=(HVV.out w3 G3.out).2;clear g3 hon))
 first|go_end0|refine bodyPost_ret (results_none rfl _ _ _) rfl ?_
 exact⟨rfl,w3,G3.out,rfl⟩
theorem lab_form (x:It) (W:World) (gb ib mb:Nat) (wa:Option Addr) (wc:Nat) (kv:Value) (sec:ByteArray) (h:VarL W ib (itemL x (.slice wa x.words.length wc) kv mb sec)) (hno: ¬(x.words.length=2∧x.block=false)):
  Calls Tryz.prog 97 #[.pointer (some ⟨gb,0,none⟩), .pointer (some ⟨ib,0,none⟩)] W fun e w'=>e=up 6∧Below W.heap.size W w':=by
 have HF:Hid (Calls Tryz.prog 59 #[.pointer (some ⟨ib,0,none⟩), .int .i64 2, .bool false] W fun e w'=>e=up 6∧w'=W):=Lh (form_no x 2 false W ib mb wa wc kv sec h hno)
 clear h hno
 go_enter Tryz.func97,Tryz.ntmps97
 go_wp2_with (go_at_call 59;(with_reducible refine(HF.out).mono ?_);rintro e w1 ⟨rfl,rfl⟩)
 first|exact⟨rfl,Mj _ _⟩|exact⟨rfl,rfl,Mj _ _⟩
def TLab (t u:Tk3) (ib wb wo wc b1:Nat):Nat→Value→World→Prop
 |0,v,_=>v= .pointer (some ⟨ib,0,none⟩)
 |1,v,_=>v= .pointer (some ⟨ib,0,none⟩)
 |2,v,_=>v= .pointer (some ⟨ib,0,none⟩)
 |3,v,_=>v= .pointer (some ⟨ib,1,none⟩)
 |4,v,_=>v= .slice (some ⟨wb,wo,none⟩) 2 wc
 |5,v,_=>v= .pointer (some ⟨wb,wo,none⟩)
 |6,v,_=>v= .agg #[.int .i64 t.k, .string t.s, .int .u64 t.n, .int .i64 t.a, .int .i64 t.b]
 |7,v,_=>v= .string t.s
 |8,v,_=>v= .pointer (some ⟨ib,0,none⟩)
 |9,v,_=>v= .pointer (some ⟨ib,0,none⟩)
 |10,v,_=>v= .pointer (some ⟨ib,0,none⟩)
 |11,v,_=>v= .pointer (some ⟨ib,1,none⟩)
 |12,v,_=>v= .slice (some ⟨wb,wo,none⟩) 2 wc
 |13,v,_=>v= .pointer (some ⟨wb,wo+5,none⟩)
 |14,v,_=>v= .agg #[.int .i64 u.k, .string u.s, .int .u64 u.n, .int .i64 u.a, .int .i64 u.b]
 |15,v,_=>v= .string u.s
 |16,v,_=>v= .agg #[.string t.s, .string u.s]
 |17,v,w=> ∃g,v= .pointer (some ⟨g,0,none⟩)∧b1≤g∧VarL w g [.string ⟨#[]⟩, .string ⟨#[]⟩]
 |_,_,_=>True
theorem TLab.keep {t u:Tk3} {ib wb wo wc b1:Nat} (i:Nat) (v:Value) (w w':World) (h:TLab t u ib wb wo wc b1 i v w) (hb:Below w.heap.size w w'):TLab t u ib wb wo wc b1 i v w':=by
 match i,h with
 |0,h=>exact h
 |1,h=>exact h
 |2,h=>exact h
 |3,h=>exact h
 |4,h=>exact h
 |5,h=>exact h
 |6,h=>exact h
 |7,h=>exact h
 |8,h=>exact h
 |9,h=>exact h
 |10,h=>exact h
 |11,h=>exact h
 |12,h=>exact h
 |13,h=>exact h
 |14,h=>exact h
 |15,h=>exact h
 |16,h=>exact h
 |17,⟨g,e,h1,h2⟩=>exact⟨g,e,h1,h2.after hb⟩
 |m+18,_=>exact trivial
def TLabA (t u:Tk3) (ib wb wo wc b1:Nat):Nat→Value→World→Prop
 |0,v,_=>v= .pointer (some ⟨ib,0,none⟩)
 |1,v,_=>v= .pointer (some ⟨ib,0,none⟩)
 |2,v,_=>v= .pointer (some ⟨ib,0,none⟩)
 |3,v,_=>v= .pointer (some ⟨ib,1,none⟩)
 |4,v,_=>v= .slice (some ⟨wb,wo,none⟩) 2 wc
 |5,v,_=>v= .pointer (some ⟨wb,wo,none⟩)
 |6,v,_=>v= .agg #[.int .i64 t.k, .string t.s, .int .u64 t.n, .int .i64 t.a, .int .i64 t.b]
 |7,_,_=>False
 |8,v,_=>v= .pointer (some ⟨ib,0,none⟩)
 |9,v,_=>v= .pointer (some ⟨ib,0,none⟩)
 |10,v,_=>v= .pointer (some ⟨ib,0,none⟩)
 |11,v,_=>v= .pointer (some ⟨ib,1,none⟩)
 |12,v,_=>v= .slice (some ⟨wb,wo,none⟩) 2 wc
 |13,v,_=>v= .pointer (some ⟨wb,wo+5,none⟩)
 |14,v,_=>v= .agg #[.int .i64 u.k, .string u.s, .int .u64 u.n, .int .i64 u.a, .int .i64 u.b]
 |15,v,_=>v= .string u.s
 |16,v,_=>v= .agg #[.string t.s, .string u.s]
 |17,v,w=> ∃g,v= .pointer (some ⟨g,0,none⟩)∧b1≤g∧VarL w g [.string ⟨#[]⟩, .string ⟨#[]⟩]
 |_,_,_=>True
theorem TLabA.keep {t u:Tk3} {ib wb wo wc b1:Nat} (i:Nat) (v:Value) (w w':World) (h:TLabA t u ib wb wo wc b1 i v w) (hb:Below w.heap.size w w'):TLabA t u ib wb wo wc b1 i v w':=by
 match i,h with
 |0,h=>exact h
 |1,h=>exact h
 |2,h=>exact h
 |3,h=>exact h
 |4,h=>exact h
 |5,h=>exact h
 |6,h=>exact h
 |7,h=>exact h
 |8,h=>exact h
 |9,h=>exact h
 |10,h=>exact h
 |11,h=>exact h
 |12,h=>exact h
 |13,h=>exact h
 |14,h=>exact h
 |15,h=>exact h
 |16,h=>exact h
 |17,⟨g,e,h1,h2⟩=>exact⟨g,e,h1,h2.after hb⟩
 |m+18,_=>exact trivial
def TLabB (t u:Tk3) (ib wb wo wc b1:Nat):Nat→Value→World→Prop
 |0,v,_=>v= .pointer (some ⟨ib,0,none⟩)
 |1,v,_=>v= .pointer (some ⟨ib,0,none⟩)
 |2,v,_=>v= .pointer (some ⟨ib,0,none⟩)
 |3,v,_=>v= .pointer (some ⟨ib,1,none⟩)
 |4,v,_=>v= .slice (some ⟨wb,wo,none⟩) 2 wc
 |5,v,_=>v= .pointer (some ⟨wb,wo,none⟩)
 |6,v,_=>v= .agg #[.int .i64 t.k, .string t.s, .int .u64 t.n, .int .i64 t.a, .int .i64 t.b]
 |7,v,_=>v= .string t.s
 |8,v,_=>v= .pointer (some ⟨ib,0,none⟩)
 |9,v,_=>v= .pointer (some ⟨ib,0,none⟩)
 |10,v,_=>v= .pointer (some ⟨ib,0,none⟩)
 |11,v,_=>v= .pointer (some ⟨ib,1,none⟩)
 |12,v,_=>v= .slice (some ⟨wb,wo,none⟩) 2 wc
 |13,v,_=>v= .pointer (some ⟨wb,wo+5,none⟩)
 |14,v,_=>v= .agg #[.int .i64 u.k, .string u.s, .int .u64 u.n, .int .i64 u.a, .int .i64 u.b]
 |15,_,_=>False
 |16,v,_=>v= .agg #[.string t.s, .string u.s]
 |17,v,w=> ∃g,v= .pointer (some ⟨g,0,none⟩)∧b1≤g∧VarL w g [.string ⟨#[]⟩, .string ⟨#[]⟩]
 |_,_,_=>True
theorem TLabB.keep {t u:Tk3} {ib wb wo wc b1:Nat} (i:Nat) (v:Value) (w w':World) (h:TLabB t u ib wb wo wc b1 i v w) (hb:Below w.heap.size w w'):TLabB t u ib wb wo wc b1 i v w':=by
 match i,h with
 |0,h=>exact h
 |1,h=>exact h
 |2,h=>exact h
 |3,h=>exact h
 |4,h=>exact h
 |5,h=>exact h
 |6,h=>exact h
 |7,h=>exact h
 |8,h=>exact h
 |9,h=>exact h
 |10,h=>exact h
 |11,h=>exact h
 |12,h=>exact h
 |13,h=>exact h
 |14,h=>exact h
 |15,h=>exact h
 |16,h=>exact h
 |17,⟨g,e,h1,h2⟩=>exact⟨g,e,h1,h2.after hb⟩
 |m+18,_=>exact trivial
theorem lab_k1 (x:It) (t u:Tk3) (S:Nat→Prop) (W:World) (gb ib mb:Nat) (wv kv:Value) (sec:ByteArray) (h:VarL W ib (itemL x wv kv mb sec)) (hx:x.words= [t,u]) (hbk:x.block=false) (hw:WordsIs W S wv x.words) (hS: ∀b,S b→b<W.heap.size) (hk:1≤t.k∧t.k≤6) (_hk2:1≤u.k∧u.k≤6) (hno:t.k≠1):Calls Tryz.prog 97 #[.pointer (some ⟨gb,0,none⟩), .pointer (some ⟨ib,0,none⟩)] W fun e w'=>e=up 6∧Below W.heap.size W w':=by
 rw[hx]at hw
 obtain⟨wb,wo,wc,rfl,hs,⟨w0,w1,w2,w3,w4⟩,w5,w6,w7,w8,w9⟩:=words_two hw
 have hsl:=hS wb hs
 have HF:Hid (Calls Tryz.prog 59 #[.pointer (some ⟨ib,0,none⟩), .int .i64 2, .bool false] W fun e w'=>e= .returned (.tuple #[])∧w'=W):=Lh (form_yes x 2 false W ib mb (some ⟨wb,wo,none⟩) wc kv sec (by rw[hx];exact h) ⟨by rw[hx];rfl,hbk⟩)
 have HV:=Lh h
 have HTK:Hid (∀W1,Below W.heap.size W W1→(W1.cell? ⟨wb,wo,none⟩=some (.int .i64 t.k)∧W1.cell? ⟨wb,wo+1,none⟩=some (.string t.s)∧W1.cell? ⟨wb,wo+2,none⟩=some (.int .u64 t.n)∧W1.cell? ⟨wb,wo+3,none⟩=some (.int .i64 t.a)∧W1.cell? ⟨wb,wo+4,none⟩=some (.int .i64 t.b))∧
   W1.cell? ⟨wb,wo+5,none⟩=some (.int .i64 u.k)∧W1.cell? ⟨wb,wo+6,none⟩=some (.string u.s)∧W1.cell? ⟨wb,wo+7,none⟩=some (.int .u64 u.n)∧W1.cell? ⟨wb,wo+8,none⟩=some (.int .i64 u.a)∧W1.cell? ⟨wb,wo+9,none⟩=some (.int .i64 u.b)):=Lh (fun W1 hb=>
  ⟨⟨(hb.cell (p:=⟨wb,wo,none⟩) hsl).trans w0,(hb.cell (p:=⟨wb,wo+1,none⟩) hsl).trans w1,(hb.cell (p:=⟨wb,wo+2,none⟩) hsl).trans w2,(hb.cell (p:=⟨wb,wo+3,none⟩) hsl).trans w3,(hb.cell (p:=⟨wb,wo+4,none⟩) hsl).trans w4⟩,(hb.cell (p:=⟨wb,wo+5,none⟩) hsl).trans w5,(hb.cell (p:=⟨wb,wo+6,none⟩) hsl).trans w6,(hb.cell (p:=⟨wb,wo+7,none⟩) hsl).trans w7,(hb.cell (p:=⟨wb,wo+8,none⟩) hsl).trans w8,(hb.cell (p:=⟨wb,wo+9,none⟩) hsl).trans w9⟩)
 have HN1:=Lh (fun V=>nameOf_no t V hk.1 hk.2 hno)
 unfold tkA at HN1
 clear h hx hbk hw hS hk hs hsl w0 w1 w2 w3 w4 w5 w6 w7 w8 w9 hno
 go_enter Tryz.func97,Tryz.ntmps97
 go_wp2_with (go_at_call 59;(with_reducible refine(HF.out).mono ?_);rintro e w1' ⟨rfl,hw1⟩;rw[hw1];clear hw1 w1')
 refine wp_region_mixj 18 (TLabA t u ib wb wo wc W.heap.size) (fun _ V=>Below W.heap.size W V) (by kernel_rfl) (by kernel_rfl) (Mj _ _).drew ?_ ?_
 ·simp only[Kj,Jh]
  refine(Lz ?_ (Lz ?_ (Lz ?_ (Lz ?_ (Lz ?_ (Lz ?_ (Lz ?_ (Lz ?_ (Lz ?_ (Lz ?_ (Lz ?_ (Lz ?_ (Lz ?_ (Lz ?_ (Lz ?_ (Lz ?_ (Lz ?_ (Lz ?_ StepsJ.nil))))))))))))))))))
  ·intro u0 W1 L hL hj hd
   simp only[putAll,Mq,Lq,Lk,Lj,Ly,Lx]
   have hj1:=hj
   go_wp2
   first|exact hj1|exact rfl|exact⟨rfl,hj1⟩|exact⟨rfl,hj1,k4⟩|exact⟨_,rfl,rfl,hj1,k4⟩
  ·intro u0 W1 L hL hj hd
   have e0:u0 0= .pointer (some ⟨ib,0,none⟩):=(hd.1 rfl (by decide)).2
   simp only[putAll,Mq,Lq,Lk,Lj,Ly,Lx]
   rw[e0]
   have hj1:=hj
   go_wp2
   first|exact hj1|exact rfl|exact⟨rfl,hj1⟩|exact⟨rfl,hj1,k4⟩|exact⟨_,rfl,rfl,hj1,k4⟩
  ·intro u0 W1 L hL hj hd
   have e1:u0 1= .pointer (some ⟨ib,0,none⟩):=(hd.1 rfl (by decide)).2
   simp only[putAll,Mq,Lq,Lk,Lj,Ly,Lx]
   rw[e1]
   have hj1:=hj
   go_wp2
   first|exact hj1|exact rfl|exact⟨rfl,hj1⟩|exact⟨rfl,hj1,k4⟩|exact⟨_,rfl,rfl,hj1,k4⟩
  ·intro u0 W1 L hL hj hd
   have e2:u0 2= .pointer (some ⟨ib,0,none⟩):=(hd.1 rfl (by decide)).2
   simp only[putAll,Mq,Lq,Lk,Lj,Ly,Lx]
   rw[e2]
   have hj1:=hj
   go_wp2
   first|exact hj1|exact rfl|exact⟨rfl,hj1⟩|exact⟨rfl,hj1,k4⟩|exact⟨_,rfl,rfl,hj1,k4⟩
  ·intro u0 W1 L hL hj hd
   have e3:u0 3= .pointer (some ⟨ib,1,none⟩):=(hd.1 rfl (by decide)).2
   have c1:=(HV.out.after hj).c 1 rfl
   simp only[putAll,Mq,Lq,Lk,Lj,Ly,Lx]
   rw[e3]
   have hj1:=hj
   go_wp2
   first|exact hj1|exact rfl|exact⟨rfl,hj1⟩|exact⟨rfl,hj1,k4⟩|exact⟨_,rfl,rfl,hj1,k4⟩
  ·intro u0 W1 L hL hj hd
   have e4:u0 4= .slice (some ⟨wb,wo,none⟩) 2 wc:=(hd.1 rfl (by decide)).2
   simp only[putAll,Mq,Lq,Lk,Lj,Ly,Lx]
   rw[e4]
   have hj1:=hj
   go_wp2
   first|exact hj1|exact rfl|exact⟨rfl,hj1⟩|exact⟨rfl,hj1,k4⟩|exact⟨_,rfl,rfl,hj1,k4⟩
  ·intro u0 W1 L hL hj hd
   have e5:u0 5= .pointer (some ⟨wb,wo,none⟩):=(hd.1 rfl (by decide)).2
   obtain⟨⟨t0,t1,t2,t3,t4⟩,_⟩:=HTK.out W1 hj
   simp only[putAll,Mq,Lq,Lk,Lj,Ly,Lx]
   rw[e5]
   have hj1:=hj
   go_wp2
   first|exact hj1|exact rfl|exact⟨rfl,hj1⟩|exact⟨rfl,hj1,k4⟩|exact⟨_,rfl,rfl,hj1,k4⟩
  ·intro u0 W1 L hL hj hd
   have e6:u0 6= .agg #[.int .i64 t.k, .string t.s, .int .u64 t.n, .int .i64 t.a, .int .i64 t.b]:=(hd.1 rfl (by decide)).2
   simp only[putAll,Mq,Lq,Lk,Lj,Ly,Lx]
   rw[e6]
   go_wp2_with (go_at_call 60;(with_reducible refine(HN1.out _).mono ?_);rintro e W2 ⟨rfl,g2⟩;have hj1:Below W.heap.size W W2:=hj.trans (g2.mono hj.size))
   first|exact⟨rfl,hj1⟩|exact⟨rfl,rfl,hj1⟩
  ·intro u0 W1 L hL hj hd
   simp only[putAll,Mq,Lq,Lk,Lj,Ly,Lx]
   have hj1:=hj
   go_wp2
   first|exact hj1|exact rfl|exact⟨rfl,hj1⟩|exact⟨rfl,hj1,k4⟩|exact⟨_,rfl,rfl,hj1,k4⟩
  ·intro u0 W1 L hL hj hd
   have e8:u0 8= .pointer (some ⟨ib,0,none⟩):=(hd.1 rfl (by decide)).2
   simp only[putAll,Mq,Lq,Lk,Lj,Ly,Lx]
   rw[e8]
   have hj1:=hj
   go_wp2
   first|exact hj1|exact rfl|exact⟨rfl,hj1⟩|exact⟨rfl,hj1,k4⟩|exact⟨_,rfl,rfl,hj1,k4⟩
  ·intro u0 W1 L hL hj hd
   have e9:u0 9= .pointer (some ⟨ib,0,none⟩):=(hd.1 rfl (by decide)).2
   simp only[putAll,Mq,Lq,Lk,Lj,Ly,Lx]
   rw[e9]
   have hj1:=hj
   go_wp2
   first|exact hj1|exact rfl|exact⟨rfl,hj1⟩|exact⟨rfl,hj1,k4⟩|exact⟨_,rfl,rfl,hj1,k4⟩
  ·intro u0 W1 L hL hj hd
   have e10:u0 10= .pointer (some ⟨ib,0,none⟩):=(hd.1 rfl (by decide)).2
   simp only[putAll,Mq,Lq,Lk,Lj,Ly,Lx]
   rw[e10]
   have hj1:=hj
   go_wp2
   first|exact hj1|exact rfl|exact⟨rfl,hj1⟩|exact⟨rfl,hj1,k4⟩|exact⟨_,rfl,rfl,hj1,k4⟩
  ·intro u0 W1 L hL hj hd
   have e11:u0 11= .pointer (some ⟨ib,1,none⟩):=(hd.1 rfl (by decide)).2
   have c1:=(HV.out.after hj).c 1 rfl
   simp only[putAll,Mq,Lq,Lk,Lj,Ly,Lx]
   rw[e11]
   have hj1:=hj
   go_wp2
   first|exact hj1|exact rfl|exact⟨rfl,hj1⟩|exact⟨rfl,hj1,k4⟩|exact⟨_,rfl,rfl,hj1,k4⟩
  ·intro u0 W1 L hL hj hd
   have e12:u0 12= .slice (some ⟨wb,wo,none⟩) 2 wc:=(hd.1 rfl (by decide)).2
   simp only[putAll,Mq,Lq,Lk,Lj,Ly,Lx]
   rw[e12]
   have hj1:=hj
   go_wp2
   first|exact hj1|exact rfl|exact⟨rfl,hj1⟩|exact⟨rfl,hj1,k4⟩|exact⟨_,rfl,rfl,hj1,k4⟩
  ·intro u0 W1 L hL hj hd
   have e13:u0 13= .pointer (some ⟨wb,wo+5,none⟩):=(hd.1 rfl (by decide)).2
   obtain⟨_,t0,t1,t2,t3,t4⟩:=HTK.out W1 hj
   simp only[putAll,Mq,Lq,Lk,Lj,Ly,Lx]
   rw[e13]
   have hj1:=hj
   go_wp2
   first|exact hj1|exact rfl|exact⟨rfl,hj1⟩|exact⟨rfl,hj1,k4⟩|exact⟨_,rfl,rfl,hj1,k4⟩
  ·intro u0 W1 L hL hj hd
   exact(((hd.2.1 rfl (by decide)).2:False)).elim
  ·intro u0 W1 L hL hj hd
   exact(((hd.1 rfl (by decide)).2:False)).elim
  ·intro u0 W1 L hL hj hd
   simp only[putAll,Mq,Lq,Lk,Lj,Ly,Lx]
   obtain⟨g,W2,hg,hW2,V2,g2,_⟩:=boxL W1 [.string ⟨#[]⟩, .string ⟨#[]⟩] 80
   have hj1:Below W.heap.size W W2:=hj.trans (g2.mono hj.size)
   have hkp: ∀j v',j<18→L j=true→TLabA t u ib wb wo wc W.heap.size j v' W1→TLabA t u ib wb wo wc W.heap.size j v' W2:=fun j v' _ _ h=>TLabA.keep j v' W1 W2 h g2
   have hgl:W.heap.size≤g:=by have:=hj.size;omega
   have hex: ∃g',Value.pointer (some ⟨g,0,none⟩)= .pointer (some ⟨g',0,none⟩)∧W.heap.size≤g'∧VarL W2 g' [.string ⟨#[]⟩, .string ⟨#[]⟩]:=⟨g,rfl,hgl,V2⟩
   go_wp2
   first|exact⟨hex,hkp⟩|exact⟨hex,hj1,hkp⟩|exact⟨_,rfl,hex,hj1,hkp⟩|exact⟨⟨hgl,V2⟩,hkp⟩|exact⟨⟨_,rfl,hgl,V2⟩,hkp⟩
 ·intro u0 W1 L hall hb ht
  exact(ht 7 (by decide):False).elim
theorem lab_k2 (x:It) (t u:Tk3) (S:Nat→Prop) (W:World) (gb ib mb:Nat) (wv kv:Value) (sec:ByteArray) (h:VarL W ib (itemL x wv kv mb sec)) (hx:x.words= [t,u]) (hbk:x.block=false) (hw:WordsIs W S wv x.words) (hS: ∀b,S b→b<W.heap.size) (hk:1≤t.k∧t.k≤6) (hk2:1≤u.k∧u.k≤6) (hno:t.k=1∧u.k≠2):Calls Tryz.prog 97 #[.pointer (some ⟨gb,0,none⟩), .pointer (some ⟨ib,0,none⟩)] W fun e w'=>e=up 6∧Below W.heap.size W w':=by
 rw[hx]at hw
 obtain⟨wb,wo,wc,rfl,hs,⟨w0,w1,w2,w3,w4⟩,w5,w6,w7,w8,w9⟩:=words_two hw
 have hsl:=hS wb hs
 have HF:Hid (Calls Tryz.prog 59 #[.pointer (some ⟨ib,0,none⟩), .int .i64 2, .bool false] W fun e w'=>e= .returned (.tuple #[])∧w'=W):=Lh (form_yes x 2 false W ib mb (some ⟨wb,wo,none⟩) wc kv sec (by rw[hx];exact h) ⟨by rw[hx];rfl,hbk⟩)
 have HV:=Lh h
 have HTK:Hid (∀W1,Below W.heap.size W W1→(W1.cell? ⟨wb,wo,none⟩=some (.int .i64 t.k)∧W1.cell? ⟨wb,wo+1,none⟩=some (.string t.s)∧W1.cell? ⟨wb,wo+2,none⟩=some (.int .u64 t.n)∧W1.cell? ⟨wb,wo+3,none⟩=some (.int .i64 t.a)∧W1.cell? ⟨wb,wo+4,none⟩=some (.int .i64 t.b))∧
   W1.cell? ⟨wb,wo+5,none⟩=some (.int .i64 u.k)∧W1.cell? ⟨wb,wo+6,none⟩=some (.string u.s)∧W1.cell? ⟨wb,wo+7,none⟩=some (.int .u64 u.n)∧W1.cell? ⟨wb,wo+8,none⟩=some (.int .i64 u.a)∧W1.cell? ⟨wb,wo+9,none⟩=some (.int .i64 u.b)):=Lh (fun W1 hb=>
  ⟨⟨(hb.cell (p:=⟨wb,wo,none⟩) hsl).trans w0,(hb.cell (p:=⟨wb,wo+1,none⟩) hsl).trans w1,(hb.cell (p:=⟨wb,wo+2,none⟩) hsl).trans w2,(hb.cell (p:=⟨wb,wo+3,none⟩) hsl).trans w3,(hb.cell (p:=⟨wb,wo+4,none⟩) hsl).trans w4⟩,(hb.cell (p:=⟨wb,wo+5,none⟩) hsl).trans w5,(hb.cell (p:=⟨wb,wo+6,none⟩) hsl).trans w6,(hb.cell (p:=⟨wb,wo+7,none⟩) hsl).trans w7,(hb.cell (p:=⟨wb,wo+8,none⟩) hsl).trans w8,(hb.cell (p:=⟨wb,wo+9,none⟩) hsl).trans w9⟩)
 have HN1:=Lh (fun V=>nameOf_yes t V hk.1 hk.2 hno.1)
 have HN2:=Lh (fun V=>textOf_no u V hk2.1 hk2.2 hno.2)
 unfold tkA at HN1 HN2
 clear h hx hbk hw hS hk hk2 hs hsl w0 w1 w2 w3 w4 w5 w6 w7 w8 w9 hno
 go_enter Tryz.func97,Tryz.ntmps97
 go_wp2_with (go_at_call 59;(with_reducible refine(HF.out).mono ?_);rintro e w1' ⟨rfl,hw1⟩;rw[hw1];clear hw1 w1')
 refine wp_region_mixj 18 (TLabB t u ib wb wo wc W.heap.size) (fun _ V=>Below W.heap.size W V) (by kernel_rfl) (by kernel_rfl) (Mj _ _).drew ?_ ?_
 ·simp only[Kj,Jh]
  refine(Lz ?_ (Lz ?_ (Lz ?_ (Lz ?_ (Lz ?_ (Lz ?_ (Lz ?_ (Lz ?_ (Lz ?_ (Lz ?_ (Lz ?_ (Lz ?_ (Lz ?_ (Lz ?_ (Lz ?_ (Lz ?_ (Lz ?_ (Lz ?_ StepsJ.nil))))))))))))))))))
  ·intro u0 W1 L hL hj hd
   simp only[putAll,Mq,Lq,Lk,Lj,Ly,Lx]
   have hj1:=hj
   go_wp2
   first|exact hj1|exact rfl|exact⟨rfl,hj1⟩|exact⟨rfl,hj1,k4⟩|exact⟨_,rfl,rfl,hj1,k4⟩
  ·intro u0 W1 L hL hj hd
   have e0:u0 0= .pointer (some ⟨ib,0,none⟩):=(hd.1 rfl (by decide)).2
   simp only[putAll,Mq,Lq,Lk,Lj,Ly,Lx]
   rw[e0]
   have hj1:=hj
   go_wp2
   first|exact hj1|exact rfl|exact⟨rfl,hj1⟩|exact⟨rfl,hj1,k4⟩|exact⟨_,rfl,rfl,hj1,k4⟩
  ·intro u0 W1 L hL hj hd
   have e1:u0 1= .pointer (some ⟨ib,0,none⟩):=(hd.1 rfl (by decide)).2
   simp only[putAll,Mq,Lq,Lk,Lj,Ly,Lx]
   rw[e1]
   have hj1:=hj
   go_wp2
   first|exact hj1|exact rfl|exact⟨rfl,hj1⟩|exact⟨rfl,hj1,k4⟩|exact⟨_,rfl,rfl,hj1,k4⟩
  ·intro u0 W1 L hL hj hd
   have e2:u0 2= .pointer (some ⟨ib,0,none⟩):=(hd.1 rfl (by decide)).2
   simp only[putAll,Mq,Lq,Lk,Lj,Ly,Lx]
   rw[e2]
   have hj1:=hj
   go_wp2
   first|exact hj1|exact rfl|exact⟨rfl,hj1⟩|exact⟨rfl,hj1,k4⟩|exact⟨_,rfl,rfl,hj1,k4⟩
  ·intro u0 W1 L hL hj hd
   have e3:u0 3= .pointer (some ⟨ib,1,none⟩):=(hd.1 rfl (by decide)).2
   have c1:=(HV.out.after hj).c 1 rfl
   simp only[putAll,Mq,Lq,Lk,Lj,Ly,Lx]
   rw[e3]
   have hj1:=hj
   go_wp2
   first|exact hj1|exact rfl|exact⟨rfl,hj1⟩|exact⟨rfl,hj1,k4⟩|exact⟨_,rfl,rfl,hj1,k4⟩
  ·intro u0 W1 L hL hj hd
   have e4:u0 4= .slice (some ⟨wb,wo,none⟩) 2 wc:=(hd.1 rfl (by decide)).2
   simp only[putAll,Mq,Lq,Lk,Lj,Ly,Lx]
   rw[e4]
   have hj1:=hj
   go_wp2
   first|exact hj1|exact rfl|exact⟨rfl,hj1⟩|exact⟨rfl,hj1,k4⟩|exact⟨_,rfl,rfl,hj1,k4⟩
  ·intro u0 W1 L hL hj hd
   have e5:u0 5= .pointer (some ⟨wb,wo,none⟩):=(hd.1 rfl (by decide)).2
   obtain⟨⟨t0,t1,t2,t3,t4⟩,_⟩:=HTK.out W1 hj
   simp only[putAll,Mq,Lq,Lk,Lj,Ly,Lx]
   rw[e5]
   have hj1:=hj
   go_wp2
   first|exact hj1|exact rfl|exact⟨rfl,hj1⟩|exact⟨rfl,hj1,k4⟩|exact⟨_,rfl,rfl,hj1,k4⟩
  ·intro u0 W1 L hL hj hd
   have e6:u0 6= .agg #[.int .i64 t.k, .string t.s, .int .u64 t.n, .int .i64 t.a, .int .i64 t.b]:=(hd.1 rfl (by decide)).2
   simp only[putAll,Mq,Lq,Lk,Lj,Ly,Lx]
   rw[e6]
   go_wp2_with (go_at_call 60;(with_reducible refine(HN1.out _).mono ?_);rintro e W2 ⟨rfl,g2⟩;have hj1:Below W.heap.size W W2:=hj.trans (g2.mono hj.size);have hkp: ∀j v',j<18→L j=true→TLabB t u ib wb wo wc W.heap.size j v' W1→TLabB t u ib wb wo wc W.heap.size j v' W2:=fun j v' _ _ h=>TLabB.keep j v' W1 W2 h g2)
   first|exact hkp|exact⟨rfl,hkp⟩|exact⟨rfl,hj1,hkp⟩|exact⟨_,rfl,rfl,hj1,hkp⟩
  ·intro u0 W1 L hL hj hd
   simp only[putAll,Mq,Lq,Lk,Lj,Ly,Lx]
   have hj1:=hj
   go_wp2
   first|exact hj1|exact rfl|exact⟨rfl,hj1⟩|exact⟨rfl,hj1,k4⟩|exact⟨_,rfl,rfl,hj1,k4⟩
  ·intro u0 W1 L hL hj hd
   have e8:u0 8= .pointer (some ⟨ib,0,none⟩):=(hd.1 rfl (by decide)).2
   simp only[putAll,Mq,Lq,Lk,Lj,Ly,Lx]
   rw[e8]
   have hj1:=hj
   go_wp2
   first|exact hj1|exact rfl|exact⟨rfl,hj1⟩|exact⟨rfl,hj1,k4⟩|exact⟨_,rfl,rfl,hj1,k4⟩
  ·intro u0 W1 L hL hj hd
   have e9:u0 9= .pointer (some ⟨ib,0,none⟩):=(hd.1 rfl (by decide)).2
   simp only[putAll,Mq,Lq,Lk,Lj,Ly,Lx]
   rw[e9]
   have hj1:=hj
   go_wp2
   first|exact hj1|exact rfl|exact⟨rfl,hj1⟩|exact⟨rfl,hj1,k4⟩|exact⟨_,rfl,rfl,hj1,k4⟩
  ·intro u0 W1 L hL hj hd
   have e10:u0 10= .pointer (some ⟨ib,0,none⟩):=(hd.1 rfl (by decide)).2
   simp only[putAll,Mq,Lq,Lk,Lj,Ly,Lx]
   rw[e10]
   have hj1:=hj
   go_wp2
   first|exact hj1|exact rfl|exact⟨rfl,hj1⟩|exact⟨rfl,hj1,k4⟩|exact⟨_,rfl,rfl,hj1,k4⟩
  ·intro u0 W1 L hL hj hd
   have e11:u0 11= .pointer (some ⟨ib,1,none⟩):=(hd.1 rfl (by decide)).2
   have c1:=(HV.out.after hj).c 1 rfl
   simp only[putAll,Mq,Lq,Lk,Lj,Ly,Lx]
   rw[e11]
   have hj1:=hj
   go_wp2
   first|exact hj1|exact rfl|exact⟨rfl,hj1⟩|exact⟨rfl,hj1,k4⟩|exact⟨_,rfl,rfl,hj1,k4⟩
  ·intro u0 W1 L hL hj hd
   have e12:u0 12= .slice (some ⟨wb,wo,none⟩) 2 wc:=(hd.1 rfl (by decide)).2
   simp only[putAll,Mq,Lq,Lk,Lj,Ly,Lx]
   rw[e12]
   have hj1:=hj
   go_wp2
   first|exact hj1|exact rfl|exact⟨rfl,hj1⟩|exact⟨rfl,hj1,k4⟩|exact⟨_,rfl,rfl,hj1,k4⟩
  ·intro u0 W1 L hL hj hd
   have e13:u0 13= .pointer (some ⟨wb,wo+5,none⟩):=(hd.1 rfl (by decide)).2
   obtain⟨_,t0,t1,t2,t3,t4⟩:=HTK.out W1 hj
   simp only[putAll,Mq,Lq,Lk,Lj,Ly,Lx]
   rw[e13]
   have hj1:=hj
   go_wp2
   first|exact hj1|exact rfl|exact⟨rfl,hj1⟩|exact⟨rfl,hj1,k4⟩|exact⟨_,rfl,rfl,hj1,k4⟩
  ·intro u0 W1 L hL hj hd
   have e14:u0 14= .agg #[.int .i64 u.k, .string u.s, .int .u64 u.n, .int .i64 u.a, .int .i64 u.b]:=(hd.1 rfl (by decide)).2
   simp only[putAll,Mq,Lq,Lk,Lj,Ly,Lx]
   rw[e14]
   go_wp2_with (go_at_call 123;(with_reducible refine(HN2.out _).mono ?_);rintro e W2 ⟨rfl,g2⟩;have hj1:Below W.heap.size W W2:=hj.trans (g2.mono hj.size))
   first|exact⟨rfl,hj1⟩|exact⟨rfl,rfl,hj1⟩
  ·intro u0 W1 L hL hj hd
   exact(((hd.2.1 rfl (by decide)).2:False)).elim
  ·intro u0 W1 L hL hj hd
   simp only[putAll,Mq,Lq,Lk,Lj,Ly,Lx]
   obtain⟨g,W2,hg,hW2,V2,g2,_⟩:=boxL W1 [.string ⟨#[]⟩, .string ⟨#[]⟩] 80
   have hj1:Below W.heap.size W W2:=hj.trans (g2.mono hj.size)
   have hkp: ∀j v',j<18→L j=true→TLabB t u ib wb wo wc W.heap.size j v' W1→TLabB t u ib wb wo wc W.heap.size j v' W2:=fun j v' _ _ h=>TLabB.keep j v' W1 W2 h g2
   have hgl:W.heap.size≤g:=by have:=hj.size;omega
   have hex: ∃g',Value.pointer (some ⟨g,0,none⟩)= .pointer (some ⟨g',0,none⟩)∧W.heap.size≤g'∧VarL W2 g' [.string ⟨#[]⟩, .string ⟨#[]⟩]:=⟨g,rfl,hgl,V2⟩
   go_wp2
   first|exact⟨hex,hkp⟩|exact⟨hex,hj1,hkp⟩|exact⟨_,rfl,hex,hj1,hkp⟩|exact⟨⟨hgl,V2⟩,hkp⟩|exact⟨⟨_,rfl,hgl,V2⟩,hkp⟩
 ·intro u0 W1 L hall hb ht
  exact(ht 15 (by decide):False).elim
theorem lab_known (x:It) (t u:Tk3) (S:Nat→Prop) (W:World) (gb ib mb:Nat) (wv kv:Value) (sec:ByteArray) (h:VarL W ib (itemL x wv kv mb sec)) (hx:x.words= [t,u]) (hbk:x.block=false) (hw:WordsIs W S wv x.words) (hS: ∀b,S b→b<W.heap.size) (hk:1≤t.k∧t.k≤6) (hk2:1≤u.k∧u.k≤6) (f:ByteArray→ByteArray→Nat) (hc:CntIs W mb f) (hno:t.k=1∧u.k=2) (hne:ib≠mb) (hf:f x.name t.s≠0):Calls Tryz.prog 97 #[.pointer (some ⟨gb,0,none⟩), .pointer (some ⟨ib,0,none⟩)] W fun e w'=>e=up 18∧Below W.heap.size W w':=by
 rw[hx]at hw
 obtain⟨wb,wo,wc,rfl,hs,⟨w0,w1,w2,w3,w4⟩,w5,w6,w7,w8,w9⟩:=words_two hw
 have hsl:=hS wb hs
 have HF:Hid (Calls Tryz.prog 59 #[.pointer (some ⟨ib,0,none⟩), .int .i64 2, .bool false] W fun e w'=>e= .returned (.tuple #[])∧w'=W):=Lh (form_yes x 2 false W ib mb (some ⟨wb,wo,none⟩) wc kv sec (by rw[hx];exact h) ⟨by rw[hx];rfl,hbk⟩)
 have HV:=Lh h
 have HTK:Hid (∀W1,Below W.heap.size W W1→(W1.cell? ⟨wb,wo,none⟩=some (.int .i64 t.k)∧W1.cell? ⟨wb,wo+1,none⟩=some (.string t.s)∧W1.cell? ⟨wb,wo+2,none⟩=some (.int .u64 t.n)∧W1.cell? ⟨wb,wo+3,none⟩=some (.int .i64 t.a)∧W1.cell? ⟨wb,wo+4,none⟩=some (.int .i64 t.b))∧
   W1.cell? ⟨wb,wo+5,none⟩=some (.int .i64 u.k)∧W1.cell? ⟨wb,wo+6,none⟩=some (.string u.s)∧W1.cell? ⟨wb,wo+7,none⟩=some (.int .u64 u.n)∧W1.cell? ⟨wb,wo+8,none⟩=some (.int .i64 u.a)∧W1.cell? ⟨wb,wo+9,none⟩=some (.int .i64 u.b)):=Lh (fun W1 hb=>
  ⟨⟨(hb.cell (p:=⟨wb,wo,none⟩) hsl).trans w0,(hb.cell (p:=⟨wb,wo+1,none⟩) hsl).trans w1,(hb.cell (p:=⟨wb,wo+2,none⟩) hsl).trans w2,(hb.cell (p:=⟨wb,wo+3,none⟩) hsl).trans w3,(hb.cell (p:=⟨wb,wo+4,none⟩) hsl).trans w4⟩,(hb.cell (p:=⟨wb,wo+5,none⟩) hsl).trans w5,(hb.cell (p:=⟨wb,wo+6,none⟩) hsl).trans w6,(hb.cell (p:=⟨wb,wo+7,none⟩) hsl).trans w7,(hb.cell (p:=⟨wb,wo+8,none⟩) hsl).trans w8,(hb.cell (p:=⟨wb,wo+9,none⟩) hsl).trans w9⟩)
 have HN1:=Lh (fun V=>nameOf_yes t V hk.1 hk.2 hno.1)
 have HN2:=Lh (fun V=>textOf_yes u V hk2.1 hk2.2 hno.2)
 unfold tkA at HN1 HN2
 have HC:=Lh hc
 have HNE:=Lh hne
 have HF0:=Lh hf
 clear hf
 clear h hx hbk hw hS hk hk2 hs hsl w0 w1 w2 w3 w4 w5 w6 w7 w8 w9 hno hc hne
 go_enter Tryz.func97,Tryz.ntmps97
 go_wp2_with (go_at_call 59;(with_reducible refine(HF.out).mono ?_);rintro e w1' ⟨rfl,hw1⟩;rw[hw1];clear hw1 w1')
 refine wp_region_mixj 18 (TLab t u ib wb wo wc W.heap.size) (fun _ V=>Below W.heap.size W V) (by kernel_rfl) (by kernel_rfl) (Mj _ _).drew ?_ ?_
 ·simp only[Kj,Jh]
  refine(Lz ?_ (Lz ?_ (Lz ?_ (Lz ?_ (Lz ?_ (Lz ?_ (Lz ?_ (Lz ?_ (Lz ?_ (Lz ?_ (Lz ?_ (Lz ?_ (Lz ?_ (Lz ?_ (Lz ?_ (Lz ?_ (Lz ?_ (Lz ?_ StepsJ.nil))))))))))))))))))
  all_goals(intro u0 W1 L hL hj hd;simp only[putAll,Mq,Lq,Lk,Lj,Ly,Lx])
  ·have hj1:=hj
   go_wp2
   first|exact hj1|exact rfl|exact⟨rfl,hj1⟩|exact⟨rfl,hj1,k4⟩|exact⟨_,rfl,rfl,hj1,k4⟩
  ·have e0:u0 0= .pointer (some ⟨ib,0,none⟩):=(hd.1 rfl (by decide)).2
   rw[e0]
   have hj1:=hj
   go_wp2
   first|exact hj1|exact rfl|exact⟨rfl,hj1⟩|exact⟨rfl,hj1,k4⟩|exact⟨_,rfl,rfl,hj1,k4⟩
  ·have e1:u0 1= .pointer (some ⟨ib,0,none⟩):=(hd.1 rfl (by decide)).2
   rw[e1]
   have hj1:=hj
   go_wp2
   first|exact hj1|exact rfl|exact⟨rfl,hj1⟩|exact⟨rfl,hj1,k4⟩|exact⟨_,rfl,rfl,hj1,k4⟩
  ·have e2:u0 2= .pointer (some ⟨ib,0,none⟩):=(hd.1 rfl (by decide)).2
   rw[e2]
   have hj1:=hj
   go_wp2
   first|exact hj1|exact rfl|exact⟨rfl,hj1⟩|exact⟨rfl,hj1,k4⟩|exact⟨_,rfl,rfl,hj1,k4⟩
  ·have e3:u0 3= .pointer (some ⟨ib,1,none⟩):=(hd.1 rfl (by decide)).2
   have c1:=(HV.out.after hj).c 1 rfl
   rw[e3]
   have hj1:=hj
   go_wp2
   first|exact hj1|exact rfl|exact⟨rfl,hj1⟩|exact⟨rfl,hj1,k4⟩|exact⟨_,rfl,rfl,hj1,k4⟩
  ·have e4:u0 4= .slice (some ⟨wb,wo,none⟩) 2 wc:=(hd.1 rfl (by decide)).2
   rw[e4]
   have hj1:=hj
   go_wp2
   first|exact hj1|exact rfl|exact⟨rfl,hj1⟩|exact⟨rfl,hj1,k4⟩|exact⟨_,rfl,rfl,hj1,k4⟩
  ·have e5:u0 5= .pointer (some ⟨wb,wo,none⟩):=(hd.1 rfl (by decide)).2
   obtain⟨⟨t0,t1,t2,t3,t4⟩,_⟩:=HTK.out W1 hj
   rw[e5]
   have hj1:=hj
   go_wp2
   first|exact hj1|exact rfl|exact⟨rfl,hj1⟩|exact⟨rfl,hj1,k4⟩|exact⟨_,rfl,rfl,hj1,k4⟩
  ·have e6:u0 6= .agg #[.int .i64 t.k, .string t.s, .int .u64 t.n, .int .i64 t.a, .int .i64 t.b]:=(hd.1 rfl (by decide)).2
   rw[e6]
   go_wp2_with (go_at_call 60;(with_reducible refine(HN1.out _).mono ?_);rintro e W2 ⟨rfl,g2⟩;have hj1:Below W.heap.size W W2:=hj.trans (g2.mono hj.size);have hkp: ∀j v',j<18→L j=true→TLab t u ib wb wo wc W.heap.size j v' W1→TLab t u ib wb wo wc W.heap.size j v' W2:=fun j v' _ _ h=>TLab.keep j v' W1 W2 h g2)
   first|exact hkp|exact⟨rfl,hkp⟩|exact⟨rfl,hj1,hkp⟩|exact⟨_,rfl,rfl,hj1,hkp⟩
  ·have hj1:=hj
   go_wp2
   first|exact hj1|exact rfl|exact⟨rfl,hj1⟩|exact⟨rfl,hj1,k4⟩|exact⟨_,rfl,rfl,hj1,k4⟩
  ·have e8:u0 8= .pointer (some ⟨ib,0,none⟩):=(hd.1 rfl (by decide)).2
   rw[e8]
   have hj1:=hj
   go_wp2
   first|exact hj1|exact rfl|exact⟨rfl,hj1⟩|exact⟨rfl,hj1,k4⟩|exact⟨_,rfl,rfl,hj1,k4⟩
  ·have e9:u0 9= .pointer (some ⟨ib,0,none⟩):=(hd.1 rfl (by decide)).2
   rw[e9]
   have hj1:=hj
   go_wp2
   first|exact hj1|exact rfl|exact⟨rfl,hj1⟩|exact⟨rfl,hj1,k4⟩|exact⟨_,rfl,rfl,hj1,k4⟩
  ·have e10:u0 10= .pointer (some ⟨ib,0,none⟩):=(hd.1 rfl (by decide)).2
   rw[e10]
   have hj1:=hj
   go_wp2
   first|exact hj1|exact rfl|exact⟨rfl,hj1⟩|exact⟨rfl,hj1,k4⟩|exact⟨_,rfl,rfl,hj1,k4⟩
  ·have e11:u0 11= .pointer (some ⟨ib,1,none⟩):=(hd.1 rfl (by decide)).2
   have c1:=(HV.out.after hj).c 1 rfl
   rw[e11]
   have hj1:=hj
   go_wp2
   first|exact hj1|exact rfl|exact⟨rfl,hj1⟩|exact⟨rfl,hj1,k4⟩|exact⟨_,rfl,rfl,hj1,k4⟩
  ·have e12:u0 12= .slice (some ⟨wb,wo,none⟩) 2 wc:=(hd.1 rfl (by decide)).2
   rw[e12]
   have hj1:=hj
   go_wp2
   first|exact hj1|exact rfl|exact⟨rfl,hj1⟩|exact⟨rfl,hj1,k4⟩|exact⟨_,rfl,rfl,hj1,k4⟩
  ·have e13:u0 13= .pointer (some ⟨wb,wo+5,none⟩):=(hd.1 rfl (by decide)).2
   obtain⟨_,t0,t1,t2,t3,t4⟩:=HTK.out W1 hj
   rw[e13]
   have hj1:=hj
   go_wp2
   first|exact hj1|exact rfl|exact⟨rfl,hj1⟩|exact⟨rfl,hj1,k4⟩|exact⟨_,rfl,rfl,hj1,k4⟩
  ·have e14:u0 14= .agg #[.int .i64 u.k, .string u.s, .int .u64 u.n, .int .i64 u.a, .int .i64 u.b]:=(hd.1 rfl (by decide)).2
   rw[e14]
   go_wp2_with (go_at_call 123;(with_reducible refine(HN2.out _).mono ?_);rintro e W2 ⟨rfl,g2⟩;have hj1:Below W.heap.size W W2:=hj.trans (g2.mono hj.size);have hkp: ∀j v',j<18→L j=true→TLab t u ib wb wo wc W.heap.size j v' W1→TLab t u ib wb wo wc W.heap.size j v' W2:=fun j v' _ _ h=>TLab.keep j v' W1 W2 h g2)
   first|exact hkp|exact⟨rfl,hkp⟩|exact⟨rfl,hj1,hkp⟩|exact⟨_,rfl,rfl,hj1,hkp⟩
  ·have e7:u0 7= .string t.s:=(hd.1 rfl (by decide)).2
   have e15:u0 15= .string u.s:=(hd.2.1 rfl (by decide)).2
   rw[e7,e15]
   have hj1:=hj
   go_wp2
   first|exact hj1|exact rfl|exact⟨rfl,hj1⟩|exact⟨rfl,hj1,k4⟩|exact⟨_,rfl,rfl,hj1,k4⟩
  ·obtain⟨g,W2,hg,hW2,V2,g2,_⟩:=boxL W1 [.string ⟨#[]⟩, .string ⟨#[]⟩] 80
   have hj1:Below W.heap.size W W2:=hj.trans (g2.mono hj.size)
   have hkp: ∀j v',j<18→L j=true→TLab t u ib wb wo wc W.heap.size j v' W1→TLab t u ib wb wo wc W.heap.size j v' W2:=fun j v' _ _ h=>TLab.keep j v' W1 W2 h g2
   have hgl:W.heap.size≤g:=by have:=hj.size;omega
   have hex: ∃g',Value.pointer (some ⟨g,0,none⟩)= .pointer (some ⟨g',0,none⟩)∧W.heap.size≤g'∧VarL W2 g' [.string ⟨#[]⟩, .string ⟨#[]⟩]:=⟨g,rfl,hgl,V2⟩
   go_wp2
   first|exact⟨hex,hkp⟩|exact⟨hex,hj1,hkp⟩|exact⟨_,rfl,hex,hj1,hkp⟩|exact⟨⟨hgl,V2⟩,hkp⟩|exact⟨⟨_,rfl,hgl,V2⟩,hkp⟩
 ·intro u0 W1 L hall hb ht
  have e16:u0 16= .agg #[.string t.s, .string u.s]:=ht 16 (by decide)
  obtain⟨gv,e17,hgv,hvg⟩:=ht 17 (by decide)
  have HBW:=Lh hb
  clear hb ht hall
  simp only[Kj,Jh,Jj,Jk,putAll,Mq,Lq,Lk,Lj,Ly,Lx]
  rw[e16,e17]
  have HVG:=Lh hvg
  have x0:=hvg.c 0 rfl
  have x1:=hvg.c 1 rfl
  have q0:=hvg.q 0 rfl
  have q1:=hvg.q 1 rfl
  obtain⟨W2,hW2⟩: ∃W2,putL gv 0 [.string t.s, .string u.s] W1=W2:=⟨_,rfl⟩
  have HV2:Hid (VarL W2 gv [.string t.s, .string u.s]):=Lh (by rw[←hW2];exact putL_var [.string t.s, .string u.s] [] [.string ⟨#[]⟩, .string ⟨#[]⟩] W1 HVG.out rfl)
  have HB2:Hid (Below W.heap.size W W2):=Lh (by rw[←hW2];exact putL_below _ hgv _ _ HBW.out)
  have HGV:=Lh hgv
  simp only[putL,Ly]at hW2
  have y0:=HV2.out.c 0 rfl
  have HIV:=Lh (HV.out.after HB2.out)
  have HIC:=Lh (HC.out.keep (HB2.out.block mb HC.out.lt))
  have HNA:=Lh (named_known x t.s 4 W2 ib mb _ kv sec f HIV.out HIC.out HF0.out)
  clear hvg hgv
  go_wp2_with (go_at_call 61;(with_reducible refine(HNA.out).mono ?_);rintro e w3 ⟨rfl,g3⟩;have G3:=Lh (below_step HB2.out g3);clear g3)
  first|exact⟨rfl,G3.out⟩|exact⟨rfl,rfl,G3.out⟩
theorem lab_long (x:It) (t u:Tk3) (S:Nat→Prop) (W:World) (gb ib mb:Nat) (wv kv:Value) (sec:ByteArray) (h:VarL W ib (itemL x wv kv mb sec)) (hx:x.words= [t,u]) (hbk:x.block=false) (hw:WordsIs W S wv x.words) (hS: ∀b,S b→b<W.heap.size) (hk:1≤t.k∧t.k≤6) (hk2:1≤u.k∧u.k≤6) (f:ByteArray→ByteArray→Nat) (hc:CntIs W mb f) (hno:t.k=1∧u.k=2) (hne:ib≠mb) (hf:f x.name t.s=0) (hn:f x.name ⟨#[]⟩=4):Calls Tryz.prog 97 #[.pointer (some ⟨gb,0,none⟩), .pointer (some ⟨ib,0,none⟩)] W fun e w'=>e=up 9∧Below W.heap.size W w':=by
 rw[hx]at hw
 obtain⟨wb,wo,wc,rfl,hs,⟨w0,w1,w2,w3,w4⟩,w5,w6,w7,w8,w9⟩:=words_two hw
 have hsl:=hS wb hs
 have HF:Hid (Calls Tryz.prog 59 #[.pointer (some ⟨ib,0,none⟩), .int .i64 2, .bool false] W fun e w'=>e= .returned (.tuple #[])∧w'=W):=Lh (form_yes x 2 false W ib mb (some ⟨wb,wo,none⟩) wc kv sec (by rw[hx];exact h) ⟨by rw[hx];rfl,hbk⟩)
 have HV:=Lh h
 have HTK:Hid (∀W1,Below W.heap.size W W1→(W1.cell? ⟨wb,wo,none⟩=some (.int .i64 t.k)∧W1.cell? ⟨wb,wo+1,none⟩=some (.string t.s)∧W1.cell? ⟨wb,wo+2,none⟩=some (.int .u64 t.n)∧W1.cell? ⟨wb,wo+3,none⟩=some (.int .i64 t.a)∧W1.cell? ⟨wb,wo+4,none⟩=some (.int .i64 t.b))∧
   W1.cell? ⟨wb,wo+5,none⟩=some (.int .i64 u.k)∧W1.cell? ⟨wb,wo+6,none⟩=some (.string u.s)∧W1.cell? ⟨wb,wo+7,none⟩=some (.int .u64 u.n)∧W1.cell? ⟨wb,wo+8,none⟩=some (.int .i64 u.a)∧W1.cell? ⟨wb,wo+9,none⟩=some (.int .i64 u.b)):=Lh (fun W1 hb=>
  ⟨⟨(hb.cell (p:=⟨wb,wo,none⟩) hsl).trans w0,(hb.cell (p:=⟨wb,wo+1,none⟩) hsl).trans w1,(hb.cell (p:=⟨wb,wo+2,none⟩) hsl).trans w2,(hb.cell (p:=⟨wb,wo+3,none⟩) hsl).trans w3,(hb.cell (p:=⟨wb,wo+4,none⟩) hsl).trans w4⟩,(hb.cell (p:=⟨wb,wo+5,none⟩) hsl).trans w5,(hb.cell (p:=⟨wb,wo+6,none⟩) hsl).trans w6,(hb.cell (p:=⟨wb,wo+7,none⟩) hsl).trans w7,(hb.cell (p:=⟨wb,wo+8,none⟩) hsl).trans w8,(hb.cell (p:=⟨wb,wo+9,none⟩) hsl).trans w9⟩)
 have HN1:=Lh (fun V=>nameOf_yes t V hk.1 hk.2 hno.1)
 have HN2:=Lh (fun V=>textOf_yes u V hk2.1 hk2.2 hno.2)
 unfold tkA at HN1 HN2
 have HC:=Lh hc
 have HNE:=Lh hne
 have HF0:=Lh hf
 have HFN:=Lh hn
 clear hf hn
 clear h hx hbk hw hS hk hk2 hs hsl w0 w1 w2 w3 w4 w5 w6 w7 w8 w9 hno hc hne
 go_enter Tryz.func97,Tryz.ntmps97
 go_wp2_with (go_at_call 59;(with_reducible refine(HF.out).mono ?_);rintro e w1' ⟨rfl,hw1⟩;rw[hw1];clear hw1 w1')
 refine wp_region_mixj 18 (TLab t u ib wb wo wc W.heap.size) (fun _ V=>Below W.heap.size W V) (by kernel_rfl) (by kernel_rfl) (Mj _ _).drew ?_ ?_
 ·simp only[Kj,Jh]
  refine(Lz ?_ (Lz ?_ (Lz ?_ (Lz ?_ (Lz ?_ (Lz ?_ (Lz ?_ (Lz ?_ (Lz ?_ (Lz ?_ (Lz ?_ (Lz ?_ (Lz ?_ (Lz ?_ (Lz ?_ (Lz ?_ (Lz ?_ (Lz ?_ StepsJ.nil))))))))))))))))))
  all_goals(intro u0 W1 L hL hj hd;simp only[putAll,Mq,Lq,Lk,Lj,Ly,Lx])
  ·have hj1:=hj
   go_wp2
   first|exact hj1|exact rfl|exact⟨rfl,hj1⟩|exact⟨rfl,hj1,k4⟩|exact⟨_,rfl,rfl,hj1,k4⟩
  ·have e0:u0 0= .pointer (some ⟨ib,0,none⟩):=(hd.1 rfl (by decide)).2
   rw[e0]
   have hj1:=hj
   go_wp2
   first|exact hj1|exact rfl|exact⟨rfl,hj1⟩|exact⟨rfl,hj1,k4⟩|exact⟨_,rfl,rfl,hj1,k4⟩
  ·have e1:u0 1= .pointer (some ⟨ib,0,none⟩):=(hd.1 rfl (by decide)).2
   rw[e1]
   have hj1:=hj
   go_wp2
   first|exact hj1|exact rfl|exact⟨rfl,hj1⟩|exact⟨rfl,hj1,k4⟩|exact⟨_,rfl,rfl,hj1,k4⟩
  ·have e2:u0 2= .pointer (some ⟨ib,0,none⟩):=(hd.1 rfl (by decide)).2
   rw[e2]
   have hj1:=hj
   go_wp2
   first|exact hj1|exact rfl|exact⟨rfl,hj1⟩|exact⟨rfl,hj1,k4⟩|exact⟨_,rfl,rfl,hj1,k4⟩
  ·have e3:u0 3= .pointer (some ⟨ib,1,none⟩):=(hd.1 rfl (by decide)).2
   have c1:=(HV.out.after hj).c 1 rfl
   rw[e3]
   have hj1:=hj
   go_wp2
   first|exact hj1|exact rfl|exact⟨rfl,hj1⟩|exact⟨rfl,hj1,k4⟩|exact⟨_,rfl,rfl,hj1,k4⟩
  ·have e4:u0 4= .slice (some ⟨wb,wo,none⟩) 2 wc:=(hd.1 rfl (by decide)).2
   rw[e4]
   have hj1:=hj
   go_wp2
   first|exact hj1|exact rfl|exact⟨rfl,hj1⟩|exact⟨rfl,hj1,k4⟩|exact⟨_,rfl,rfl,hj1,k4⟩
  ·have e5:u0 5= .pointer (some ⟨wb,wo,none⟩):=(hd.1 rfl (by decide)).2
   obtain⟨⟨t0,t1,t2,t3,t4⟩,_⟩:=HTK.out W1 hj
   rw[e5]
   have hj1:=hj
   go_wp2
   first|exact hj1|exact rfl|exact⟨rfl,hj1⟩|exact⟨rfl,hj1,k4⟩|exact⟨_,rfl,rfl,hj1,k4⟩
  ·have e6:u0 6= .agg #[.int .i64 t.k, .string t.s, .int .u64 t.n, .int .i64 t.a, .int .i64 t.b]:=(hd.1 rfl (by decide)).2
   rw[e6]
   go_wp2_with (go_at_call 60;(with_reducible refine(HN1.out _).mono ?_);rintro e W2 ⟨rfl,g2⟩;have hj1:Below W.heap.size W W2:=hj.trans (g2.mono hj.size);have hkp: ∀j v',j<18→L j=true→TLab t u ib wb wo wc W.heap.size j v' W1→TLab t u ib wb wo wc W.heap.size j v' W2:=fun j v' _ _ h=>TLab.keep j v' W1 W2 h g2)
   first|exact hkp|exact⟨rfl,hkp⟩|exact⟨rfl,hj1,hkp⟩|exact⟨_,rfl,rfl,hj1,hkp⟩
  ·have hj1:=hj
   go_wp2
   first|exact hj1|exact rfl|exact⟨rfl,hj1⟩|exact⟨rfl,hj1,k4⟩|exact⟨_,rfl,rfl,hj1,k4⟩
  ·have e8:u0 8= .pointer (some ⟨ib,0,none⟩):=(hd.1 rfl (by decide)).2
   rw[e8]
   have hj1:=hj
   go_wp2
   first|exact hj1|exact rfl|exact⟨rfl,hj1⟩|exact⟨rfl,hj1,k4⟩|exact⟨_,rfl,rfl,hj1,k4⟩
  ·have e9:u0 9= .pointer (some ⟨ib,0,none⟩):=(hd.1 rfl (by decide)).2
   rw[e9]
   have hj1:=hj
   go_wp2
   first|exact hj1|exact rfl|exact⟨rfl,hj1⟩|exact⟨rfl,hj1,k4⟩|exact⟨_,rfl,rfl,hj1,k4⟩
  ·have e10:u0 10= .pointer (some ⟨ib,0,none⟩):=(hd.1 rfl (by decide)).2
   rw[e10]
   have hj1:=hj
   go_wp2
   first|exact hj1|exact rfl|exact⟨rfl,hj1⟩|exact⟨rfl,hj1,k4⟩|exact⟨_,rfl,rfl,hj1,k4⟩
  ·have e11:u0 11= .pointer (some ⟨ib,1,none⟩):=(hd.1 rfl (by decide)).2
   have c1:=(HV.out.after hj).c 1 rfl
   rw[e11]
   have hj1:=hj
   go_wp2
   first|exact hj1|exact rfl|exact⟨rfl,hj1⟩|exact⟨rfl,hj1,k4⟩|exact⟨_,rfl,rfl,hj1,k4⟩
  ·have e12:u0 12= .slice (some ⟨wb,wo,none⟩) 2 wc:=(hd.1 rfl (by decide)).2
   rw[e12]
   have hj1:=hj
   go_wp2
   first|exact hj1|exact rfl|exact⟨rfl,hj1⟩|exact⟨rfl,hj1,k4⟩|exact⟨_,rfl,rfl,hj1,k4⟩
  ·have e13:u0 13= .pointer (some ⟨wb,wo+5,none⟩):=(hd.1 rfl (by decide)).2
   obtain⟨_,t0,t1,t2,t3,t4⟩:=HTK.out W1 hj
   rw[e13]
   have hj1:=hj
   go_wp2
   first|exact hj1|exact rfl|exact⟨rfl,hj1⟩|exact⟨rfl,hj1,k4⟩|exact⟨_,rfl,rfl,hj1,k4⟩
  ·have e14:u0 14= .agg #[.int .i64 u.k, .string u.s, .int .u64 u.n, .int .i64 u.a, .int .i64 u.b]:=(hd.1 rfl (by decide)).2
   rw[e14]
   go_wp2_with (go_at_call 123;(with_reducible refine(HN2.out _).mono ?_);rintro e W2 ⟨rfl,g2⟩;have hj1:Below W.heap.size W W2:=hj.trans (g2.mono hj.size);have hkp: ∀j v',j<18→L j=true→TLab t u ib wb wo wc W.heap.size j v' W1→TLab t u ib wb wo wc W.heap.size j v' W2:=fun j v' _ _ h=>TLab.keep j v' W1 W2 h g2)
   first|exact hkp|exact⟨rfl,hkp⟩|exact⟨rfl,hj1,hkp⟩|exact⟨_,rfl,rfl,hj1,hkp⟩
  ·have e7:u0 7= .string t.s:=(hd.1 rfl (by decide)).2
   have e15:u0 15= .string u.s:=(hd.2.1 rfl (by decide)).2
   rw[e7,e15]
   have hj1:=hj
   go_wp2
   first|exact hj1|exact rfl|exact⟨rfl,hj1⟩|exact⟨rfl,hj1,k4⟩|exact⟨_,rfl,rfl,hj1,k4⟩
  ·obtain⟨g,W2,hg,hW2,V2,g2,_⟩:=boxL W1 [.string ⟨#[]⟩, .string ⟨#[]⟩] 80
   have hj1:Below W.heap.size W W2:=hj.trans (g2.mono hj.size)
   have hkp: ∀j v',j<18→L j=true→TLab t u ib wb wo wc W.heap.size j v' W1→TLab t u ib wb wo wc W.heap.size j v' W2:=fun j v' _ _ h=>TLab.keep j v' W1 W2 h g2
   have hgl:W.heap.size≤g:=by have:=hj.size;omega
   have hex: ∃g',Value.pointer (some ⟨g,0,none⟩)= .pointer (some ⟨g',0,none⟩)∧W.heap.size≤g'∧VarL W2 g' [.string ⟨#[]⟩, .string ⟨#[]⟩]:=⟨g,rfl,hgl,V2⟩
   go_wp2
   first|exact⟨hex,hkp⟩|exact⟨hex,hj1,hkp⟩|exact⟨_,rfl,hex,hj1,hkp⟩|exact⟨⟨hgl,V2⟩,hkp⟩|exact⟨⟨_,rfl,hgl,V2⟩,hkp⟩
 ·intro u0 W1 L hall hb ht
  have e16:u0 16= .agg #[.string t.s, .string u.s]:=ht 16 (by decide)
  obtain⟨gv,e17,hgv,hvg⟩:=ht 17 (by decide)
  have HBW:=Lh hb
  clear hb ht hall
  simp only[Kj,Jh,Jj,Jk,putAll,Mq,Lq,Lk,Lj,Ly,Lx]
  rw[e16,e17]
  have HVG:=Lh hvg
  have x0:=hvg.c 0 rfl
  have x1:=hvg.c 1 rfl
  have q0:=hvg.q 0 rfl
  have q1:=hvg.q 1 rfl
  obtain⟨W2,hW2⟩: ∃W2,putL gv 0 [.string t.s, .string u.s] W1=W2:=⟨_,rfl⟩
  have HV2:Hid (VarL W2 gv [.string t.s, .string u.s]):=Lh (by rw[←hW2];exact putL_var [.string t.s, .string u.s] [] [.string ⟨#[]⟩, .string ⟨#[]⟩] W1 HVG.out rfl)
  have HB2:Hid (Below W.heap.size W W2):=Lh (by rw[←hW2];exact putL_below _ hgv _ _ HBW.out)
  have HGV:=Lh hgv
  simp only[putL,Ly]at hW2
  have y0:=HV2.out.c 0 rfl
  have HIV:=Lh (HV.out.after HB2.out)
  have HIC:=Lh (HC.out.keep (HB2.out.block mb HC.out.lt))
  have HNA:Hid (Calls Tryz.prog 61 #[.pointer (some ⟨ib,0,none⟩), .string t.s, .int .i64 4] W2 fun e w'=>e=up 9∧Below W2.heap.size W2 w'):=Lh (named_long x t.s 4 4 W2 ib mb _ kv sec f HIV.out HIC.out HF0.out HFN.out rfl)
  clear hvg hgv
  go_wp2_with (go_at_call 61;(with_reducible refine(HNA.out).mono ?_);rintro e w3 ⟨rfl,g3⟩;have G3:=Lh (below_step HB2.out g3);clear g3)
  first|exact⟨rfl,G3.out⟩|exact⟨rfl,rfl,G3.out⟩
theorem lab_set (x:It) (t u:Tk3) (S:Nat→Prop) (W:World) (gb ib mb:Nat) (wv kv:Value) (sec:ByteArray) (h:VarL W ib (itemL x wv kv mb sec)) (hx:x.words= [t,u]) (hbk:x.block=false) (hw:WordsIs W S wv x.words) (hS: ∀b,S b→b<W.heap.size) (hk:1≤t.k∧t.k≤6) (hk2:1≤u.k∧u.k≤6) (f:ByteArray→ByteArray→Nat) (hc:CntIs W mb f) (hno:t.k=1∧u.k=2) (hne:ib≠mb) (hf:f x.name t.s=0) (n4:Nat) (hn:f x.name ⟨#[]⟩=n4) (h4:n4≠4) (l:List Value) (hV:VarL W gb l) (lv:Value) (vs:List (List Value)) (base:Nat) (hl:l[7]?=some lv) (hrow:RowK 80 2 W base lv vs) (hbase:base≤W.heap.size) (hvs:vs.length≤1000000) (hgi:gb≠ib) (hlx: ∀b,lv.ownBlock=some b→b≠gb∧b≠ib):Calls Tryz.prog 97 #[.pointer (some ⟨gb,0,none⟩), .pointer (some ⟨ib,0,none⟩)] W fun e w'=>e= .returned (.tuple #[])∧∃lv',VarL w' gb (l.set 7 lv')∧RowK 80 2 w' base lv' (vs++ [[.string t.s, .string u.s]])∧VarL w' ib (itemL x wv kv mb t.s)∧Frm (fun i=>i=gb∨i=ib∨some i=lv.ownBlock) W w'∧(lv'.ownBlock=lv.ownBlock∨∃b,lv'.ownBlock=some b∧W.heap.size≤b):=by
 rw[hx]at hw
 obtain⟨wb,wo,wc,rfl,hs,⟨w0,w1,w2,w3,w4⟩,w5,w6,w7,w8,w9⟩:=words_two hw
 have hsl:=hS wb hs
 have HF:Hid (Calls Tryz.prog 59 #[.pointer (some ⟨ib,0,none⟩), .int .i64 2, .bool false] W fun e w'=>e= .returned (.tuple #[])∧w'=W):=Lh (form_yes x 2 false W ib mb (some ⟨wb,wo,none⟩) wc kv sec (by rw[hx];exact h) ⟨by rw[hx];rfl,hbk⟩)
 have HV:=Lh h
 have HTK:Hid (∀W1,Below W.heap.size W W1→(W1.cell? ⟨wb,wo,none⟩=some (.int .i64 t.k)∧W1.cell? ⟨wb,wo+1,none⟩=some (.string t.s)∧W1.cell? ⟨wb,wo+2,none⟩=some (.int .u64 t.n)∧W1.cell? ⟨wb,wo+3,none⟩=some (.int .i64 t.a)∧W1.cell? ⟨wb,wo+4,none⟩=some (.int .i64 t.b))∧
   W1.cell? ⟨wb,wo+5,none⟩=some (.int .i64 u.k)∧W1.cell? ⟨wb,wo+6,none⟩=some (.string u.s)∧W1.cell? ⟨wb,wo+7,none⟩=some (.int .u64 u.n)∧W1.cell? ⟨wb,wo+8,none⟩=some (.int .i64 u.a)∧W1.cell? ⟨wb,wo+9,none⟩=some (.int .i64 u.b)):=Lh (fun W1 hb=>
  ⟨⟨(hb.cell (p:=⟨wb,wo,none⟩) hsl).trans w0,(hb.cell (p:=⟨wb,wo+1,none⟩) hsl).trans w1,(hb.cell (p:=⟨wb,wo+2,none⟩) hsl).trans w2,(hb.cell (p:=⟨wb,wo+3,none⟩) hsl).trans w3,(hb.cell (p:=⟨wb,wo+4,none⟩) hsl).trans w4⟩,(hb.cell (p:=⟨wb,wo+5,none⟩) hsl).trans w5,(hb.cell (p:=⟨wb,wo+6,none⟩) hsl).trans w6,(hb.cell (p:=⟨wb,wo+7,none⟩) hsl).trans w7,(hb.cell (p:=⟨wb,wo+8,none⟩) hsl).trans w8,(hb.cell (p:=⟨wb,wo+9,none⟩) hsl).trans w9⟩)
 have HN1:=Lh (fun V=>nameOf_yes t V hk.1 hk.2 hno.1)
 have HN2:=Lh (fun V=>textOf_yes u V hk2.1 hk2.2 hno.2)
 unfold tkA at HN1 HN2
 have HC:=Lh hc
 have HNE:=Lh hne
 obtain⟨va,vc,hlv⟩:=hrow.size
 subst hlv
 obtain⟨own,hown⟩: ∃own,(Value.slice va vs.length vc).ownBlock=own:=⟨_,rfl⟩
 have HOWN:=Lh hown
 have HF0:=Lh hf
 have HFN:=Lh hn
 have HN4:=Lh h4
 have HVL:=Lh hV
 have HL7:=Lh hl
 have HRW0:=Lh hrow
 have HBASE:=Lh hbase
 have HLEN:=Lh hvs
 have HGI:=Lh hgi
 have HNS:Hid (∀b,own=some b→b≠gb):=Lh (fun b e=>(hlx b (hown.trans e)).1)
 have HNI:Hid (∀b,own=some b→b≠ib):=Lh (fun b e=>(hlx b (hown.trans e)).2)
 have HLT:Hid (∀b,own=some b→b<W.heap.size):=Lh (fun b e=>(hrow.lt (hown.trans e)).2)
 have HPO:Hid (∀u'∈([.string t.s, .string u.s]:List Value),u'.oneCell'=true):=Lh (by intro u' hu;simp only[List.mem_cons,List.not_mem_nil,or_false]at hu;rcases hu with rfl|rfl<;>rfl)
 clear hf hn h4 hV hl hrow hbase hvs hgi hlx hown
 clear h hx hbk hw hS hk hk2 hs hsl w0 w1 w2 w3 w4 w5 w6 w7 w8 w9 hno hc hne
 go_enter Tryz.func97,Tryz.ntmps97
 go_wp2_with (go_at_call 59;(with_reducible refine(HF.out).mono ?_);rintro e w1' ⟨rfl,hw1⟩;rw[hw1];clear hw1 w1')
 refine wp_region_mixj 18 (TLab t u ib wb wo wc W.heap.size) (fun _ V=>Below W.heap.size W V) (by kernel_rfl) (by kernel_rfl) (Mj _ _).drew ?_ ?_
 ·simp only[Kj,Jh]
  refine(Lz ?_ (Lz ?_ (Lz ?_ (Lz ?_ (Lz ?_ (Lz ?_ (Lz ?_ (Lz ?_ (Lz ?_ (Lz ?_ (Lz ?_ (Lz ?_ (Lz ?_ (Lz ?_ (Lz ?_ (Lz ?_ (Lz ?_ (Lz ?_ StepsJ.nil))))))))))))))))))
  all_goals(intro u0 W1 L hL hj hd;simp only[putAll,Mq,Lq,Lk,Lj,Ly,Lx])
  ·have hj1:=hj
   go_wp2
   first|exact hj1|exact rfl|exact⟨rfl,hj1⟩|exact⟨rfl,hj1,k4⟩|exact⟨_,rfl,rfl,hj1,k4⟩
  ·have e0:u0 0= .pointer (some ⟨ib,0,none⟩):=(hd.1 rfl (by decide)).2
   rw[e0]
   have hj1:=hj
   go_wp2
   first|exact hj1|exact rfl|exact⟨rfl,hj1⟩|exact⟨rfl,hj1,k4⟩|exact⟨_,rfl,rfl,hj1,k4⟩
  ·have e1:u0 1= .pointer (some ⟨ib,0,none⟩):=(hd.1 rfl (by decide)).2
   rw[e1]
   have hj1:=hj
   go_wp2
   first|exact hj1|exact rfl|exact⟨rfl,hj1⟩|exact⟨rfl,hj1,k4⟩|exact⟨_,rfl,rfl,hj1,k4⟩
  ·have e2:u0 2= .pointer (some ⟨ib,0,none⟩):=(hd.1 rfl (by decide)).2
   rw[e2]
   have hj1:=hj
   go_wp2
   first|exact hj1|exact rfl|exact⟨rfl,hj1⟩|exact⟨rfl,hj1,k4⟩|exact⟨_,rfl,rfl,hj1,k4⟩
  ·have e3:u0 3= .pointer (some ⟨ib,1,none⟩):=(hd.1 rfl (by decide)).2
   have c1:=(HV.out.after hj).c 1 rfl
   rw[e3]
   have hj1:=hj
   go_wp2
   first|exact hj1|exact rfl|exact⟨rfl,hj1⟩|exact⟨rfl,hj1,k4⟩|exact⟨_,rfl,rfl,hj1,k4⟩
  ·have e4:u0 4= .slice (some ⟨wb,wo,none⟩) 2 wc:=(hd.1 rfl (by decide)).2
   rw[e4]
   have hj1:=hj
   go_wp2
   first|exact hj1|exact rfl|exact⟨rfl,hj1⟩|exact⟨rfl,hj1,k4⟩|exact⟨_,rfl,rfl,hj1,k4⟩
  ·have e5:u0 5= .pointer (some ⟨wb,wo,none⟩):=(hd.1 rfl (by decide)).2
   obtain⟨⟨t0,t1,t2,t3,t4⟩,_⟩:=HTK.out W1 hj
   rw[e5]
   have hj1:=hj
   go_wp2
   first|exact hj1|exact rfl|exact⟨rfl,hj1⟩|exact⟨rfl,hj1,k4⟩|exact⟨_,rfl,rfl,hj1,k4⟩
  ·have e6:u0 6= .agg #[.int .i64 t.k, .string t.s, .int .u64 t.n, .int .i64 t.a, .int .i64 t.b]:=(hd.1 rfl (by decide)).2
   rw[e6]
   go_wp2_with (go_at_call 60;(with_reducible refine(HN1.out _).mono ?_);rintro e W2 ⟨rfl,g2⟩;have hj1:Below W.heap.size W W2:=hj.trans (g2.mono hj.size);have hkp: ∀j v',j<18→L j=true→TLab t u ib wb wo wc W.heap.size j v' W1→TLab t u ib wb wo wc W.heap.size j v' W2:=fun j v' _ _ h=>TLab.keep j v' W1 W2 h g2)
   first|exact hkp|exact⟨rfl,hkp⟩|exact⟨rfl,hj1,hkp⟩|exact⟨_,rfl,rfl,hj1,hkp⟩
  ·have hj1:=hj
   go_wp2
   first|exact hj1|exact rfl|exact⟨rfl,hj1⟩|exact⟨rfl,hj1,k4⟩|exact⟨_,rfl,rfl,hj1,k4⟩
  ·have e8:u0 8= .pointer (some ⟨ib,0,none⟩):=(hd.1 rfl (by decide)).2
   rw[e8]
   have hj1:=hj
   go_wp2
   first|exact hj1|exact rfl|exact⟨rfl,hj1⟩|exact⟨rfl,hj1,k4⟩|exact⟨_,rfl,rfl,hj1,k4⟩
  ·have e9:u0 9= .pointer (some ⟨ib,0,none⟩):=(hd.1 rfl (by decide)).2
   rw[e9]
   have hj1:=hj
   go_wp2
   first|exact hj1|exact rfl|exact⟨rfl,hj1⟩|exact⟨rfl,hj1,k4⟩|exact⟨_,rfl,rfl,hj1,k4⟩
  ·have e10:u0 10= .pointer (some ⟨ib,0,none⟩):=(hd.1 rfl (by decide)).2
   rw[e10]
   have hj1:=hj
   go_wp2
   first|exact hj1|exact rfl|exact⟨rfl,hj1⟩|exact⟨rfl,hj1,k4⟩|exact⟨_,rfl,rfl,hj1,k4⟩
  ·have e11:u0 11= .pointer (some ⟨ib,1,none⟩):=(hd.1 rfl (by decide)).2
   have c1:=(HV.out.after hj).c 1 rfl
   rw[e11]
   have hj1:=hj
   go_wp2
   first|exact hj1|exact rfl|exact⟨rfl,hj1⟩|exact⟨rfl,hj1,k4⟩|exact⟨_,rfl,rfl,hj1,k4⟩
  ·have e12:u0 12= .slice (some ⟨wb,wo,none⟩) 2 wc:=(hd.1 rfl (by decide)).2
   rw[e12]
   have hj1:=hj
   go_wp2
   first|exact hj1|exact rfl|exact⟨rfl,hj1⟩|exact⟨rfl,hj1,k4⟩|exact⟨_,rfl,rfl,hj1,k4⟩
  ·have e13:u0 13= .pointer (some ⟨wb,wo+5,none⟩):=(hd.1 rfl (by decide)).2
   obtain⟨_,t0,t1,t2,t3,t4⟩:=HTK.out W1 hj
   rw[e13]
   have hj1:=hj
   go_wp2
   first|exact hj1|exact rfl|exact⟨rfl,hj1⟩|exact⟨rfl,hj1,k4⟩|exact⟨_,rfl,rfl,hj1,k4⟩
  ·have e14:u0 14= .agg #[.int .i64 u.k, .string u.s, .int .u64 u.n, .int .i64 u.a, .int .i64 u.b]:=(hd.1 rfl (by decide)).2
   rw[e14]
   go_wp2_with (go_at_call 123;(with_reducible refine(HN2.out _).mono ?_);rintro e W2 ⟨rfl,g2⟩;have hj1:Below W.heap.size W W2:=hj.trans (g2.mono hj.size);have hkp: ∀j v',j<18→L j=true→TLab t u ib wb wo wc W.heap.size j v' W1→TLab t u ib wb wo wc W.heap.size j v' W2:=fun j v' _ _ h=>TLab.keep j v' W1 W2 h g2)
   first|exact hkp|exact⟨rfl,hkp⟩|exact⟨rfl,hj1,hkp⟩|exact⟨_,rfl,rfl,hj1,hkp⟩
  ·have e7:u0 7= .string t.s:=(hd.1 rfl (by decide)).2
   have e15:u0 15= .string u.s:=(hd.2.1 rfl (by decide)).2
   rw[e7,e15]
   have hj1:=hj
   go_wp2
   first|exact hj1|exact rfl|exact⟨rfl,hj1⟩|exact⟨rfl,hj1,k4⟩|exact⟨_,rfl,rfl,hj1,k4⟩
  ·obtain⟨g,W2,hg,hW2,V2,g2,_⟩:=boxL W1 [.string ⟨#[]⟩, .string ⟨#[]⟩] 80
   have hj1:Below W.heap.size W W2:=hj.trans (g2.mono hj.size)
   have hkp: ∀j v',j<18→L j=true→TLab t u ib wb wo wc W.heap.size j v' W1→TLab t u ib wb wo wc W.heap.size j v' W2:=fun j v' _ _ h=>TLab.keep j v' W1 W2 h g2
   have hgl:W.heap.size≤g:=by have:=hj.size;omega
   have hex: ∃g',Value.pointer (some ⟨g,0,none⟩)= .pointer (some ⟨g',0,none⟩)∧W.heap.size≤g'∧VarL W2 g' [.string ⟨#[]⟩, .string ⟨#[]⟩]:=⟨g,rfl,hgl,V2⟩
   go_wp2
   first|exact⟨hex,hkp⟩|exact⟨hex,hj1,hkp⟩|exact⟨_,rfl,hex,hj1,hkp⟩|exact⟨⟨hgl,V2⟩,hkp⟩|exact⟨⟨_,rfl,hgl,V2⟩,hkp⟩
 ·intro u0 W1 L hall hb ht
  have e16:u0 16= .agg #[.string t.s, .string u.s]:=ht 16 (by decide)
  obtain⟨gv,e17,hgv,hvg⟩:=ht 17 (by decide)
  have HBW:=Lh hb
  clear hb ht hall
  simp only[Kj,Jh,Jj,Jk,putAll,Mq,Lq,Lk,Lj,Ly,Lx]
  rw[e16,e17]
  have HVG:=Lh hvg
  have x0:=hvg.c 0 rfl
  have x1:=hvg.c 1 rfl
  have q0:=hvg.q 0 rfl
  have q1:=hvg.q 1 rfl
  obtain⟨W2,hW2⟩: ∃W2,putL gv 0 [.string t.s, .string u.s] W1=W2:=⟨_,rfl⟩
  have HV2:Hid (VarL W2 gv [.string t.s, .string u.s]):=Lh (by rw[←hW2];exact putL_var [.string t.s, .string u.s] [] [.string ⟨#[]⟩, .string ⟨#[]⟩] W1 HVG.out rfl)
  have HB2:Hid (Below W.heap.size W W2):=Lh (by rw[←hW2];exact putL_below _ hgv _ _ HBW.out)
  have HGV:=Lh hgv
  simp only[putL,Ly]at hW2
  have y0:=HV2.out.c 0 rfl
  have HIV:=Lh (HV.out.after HB2.out)
  have HIC:=Lh (HC.out.keep (HB2.out.block mb HC.out.lt))
  have HNA:Hid (Calls Tryz.prog 61 #[.pointer (some ⟨ib,0,none⟩), .string t.s, .int .i64 4] W2 fun e w'=>e= .returned (.tuple #[])∧VarL w' ib (itemL x (.slice (some ⟨wb,wo,none⟩) 2 wc) kv mb t.s)∧Frm (fun i=>i=ib) W2 w'):=Lh (named_yes x t.s 4 n4 W2 ib mb _ kv sec f HIV.out HIC.out HF0.out HFN.out HN4.out)
  clear hvg hgv
  go_wp2_with (go_at_call 61;(with_reducible refine(HNA.out).mono ?_);rintro e w3 ⟨rfl,v3,f3⟩;have HV3:=Lh v3;have HF3:=Lh f3;clear v3 f3)
  have HZ3:Hid (W.heap.size≤w3.heap.size):=Lh (Kz HB2.out.size HF3.out.size)
  have HGB:=Lh (HF3.out.var (HVL.out.after HB2.out) HGI.out)
  have HVG3:=Lh (HF3.out.var HV2.out (fun e=>by have:=HV.out.s;have:=HGV.out;omega))
  have HNV:Hid (∀b,own=some b→b≠gv):=Lh (fun b e e2=>by have:=HLT.out b e;have:=HGV.out;omega)
  have HROW:=Lh ((HRW0.out.below HB2.out).kept (fun b hb=>HF3.out.keep b (by have:=HRW0.out.lt hb;have:=HB2.out.size;omega) (HNI.out b (HOWN.out.symm.trans hb))))
  have HBS:Hid (base≤w3.heap.size):=Lh (Kz HBASE.out HZ3.out)
  have HLT1:Hid (∀b,own=some b→b<w3.heap.size):=Lh (fun b e=>Nat.lt_of_lt_of_le (HLT.out b e) HZ3.out)
  clear y0 hW2
  go_wp2
  refine wp_region_mixj 9 (TApp [.pointer (some ⟨gb,0,none⟩), .pointer (some ⟨gb,0,none⟩), .pointer (some ⟨gb,0,none⟩), .pointer (some ⟨gb,1,none⟩), .pointer (some ⟨gb,7,none⟩), .slice va vs.length vc, .agg #[.string t.s, .string u.s],undef,undef] 7 8 w3.heap.size [.string t.s, .string u.s] 80 2 base vs own) (JApp own 8 w3) (by kernel_rfl) (by kernel_rfl) (JApp.start w3) ?_ ?_
  ·simp only[Kj,Jh]
   refine(Lz ?_ (Lz ?_ (Lz ?_ (Lz ?_ (Lz ?_ (Lz ?_ (Lz ?_ (Lz ?_ (Lz ?_ StepsJ.nil)))))))))
   all_goals(intro u0 W9 L hL hj hd;simp only[putAll,Mq,Lq,Lk,Lj,Ly,Lx])
   ·have hj1:=hj.light 0 (by decide) (Mj _ _)
    go_wp2
    first|exact hj1|exact rfl|exact⟨rfl,hj1⟩|exact⟨rfl,hj1,k4⟩|exact⟨_,rfl,rfl,hj1,k4⟩
   ·have hj1:=hj.light 1 (by decide) (Mj _ _)
    go_wp2
    first|exact hj1|exact rfl|exact⟨rfl,hj1⟩|exact⟨rfl,hj1,k4⟩|exact⟨_,rfl,rfl,hj1,k4⟩
   ·have e1:u0 1= .pointer (some ⟨gb,0,none⟩):=(hd.1 rfl (by decide)).2
    rw[e1]
    have hj1:=hj.light 2 (by decide) (Mj _ _)
    go_wp2
    first|exact hj1|exact rfl|exact⟨rfl,hj1⟩|exact⟨rfl,hj1,k4⟩|exact⟨_,rfl,rfl,hj1,k4⟩
   ·have e2:u0 2= .pointer (some ⟨gb,0,none⟩):=(hd.1 rfl (by decide)).2
    rw[e2]
    have hj1:=hj.light 3 (by decide) (Mj _ _)
    go_wp2
    first|exact hj1|exact rfl|exact⟨rfl,hj1⟩|exact⟨rfl,hj1,k4⟩|exact⟨_,rfl,rfl,hj1,k4⟩
   ·have e3:u0 3= .pointer (some ⟨gb,1,none⟩):=(hd.1 rfl (by decide)).2
    rw[e3]
    have hj1:=hj.light 4 (by decide) (Mj _ _)
    go_wp2
    first|exact hj1|exact rfl|exact⟨rfl,hj1⟩|exact⟨rfl,hj1,k4⟩|exact⟨_,rfl,rfl,hj1,k4⟩
   ·have e4:u0 4= .pointer (some ⟨gb,7,none⟩):=(hd.1 rfl (by decide)).2
    have c0:=(hj.var HGB.out HNS.out).c 7 HL7.out
    rw[e4]
    have hj1:=hj.light 5 (by decide) (Mj _ _)
    go_wp2
    first|exact hj1|exact rfl|exact⟨rfl,hj1⟩|exact⟨rfl,hj1,k4⟩|exact⟨_,rfl,rfl,hj1,k4⟩
   ·have d0:=(hj.var HVG3.out HNV.out).c 0 rfl
    have d1:=(hj.var HVG3.out HNV.out).c 1 rfl
    have hj1:=hj.light 6 (by decide) (Mj _ _)
    go_wp2
    first|exact hj1|exact rfl|exact⟨rfl,hj1⟩|exact⟨rfl,hj1,k4⟩|exact⟨_,rfl,rfl,hj1,k4⟩
   ·have e6:u0 6= .agg #[.string t.s, .string u.s]:=(hd.1 rfl (by decide)).2
    have hsz:=hj.frm.size
    rw[e6]
    have hj1:=hj.light (w':=W9.alloc (.cells ([.string t.s, .string u.s]:List Value).toArray 80)) 7 (by decide) ((Mj _ _).alloc (Mz _) _)
    go_wp2
    have hkp: ∀j v',j<9→L j=true→TApp [.pointer (some ⟨gb,0,none⟩), .pointer (some ⟨gb,0,none⟩), .pointer (some ⟨gb,0,none⟩), .pointer (some ⟨gb,1,none⟩), .pointer (some ⟨gb,7,none⟩), .slice va vs.length vc, .agg #[.string t.s, .string u.s],undef,undef] 7 8 w3.heap.size [.string t.s, .string u.s] 80 2 base vs own j v' W9→TApp [.pointer (some ⟨gb,0,none⟩), .pointer (some ⟨gb,0,none⟩), .pointer (some ⟨gb,0,none⟩), .pointer (some ⟨gb,1,none⟩), .pointer (some ⟨gb,7,none⟩), .slice va vs.length vc, .agg #[.string t.s, .string u.s],undef,undef] 7 8 w3.heap.size [.string t.s, .string u.s] 80 2 base vs own j v' (W9.alloc (.cells ([.string t.s, .string u.s]:List Value).toArray 80)):=fun j v' _ _ h=>TApp.keep j v' h ((Mj _ _).alloc (Mz _) _)
    have hcn: ∃g,Value.slice (some ⟨W9.heap.size,0,none⟩) 1 1= .slice (some ⟨g,0,none⟩) 1 1∧w3.heap.size≤g∧g<(W9.alloc (.cells ([.string t.s, .string u.s]:List Value).toArray 80)).heap.size∧∀j,j<2→(W9.alloc (.cells ([.string t.s, .string u.s]:List Value).toArray 80)).cell? ⟨g,j,none⟩=some (([.string t.s, .string u.s]:List Value).getD j undef):=⟨W9.heap.size,rfl,hsz,by simp,cells_new W9 [.string t.s, .string u.s] 80⟩
    first|exact⟨hcn,hkp⟩|exact⟨hcn,hj1,hkp⟩|exact⟨_,rfl,hcn,hj1,hkp⟩|exact hcn
   ·have e5:u0 5= .slice va vs.length vc:=(hd.1 rfl (by decide)).2
    obtain⟨g,e7,hg1,hg2,hg3⟩:=TApp.kb_ rfl (hd.2.1 rfl (by decide)).2
    have HG3:=Lh hg3
    have HRW:=Lh (hj.row hL HROW.out)
    have HSZ:Hid (base≤W9.heap.size):=Lh (Kz HBS.out hj.frm.size)
    rw[e5,e7]
    go_wp2_with (at_builtin;(refine wp_rowK (T:=51) (t:=80) (sz:=2) rfl _ _ rfl Tryz.underlying51 info_lab rfl (by decide) (by decide) base _ _ rfl HRW.out g [.string t.s, .string u.s] rfl rfl HG3.out HPO.out HLEN.out HSZ.out ?_))
    intro v' w' hr' ho' hob'
    have hj1:=hj.app (own:=own) (by rw[←HOWN.out];exact ho')
    have hnew:v'.ownBlock=own∨∃b,v'.ownBlock=some b∧w3.heap.size≤b:=(by rw[←HOWN.out];exact hob':v'.ownBlock=own∨v'.ownBlock=some W9.heap.size).imp id (fun e=>⟨_,e,hj.frm.size⟩)
    have hkp: ∀j v2,j<9→L j=true→TApp [.pointer (some ⟨gb,0,none⟩), .pointer (some ⟨gb,0,none⟩), .pointer (some ⟨gb,0,none⟩), .pointer (some ⟨gb,1,none⟩), .pointer (some ⟨gb,7,none⟩), .slice va vs.length vc, .agg #[.string t.s, .string u.s],undef,undef] 7 8 w3.heap.size [.string t.s, .string u.s] 80 2 base vs own j v2 W9→TApp [.pointer (some ⟨gb,0,none⟩), .pointer (some ⟨gb,0,none⟩), .pointer (some ⟨gb,0,none⟩), .pointer (some ⟨gb,1,none⟩), .pointer (some ⟨gb,7,none⟩), .slice va vs.length vc, .agg #[.string t.s, .string u.s],undef,undef] 7 8 w3.heap.size [.string t.s, .string u.s] 80 2 base vs own j v2 w':=fun j v2 _ hl h=>TApp.grow (by rw[←HOWN.out];exact ho') HLT1.out hL j v2 hl h
    go_wp2
    first|exact⟨⟨hr',hnew⟩,hkp⟩|exact⟨⟨hr',hnew⟩,hj1,hkp⟩|exact⟨_,rfl,⟨hr',hnew⟩,hj1,hkp⟩|exact⟨hr',hnew⟩|exact⟨v',rfl,⟨hr',hnew⟩,hj1,hkp⟩
  ·intro u0 W9 L hall hj ht
   have e0:u0 0= .pointer (some ⟨gb,0,none⟩):=ht 0 (by decide)
   obtain⟨hrw,how⟩:=TApp.ka_ (by decide) (ht 8 (by decide))
   simp only[Kj,Jh,Jj,Jk,putAll,Mq,Lq,Lk,Lj,Ly,Lx]
   rw[e0]
   have HFR:=Lh hj.end_
   obtain⟨a8,c8,h8⟩:=hrw.size
   rw[List.length_append,List.length_singleton]at h8
   rw[h8]at hrw how ⊢
   have V2:=HFR.out.var HGB.out (fun e=>HNS.out gb e.symm rfl)
   have HVV:=Lh V2
   have HRW:=Lh hrw
   have HHW:=Lh how
   have c0:=V2.c 7 HL7.out
   have q0':=V2.q 7 HL7.out
   clear hrw how V2 hj hall ht h8 x0 x1 q0 q1
   go_wp2
   first|go_end0|refine bodyPost_ret (results_none rfl _ _ _) rfl ?_
   have hI9:=HFR.out.var HV3.out (fun e=>HNI.out ib e.symm rfl)
   have hl7:7<l.length:=(List.getElem?_eq_some_iff.1 HL7.out).1
   refine⟨rfl, .slice a8 (vs.length+1) c8,HVV.out.set 7 _ hl7,HRW.out.kept (fun b hb=>lset_else _ _ _ _ _ (fun e=>?_)),hI9.stay (lset_else _ _ _ _ _ (Ne.symm HGI.out)),?_,?_⟩
   ·rcases HHW.out with h|⟨b2,h,h2⟩
    ·exact HNS.out b (h.symm.trans hb) e
    ·rw[h]at hb;injection hb with hb;have:=HGB.out.s;omega
   ·rw[HOWN.out]
    have h1:Frm (fun i=>i=gb∨i=ib∨some i=own) W W2:=Frm.of HB2.out
    have h2:Frm (fun i=>i=gb∨i=ib∨some i=own) W2 w3:=HF3.out.wider (fun _ e=>Or.inr (Or.inl e))
    exact((h1.trans h2 (Grown.refl _ _)).trans (HFR.out.wider (fun _ e=>Or.inr (Or.inr e))) (Grown.refl _ _)).set (Or.inl rfl) _ _
   ·rw[HOWN.out]
    exact HHW.out.imp id (fun⟨b,h1,h2⟩=>⟨b,h1,Kz HZ3.out h2⟩)
end
end Go.Proofs.YtalcagmhdppdjaaGreatDoor
