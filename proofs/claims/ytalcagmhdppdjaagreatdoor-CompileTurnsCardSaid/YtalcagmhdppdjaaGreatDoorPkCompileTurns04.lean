/-
  Package text's reader of quoted texts: what it holds (its builder lies in a field of its own), and its calls, walked.
-/
import Derived.Test.YtalcagmhdppdjaaGreatDoorPkCompileTurns03
import Derived.Lib.RuneBytes
import Derived.Lib.RuneCount
import Derived.Lib.ValidLaws
import Derived.Laws.IdiomStrings
import Derived.RegionTactic
import Derived.ChangeAlike
set_option maxRecDepth 100000
set_option maxHeartbeats 8000000
namespace Go.Proofs.YtalcagmhdppdjaaGreatDoor
open Lib renaming hid→Lh
open Go.RowKit.Below renaming refl→Mj
open List renaming getD_eq_getElem?_getD→Mk,getElem?_eq_getElem→Kh,length_append→Kq,length_cons→Jq
open World renaming cell?_of_block→Kk
section
open Go.RowKit
def tkAt (t:TkV) (a b:Int):Value:= .agg #[.int .i64 (t.kind:Int), .string (strOfNums t.text), .int .u64 (t.n:Int), .int .i64 a, .int .i64 b]
structure Var5 (W:World) (p:Nat) (x0 x1 x2 x3 x4:Value):Prop where
 c0:W.cell? ⟨p,0,none⟩=some x0
 c1:W.cell? ⟨p,1,none⟩=some x1
 c2:W.cell? ⟨p,2,none⟩=some x2
 c3:W.cell? ⟨p,3,none⟩=some x3
 c4:W.cell? ⟨p,4,none⟩=some x4
 q: ∀i,W.frozen? ⟨p,i,none⟩=false
 s:p<W.heap.size
theorem Var5.fresh (W:World) (x0 x1 x2 x3 x4:Value) (t:TypeId) (p:Nat) (hp:p=W.heap.size):Var5 (W.alloc (.cells #[x0,x1,x2,x3,x4] t)) p x0 x1 x2 x3 x4:=by
 subst hp
 exact⟨by simp,by simp,by simp,by simp,by simp,fun i=>by simp[go_sem],by simp⟩
theorem Var5.stay {W W':World} {p:Nat} {x0 x1 x2 x3 x4:Value} (h:Var5 W p x0 x1 x2 x3 x4) (e:W'.heap[p]?=W.heap[p]?) (hs:W.heap.size≤W'.heap.size):Var5 W' p x0 x1 x2 x3 x4:=
 ⟨(Kk e).trans h.c0,(Kk e).trans h.c1,(Kk e).trans h.c2,(Kk e).trans h.c3,(Kk e).trans h.c4,fun i=>(World.frozen?_of_block e).trans (h.q i),Nat.lt_of_lt_of_le h.s hs⟩
theorem Var5.after {W W':World} {p:Nat} {x0 x1 x2 x3 x4:Value} (h:Var5 W p x0 x1 x2 x3 x4) (hb:Below W.heap.size W W'):Var5 W' p x0 x1 x2 x3 x4:=h.stay (hb.block p h.s) hb.size
def put5 (W:World) (p:Nat) (y0 y1 y2 y3 y4:Value):World:=((((W.setCell ⟨p,0,none⟩ y0).setCell ⟨p,1,none⟩ y1).setCell ⟨p,2,none⟩ y2).setCell ⟨p,3,none⟩ y3).setCell ⟨p,4,none⟩ y4
theorem Var5.put {W:World} {p:Nat} {x0 x1 x2 x3 x4:Value} (h:Var5 W p x0 x1 x2 x3 x4) (y0 y1 y2 y3 y4:Value):Var5 (put5 W p y0 y1 y2 y3 y4) p y0 y1 y2 y3 y4:=by
 obtain⟨c0,c1,c2,c3,c4,q,s⟩:=h
 unfold put5
 refine⟨?_,?_,?_,?_,?_,fun i=>?_,?_⟩<;>simp[go_sem, *]
theorem put5_size (W:World) (p:Nat) (y0 y1 y2 y3 y4:Value):(put5 W p y0 y1 y2 y3 y4).heap.size=W.heap.size:=by
 unfold put5
 simp
theorem below_put5 {B:Nat} {w W:World} (h:Below B w W) {p:Nat} (hp:B≤p) (y0 y1 y2 y3 y4:Value):Below B w (put5 W p y0 y1 y2 y3 y4):=((((h.setCell hp _).setCell hp _).setCell hp _).setCell hp _).setCell hp _
theorem load_tok {W:World} {g:Nat} {x0 x1 x2 x3 x4:Value} (h:Var5 W g x0 x1 x2 x3 x4):(loadVar 78 ⟨g,0,none⟩).run Tryz.prog W= .ok (.agg #[x0,x1,x2,x3,x4]) W:=by
 obtain⟨c0,c1,c2,c3,c4,_,_⟩:=h
 go_simp
def GivesTk (t:TkV) (c:Int) (w:World) (e:Ending) (w':World):Prop:=e= .returned (.tuple #[tkAt t 0 0, .int .i64 c])∧Below w.heap.size w w'
def pointB (Z:List Int) (i:Nat):Bool:=decide (46∈Z.take i)
end
section
open Go.RowKit
def qF:List Int→Nat→Nat
 | [],_=>0
 |r::t,k=>if r=10 then 0 else if r=34 then k+1 else if r=92 then(match t with| []=>0|s::u=>if s=10 then 0 else qF u (k+2))else qF t (k+1)
theorem qF_cons (r:Int) (t:List Int) (k:Nat):qF (r::t) k=if r=10 then 0 else if r=34 then k+1 else if r=92 then(match t with| []=>0|s::u=>if s=10 then 0 else qF u (k+2))else qF t (k+1):=by cases t<;>rfl
theorem sdrop_cons {l:List Int} {i:Nat} (h:i<l.length):l.drop i=l.getD i 0::l.drop (i+1):=by
 rw[List.drop_eq_getElem_cons h,Mk,Kh h]
 rfl
theorem qF_bd: ∀(n:Nat) (l:List Int) (k:Nat),l.length≤n→qF l k=0∨(k<qF l k∧qF l k≤k+l.length)
 |_,[],k,_=>Or.inl (by rw[qF])
 |0,_::_,_,h=>absurd h (by simp)
 |n+1,r::t,k,h=>by
  have hl:t.length≤n:=by simpa using h
  rw[qF_cons]
  split
  ·exact Or.inl rfl
  ·split
   ·exact Or.inr ⟨by omega,by simp⟩
   ·split
    ·cases t with
     |nil=>exact Or.inl rfl
     |cons s u=>
      show(if s=10 then 0 else qF u (k+2))=0∨_<(if s=10 then 0 else qF u (k+2))∧(if s=10 then 0 else qF u (k+2))≤_
      split
      ·exact Or.inl rfl
      ·have:=qF_bd n u (k+2) (by simp at hl;omega)
       simp only[Jq]at*
       omega
    ·have:=qF_bd n t (k+1) hl
     simp only[Jq]
     omega
end
section
open Go.RowKit
def spotStep (p:Int×Int) (z:Int):Int×Int:=if z=10 then(p.1+1,1)else(p.1,p.2+1)
def spotAt (l:List Int) (i:Nat):Int×Int:=(l.take i).foldl spotStep (1,1)
theorem spot_zero (l:List Int):spotAt l 0=(1,1):=rfl
theorem spot_line {l:List Int} {i:Nat} (h:i<l.length) (e:l.getD i 0=10):spotAt l (i+1)=((spotAt l i).1+1,1):=by
 unfold spotAt
 rw[take_snoc h,List.foldl_append]
 exact if_pos e
theorem spot_col {l:List Int} {i:Nat} (h:i<l.length) (e:l.getD i 0≠10):spotAt l (i+1)=((spotAt l i).1,(spotAt l i).2+1):=by
 unfold spotAt
 rw[take_snoc h,List.foldl_append]
 exact if_neg e
theorem spot_bd {l:List Int} : ∀i,i≤l.length→1≤(spotAt l i).1∧(spotAt l i).1≤i+1∧1≤(spotAt l i).2∧(spotAt l i).2≤i+1
 |0,_=>by rw[spot_zero];decide
 |i+1,h=>by
  have ih:=spot_bd (l:=l) i (by omega)
  by_cases e:l.getD i 0=10
  ·rw[spot_line (by omega) e]
   simp only
   omega
  ·rw[spot_col (by omega) e]
   simp only
   omega
def spotV (p:Int×Int):List Value:= [.int .i64 p.1, .int .i64 p.2]
def spotsV (l:List Int) (n:Nat):List (List Value):=(List.range n).map fun i=>spotV (spotAt l i)
theorem sset_else (W:World) (r i:Nat) (x:Value) (j:Nat) (hne:j≠r):(W.setCell ⟨r,i,none⟩ x).heap[j]?=W.heap[j]?:=Below.heap_setCell W ⟨r,i,none⟩ x j hne
theorem Var2.put1 {W:World} {p:Nat} {x y:Value} (k:Var2 W p x y) (y':Value):Var2 (W.setCell ⟨p,1,none⟩ y') p x y':=by
 obtain⟨c0,c1,q0,q1,s⟩:=k
 refine⟨?_,?_,?_,?_,?_⟩<;>simp[go_sem, *]
end
section
open Go.RowKit
def unqF (l:List Int):List Int×Int:=match uf l with
 | .done xs=>if 120<xs.length then([],9)else(xs.flatMap encL,0)
 |_=>([],5)
theorem unq_out {l t:List Int} {c:Int} (h:UnqL l t c):t=(unqF l).1∧c=(unqF l).2:=by
 unfold unqF
 rcases h with⟨h,rfl,rfl⟩|⟨xs,h,h1⟩
 ·split
  ·rename_i xs e
   exact(h xs e).elim
  ·exact⟨rfl,rfl⟩
 ·rw[h]
  rcases h1 with⟨h1,rfl,rfl⟩|⟨h1,rfl,rfl⟩
  ·simp only[if_pos h1,and_self]
  ·simp only[if_neg (show¬120<xs.length by omega),and_self]
def wordEnd (l:List Int) (i:Nat):Nat:=i+((l.drop i).takeWhile withinB).length
theorem wordEnd_bd {l:List Int} {i:Nat} (h:i≤l.length):i≤wordEnd l i∧wordEnd l i≤l.length:=by
 unfold wordEnd
 have:=(List.takeWhile_prefix (l:=l.drop i) withinB).length_le
 rw[List.length_drop]at this
 omega
theorem wordEnd_in {l:List Int} {i:Nat} : ∀k,i+k<wordEnd l i→withinB (l.getD (i+k) 0)=true:=fun k hk=>by
 unfold wordEnd at hk
 have hp:=List.takeWhile_prefix (l:=l.drop i) withinB
 have hk2:k<((l.drop i).takeWhile withinB).length:=by omega
 have e:=hp.getElem hk2
 have hm:((l.drop i).takeWhile withinB)[k]∈(l.drop i).takeWhile withinB:=List.getElem_mem hk2
 have hall:=List.all_takeWhile (l:=l.drop i) (p:=withinB)
 have hw:=List.all_eq_true.mp hall _ hm
 rw[e]at hw
 have hlen:=hp.length_le
 have hkl:k<(l.drop i).length:=by omega
 rw[List.length_drop]at hkl
 rw[List.getElem_drop]at hw
 rw[Mk,Kh (by omega)]
 exact hw
theorem takeWhile_stop {p:Int→Bool} : ∀(m:List Int),(m.takeWhile p).length<m.length→p (m.getD (m.takeWhile p).length 0)=false
 | [],h=>by cases h
 |z::m,h=>by
  cases hz:p z with
  |true=>
   rw[List.takeWhile_cons_of_pos hz]at h ⊢
   simp only[Jq]at h ⊢
   have:=takeWhile_stop (p:=p) m (by omega)
   simpa using this
  |false=>
   rw[List.takeWhile_cons_of_neg (by simp[hz])]
   simpa using hz
theorem wordEnd_out {l:List Int} {i:Nat} (h:wordEnd l i<l.length):withinB (l.getD (wordEnd l i) 0)=false:=by
 unfold wordEnd at h ⊢
 have:=takeWhile_stop (p:=withinB) (l.drop i) (by rw[List.length_drop];omega)
 rw[Mk,List.getElem?_drop]at this
 rw[Mk]
 exact this
theorem wordEnd_one {l:List Int} {i:Nat} (h:i<l.length) (hw:withinB (l.getD i 0)=true):i<wordEnd l i:=by
 unfold wordEnd
 rw[sdrop_cons h,List.takeWhile_cons_of_pos hw,Jq]
 omega
noncomputable def oneF (l:List Int) (i:Nat):TkV×Nat×Int:=
 if l.getD i 0=123 then(⟨7,[],0⟩,i+1,0)
 else if l.getD i 0=125 then(⟨8,[],0⟩,i+1,0)
 else if l.getD i 0=59 then(⟨9,[],0⟩,i+1,0)
 else if l.getD i 0=34 then
  (if qF (l.drop (i+1)) (i+1)=0 then(tk0,0,5)
  else(⟨2,(unqF ((l.take (qF (l.drop (i+1)) (i+1))).drop i)).1,0⟩,qF (l.drop (i+1)) (i+1),(unqF ((l.take (qF (l.drop (i+1)) (i+1))).drop i)).2))
 else if withinB (l.getD i 0)=false then(tk0,0,5)
 else((valF ((l.take (wordEnd l i)).drop i)).1,wordEnd l i,(valF ((l.take (wordEnd l i)).drop i)).2)
def GivesOne (p:TkV×Nat×Int) (w:World) (e:Ending) (w':World):Prop:=e= .returned (.tuple #[tkAt p.1 0 0, .int .i64 (p.2.1:Int), .int .i64 p.2.2])∧Below w.heap.size w w'
theorem put5_else (W:World) (p:Nat) (y0 y1 y2 y3 y4:Value) (j:Nat) (h:j≠p):(put5 W p y0 y1 y2 y3 y4).heap[j]?=W.heap[j]?:=by
 unfold put5
 rw[sset_else _ _ _ _ _ h,sset_else _ _ _ _ _ h,sset_else _ _ _ _ _ h,sset_else _ _ _ _ _ h,sset_else _ _ _ _ _ h]
end
section
open Go.RowKit
def RightT (k:Int) (s:ByteArray) (n:Int):Prop:=
 (k=1∧NameL (runesOf (nums s))∧n=0)∨(k=2∧GoodL (runesOf (nums s))∧(runesOf (nums s)).length≤120∧n=0)∨((k=3∨k=4)∧s=⟨#[]⟩)∨(k=5∧s=⟨#[]⟩∧n≤1000000)∨(k=6∧s=⟨#[]⟩∧n≤253402300799)∨((k=0∨k=7∨k=8∨k=9)∧s=⟨#[]⟩∧n=0)
end
section
theorem decode_wid (s:ByteArray) (pos:Nat) (h:pos<s.size):(Utf8.decode s pos).2=widA (nums s) pos:=by
 rcases decode_rune s pos h with⟨_,h2,h3⟩|⟨_,h3⟩
 ·rw[h3,h2]
 ·rw[h3]
theorem count_runes (s:ByteArray):Lib.runeCount s=(runesOf (nums s)).length:=by
 have key: ∀fuel pos,s.size-pos≤fuel→Lib.runeCountFrom s fuel pos=(rfrom (nums s) pos).length:=by
  intro fuel
  induction fuel with
  |zero=>intro pos h;rw[rfrom_out (by rw[nums_length];omega)];rfl
  |succ n ih=>
   intro pos h
   by_cases hp:pos<s.size
   ·have hw:=widA_pos (nums s) pos
    rw[rfrom_in (by rw[nums_length];exact hp),Jq,←ih (pos+widA (nums s) pos) (by omega)]
    simp only[Lib.runeCountFrom,if_pos hp,decode_wid s pos hp]
    omega
   ·rw[rfrom_out (by rw[nums_length];exact hp),Lib.runeCountFrom_end s _ pos hp];rfl
 exact key s.size 0 (by omega)
theorem good_cons {z:Int} {l:List Int} :GoodL (z::l)↔0≤z∧GoodL l:=by
 constructor
 ·intro h
  exact⟨h 0 (by simp),fun i hi=>h (i+1) (by simpa using hi)⟩
 ·rintro⟨h0,h⟩ i hi
  match i,hi with
  |0,_=>exact h0
  |i+1,hi=>exact h i (by simpa using hi)
theorem good_nil:GoodL []:=fun i hi=>by cases hi
theorem valid_good (s:ByteArray):(Lib.validD s.data.toList=true)↔GoodL (runesOf (nums s)):=by
 have key: ∀n pos,s.size-pos≤n→(Lib.validD (s.data.toList.drop pos)=true↔GoodL (rfrom (nums s) pos)):=by
  intro n
  induction n with
  |zero=>
   intro pos h
   rw[rfrom_out (by rw[nums_length];omega),List.drop_eq_nil_of_le (by rw[Array.length_toList];show s.size≤pos;omega),Lib.validD_nil]
   exact⟨fun _=>good_nil,fun _=>rfl⟩
  |succ n ih=>
   intro pos h
   by_cases hp:pos<s.size
   ·have hw:=widA_pos (nums s) pos
    have hne:s.data.toList.drop pos≠ []:=fun e=>by
     have:=congrArg List.length e
     rw[List.length_drop,Array.length_toList]at this
     have:s.size-pos=0:=this
     omega
    rw[Lib.validD_step _ hne,Lib.decodeL_drop,rfrom_in (by rw[nums_length];exact hp),good_cons]
    rcases decode_rune s pos hp with⟨h1,h2,h3⟩|⟨h1,h3⟩
    ·rw[h3,h1];simp
    ·rw[h3]
     have hnot: ¬((runeA (nums s) pos).toNat=65533∧widA (nums s) pos=1):=by
      rintro⟨ha,hb⟩
      by_cases k0:(nums s).getD pos 0<128
      ·have:=(runeA_low k0).1;omega
      ·cases hq:wholeB (nums s) pos with
       |true=>
        have h5:=(runeA_good k0 hq).2
        have h6:0<clsN ((nums s).getD pos 0):=by
         unfold wholeB at hq
         simp only[Bool.and_eq_true,decide_eq_true_eq]at hq
         exact hq.1.1.1.1
        omega
       |false=>have:=(runeA_bad k0 hq).1;omega
     rw[if_neg hnot,List.drop_drop,ih (pos+widA (nums s) pos) (by omega)]
     exact⟨fun g=>⟨h1,g⟩,fun g=>g.2⟩
   ·rw[rfrom_out (by rw[nums_length];exact hp),List.drop_eq_nil_of_le (by rw[Array.length_toList];show s.size≤pos;omega),Lib.validD_nil]
    exact⟨fun _=>good_nil,fun _=>rfl⟩
 have:=key s.size 0 (by omega)
 rwa [List.drop_zero]at this
theorem good_ok {s:ByteArray} (h:GoodL (runesOf (nums s))): ∀r∈runesOf (nums s),RuneOk r:=(good_back (nums_byte s) (good_mem h)).1
theorem encode_enc {r:Int} (h:RuneOk r):Lib.encodeRuneZ r=encL r:=by
 obtain⟨h0,h1,h2⟩:=h
 unfold encL
 by_cases a:r<128
 ·rw[if_pos a,Lib.encodeRuneZ_one h0 (by omega)]
 ·by_cases b:r<2048
  ·rw[if_neg a,if_pos b,Lib.encodeRuneZ_two (by omega) (by omega)]
  ·by_cases c:r<65536
   ·rw[if_neg a,if_neg b,if_pos c,Lib.encodeRuneZ_three (by omega)]
   ·rw[if_neg a,if_neg b,if_neg c,Lib.encodeRuneZ_four (by omega) h1]
end
section
open Go.RowKit
theorem txt_rune (w:World) (k:Nat) (s:ByteArray) (pos:Nat) (hk:w.heap[k]?=some (.stringIter s pos)) (h:pos<s.size):
  ∃y:Int,(∀ty,(Instr.next (.pointer (some ⟨k,0,none⟩)) true ty).run Tryz.prog w= .ok (.tuple #[.bool true, .int .i64 pos, .int .i32 y]) (w.iterAt k s (pos+widA (nums s) pos)))∧0≤y∧y≤1114111∧
   ((runeA (nums s) pos= -1∧y=65533)∨(0≤runeA (nums s) pos∧y=runeA (nums s) pos)):=by
 have hl:=runeA_le (nums s) pos (by rw[nums_at s pos h];omega)
 rcases decode_rune s pos h with⟨h1,h2,h3⟩|⟨h1,h3⟩
 ·exact⟨65533,fun ty=>by rw[Lib.run_next_any_at w k s pos ty hk h,h3,h2];rfl,by omega,by omega,Or.inl ⟨h1,rfl⟩⟩
 ·exact⟨runeA (nums s) pos,fun ty=>by
   rw[Lib.run_next_any_at w k s pos ty hk h,h3]
   show Result.ok (Value.tuple #[.bool true, .int .i64 pos, .int .i32 (((runeA (nums s) pos).toNat:Nat):Int)]) _=_
   rw[Int.toNat_of_nonneg h1],h1,by omega,Or.inr ⟨h1,rfl⟩⟩
theorem tletter_same (r:Int) (w:World):Calls Tryz.prog 86 #[.int .i32 r] w fun e w'=>e= .returned (.bool (letterB r))∧w=w':=by
 obtain⟨q,hq⟩: ∃q,letterB r=q:=⟨_,rfl⟩
 rw[hq]
 have HQ:=Lh hq
 clear hq
 have hc:r≤64∨(65≤r∧r≤90)∨(91≤r∧r≤96)∨(97≤r∧r≤122)∨(123≤r∧r≤191)∨(192≤r∧r≤214)∨r=215∨(216≤r∧r≤246)∨r=247∨(248≤r∧r≤591)∨(592≤r∧r≤879)∨(880≤r∧r≤1023)∨(1024≤r∧r≤1279)∨1280≤r:=by omega
 rcases hc with h0|⟨h0,h1⟩|⟨h0,h1⟩|⟨h0,h1⟩|⟨h0,h1⟩|⟨h0,h1⟩|rfl|⟨h0,h1⟩|rfl|⟨h0,h1⟩|⟨h0,h1⟩|⟨h0,h1⟩|⟨h0,h1⟩|h0
 ·obtain rfl:q=false:=by rw[←HQ.out];unfold letterB;simp;omega
  have e1:(r==215)=false:=by simp;omega
  have e2:(r==247)=false:=by simp;omega
  have d0:decide (r≥97)=false:=by simp;omega
  have d1:decide (r≤122)=true:=by simp;omega
  have d2:decide (r≥65)=false:=by simp;omega
  have d3:decide (r≤90)=true:=by simp;omega
  have d4:decide (r≥192)=false:=by simp;omega
  have d5:decide (r≤591)=true:=by simp;omega
  have d6:decide (r≥880)=false:=by simp;omega
  have d7:decide (r≤1023)=true:=by simp;omega
  have d8:decide (r≥1024)=false:=by simp;omega
  have d9:decide (r≤1279)=true:=by simp;omega
  clear h0
  go_enter Tryz.func86,Tryz.ntmps86
  go_wp2
  go_ret
  exact⟨rfl,rfl⟩
 ·obtain rfl:q=true:=by rw[←HQ.out];unfold letterB;simp;omega
  have e1:(r==215)=false:=by simp;omega
  have e2:(r==247)=false:=by simp;omega
  have d0:decide (r≥97)=false:=by simp;omega
  have d1:decide (r≤122)=true:=by simp;omega
  have d2:decide (r≥65)=true:=by simp;omega
  have d3:decide (r≤90)=true:=by simp;omega
  have d4:decide (r≥192)=false:=by simp;omega
  have d5:decide (r≤591)=true:=by simp;omega
  have d6:decide (r≥880)=false:=by simp;omega
  have d7:decide (r≤1023)=true:=by simp;omega
  have d8:decide (r≥1024)=false:=by simp;omega
  have d9:decide (r≤1279)=true:=by simp;omega
  clear h0 h1
  go_enter Tryz.func86,Tryz.ntmps86
  go_wp2
  go_ret
  exact⟨rfl,rfl⟩
 ·obtain rfl:q=false:=by rw[←HQ.out];unfold letterB;simp;omega
  have e1:(r==215)=false:=by simp;omega
  have e2:(r==247)=false:=by simp;omega
  have d0:decide (r≥97)=false:=by simp;omega
  have d1:decide (r≤122)=true:=by simp;omega
  have d2:decide (r≥65)=true:=by simp;omega
  have d3:decide (r≤90)=false:=by simp;omega
  have d4:decide (r≥192)=false:=by simp;omega
  have d5:decide (r≤591)=true:=by simp;omega
  have d6:decide (r≥880)=false:=by simp;omega
  have d7:decide (r≤1023)=true:=by simp;omega
  have d8:decide (r≥1024)=false:=by simp;omega
  have d9:decide (r≤1279)=true:=by simp;omega
  clear h0 h1
  go_enter Tryz.func86,Tryz.ntmps86
  go_wp2
  go_ret
  exact⟨rfl,rfl⟩
 ·obtain rfl:q=true:=by rw[←HQ.out];unfold letterB;simp;omega
  have e1:(r==215)=false:=by simp;omega
  have e2:(r==247)=false:=by simp;omega
  have d0:decide (r≥97)=true:=by simp;omega
  have d1:decide (r≤122)=true:=by simp;omega
  have d2:decide (r≥65)=true:=by simp;omega
  have d3:decide (r≤90)=false:=by simp;omega
  have d4:decide (r≥192)=false:=by simp;omega
  have d5:decide (r≤591)=true:=by simp;omega
  have d6:decide (r≥880)=false:=by simp;omega
  have d7:decide (r≤1023)=true:=by simp;omega
  have d8:decide (r≥1024)=false:=by simp;omega
  have d9:decide (r≤1279)=true:=by simp;omega
  clear h0 h1
  go_enter Tryz.func86,Tryz.ntmps86
  go_wp2
  go_ret
  exact⟨rfl,rfl⟩
 ·obtain rfl:q=false:=by rw[←HQ.out];unfold letterB;simp;omega
  have e1:(r==215)=false:=by simp;omega
  have e2:(r==247)=false:=by simp;omega
  have d0:decide (r≥97)=true:=by simp;omega
  have d1:decide (r≤122)=false:=by simp;omega
  have d2:decide (r≥65)=true:=by simp;omega
  have d3:decide (r≤90)=false:=by simp;omega
  have d4:decide (r≥192)=false:=by simp;omega
  have d5:decide (r≤591)=true:=by simp;omega
  have d6:decide (r≥880)=false:=by simp;omega
  have d7:decide (r≤1023)=true:=by simp;omega
  have d8:decide (r≥1024)=false:=by simp;omega
  have d9:decide (r≤1279)=true:=by simp;omega
  clear h0 h1
  go_enter Tryz.func86,Tryz.ntmps86
  go_wp2
  go_ret
  exact⟨rfl,rfl⟩
 ·obtain rfl:q=true:=by rw[←HQ.out];unfold letterB;simp;omega
  have e1:(r==215)=false:=by simp;omega
  have e2:(r==247)=false:=by simp;omega
  have d0:decide (r≥97)=true:=by simp;omega
  have d1:decide (r≤122)=false:=by simp;omega
  have d2:decide (r≥65)=true:=by simp;omega
  have d3:decide (r≤90)=false:=by simp;omega
  have d4:decide (r≥192)=true:=by simp;omega
  have d5:decide (r≤591)=true:=by simp;omega
  have d6:decide (r≥880)=false:=by simp;omega
  have d7:decide (r≤1023)=true:=by simp;omega
  have d8:decide (r≥1024)=false:=by simp;omega
  have d9:decide (r≤1279)=true:=by simp;omega
  clear h0 h1
  go_enter Tryz.func86,Tryz.ntmps86
  go_wp2
  go_ret
  exact⟨rfl,rfl⟩
 ·obtain rfl:q=false:=by rw[←HQ.out];decide
  go_enter Tryz.func86,Tryz.ntmps86
  go_wp2
  go_ret
  exact⟨rfl,rfl⟩
 ·obtain rfl:q=true:=by rw[←HQ.out];unfold letterB;simp;omega
  have e1:(r==215)=false:=by simp;omega
  have e2:(r==247)=false:=by simp;omega
  have d0:decide (r≥97)=true:=by simp;omega
  have d1:decide (r≤122)=false:=by simp;omega
  have d2:decide (r≥65)=true:=by simp;omega
  have d3:decide (r≤90)=false:=by simp;omega
  have d4:decide (r≥192)=true:=by simp;omega
  have d5:decide (r≤591)=true:=by simp;omega
  have d6:decide (r≥880)=false:=by simp;omega
  have d7:decide (r≤1023)=true:=by simp;omega
  have d8:decide (r≥1024)=false:=by simp;omega
  have d9:decide (r≤1279)=true:=by simp;omega
  clear h0 h1
  go_enter Tryz.func86,Tryz.ntmps86
  go_wp2
  go_ret
  exact⟨rfl,rfl⟩
 ·obtain rfl:q=false:=by rw[←HQ.out];decide
  go_enter Tryz.func86,Tryz.ntmps86
  go_wp2
  go_ret
  exact⟨rfl,rfl⟩
 ·obtain rfl:q=true:=by rw[←HQ.out];unfold letterB;simp;omega
  have e1:(r==215)=false:=by simp;omega
  have e2:(r==247)=false:=by simp;omega
  have d0:decide (r≥97)=true:=by simp;omega
  have d1:decide (r≤122)=false:=by simp;omega
  have d2:decide (r≥65)=true:=by simp;omega
  have d3:decide (r≤90)=false:=by simp;omega
  have d4:decide (r≥192)=true:=by simp;omega
  have d5:decide (r≤591)=true:=by simp;omega
  have d6:decide (r≥880)=false:=by simp;omega
  have d7:decide (r≤1023)=true:=by simp;omega
  have d8:decide (r≥1024)=false:=by simp;omega
  have d9:decide (r≤1279)=true:=by simp;omega
  clear h0 h1
  go_enter Tryz.func86,Tryz.ntmps86
  go_wp2
  go_ret
  exact⟨rfl,rfl⟩
 ·obtain rfl:q=false:=by rw[←HQ.out];unfold letterB;simp;omega
  have e1:(r==215)=false:=by simp;omega
  have e2:(r==247)=false:=by simp;omega
  have d0:decide (r≥97)=true:=by simp;omega
  have d1:decide (r≤122)=false:=by simp;omega
  have d2:decide (r≥65)=true:=by simp;omega
  have d3:decide (r≤90)=false:=by simp;omega
  have d4:decide (r≥192)=true:=by simp;omega
  have d5:decide (r≤591)=false:=by simp;omega
  have d6:decide (r≥880)=false:=by simp;omega
  have d7:decide (r≤1023)=true:=by simp;omega
  have d8:decide (r≥1024)=false:=by simp;omega
  have d9:decide (r≤1279)=true:=by simp;omega
  clear h0 h1
  go_enter Tryz.func86,Tryz.ntmps86
  go_wp2
  go_ret
  exact⟨rfl,rfl⟩
 ·obtain rfl:q=true:=by rw[←HQ.out];unfold letterB;simp;omega
  have e1:(r==215)=false:=by simp;omega
  have e2:(r==247)=false:=by simp;omega
  have d0:decide (r≥97)=true:=by simp;omega
  have d1:decide (r≤122)=false:=by simp;omega
  have d2:decide (r≥65)=true:=by simp;omega
  have d3:decide (r≤90)=false:=by simp;omega
  have d4:decide (r≥192)=true:=by simp;omega
  have d5:decide (r≤591)=false:=by simp;omega
  have d6:decide (r≥880)=true:=by simp;omega
  have d7:decide (r≤1023)=true:=by simp;omega
  have d8:decide (r≥1024)=false:=by simp;omega
  have d9:decide (r≤1279)=true:=by simp;omega
  clear h0 h1
  go_enter Tryz.func86,Tryz.ntmps86
  go_wp2
  go_ret
  exact⟨rfl,rfl⟩
 ·obtain rfl:q=true:=by rw[←HQ.out];unfold letterB;simp;omega
  have e1:(r==215)=false:=by simp;omega
  have e2:(r==247)=false:=by simp;omega
  have d0:decide (r≥97)=true:=by simp;omega
  have d1:decide (r≤122)=false:=by simp;omega
  have d2:decide (r≥65)=true:=by simp;omega
  have d3:decide (r≤90)=false:=by simp;omega
  have d4:decide (r≥192)=true:=by simp;omega
  have d5:decide (r≤591)=false:=by simp;omega
  have d6:decide (r≥880)=true:=by simp;omega
  have d7:decide (r≤1023)=false:=by simp;omega
  have d8:decide (r≥1024)=true:=by simp;omega
  have d9:decide (r≤1279)=true:=by simp;omega
  clear h0 h1
  go_enter Tryz.func86,Tryz.ntmps86
  go_wp2
  go_ret
  exact⟨rfl,rfl⟩
 ·obtain rfl:q=false:=by rw[←HQ.out];unfold letterB;simp;omega
  have e1:(r==215)=false:=by simp;omega
  have e2:(r==247)=false:=by simp;omega
  have d0:decide (r≥97)=true:=by simp;omega
  have d1:decide (r≤122)=false:=by simp;omega
  have d2:decide (r≥65)=true:=by simp;omega
  have d3:decide (r≤90)=false:=by simp;omega
  have d4:decide (r≥192)=true:=by simp;omega
  have d5:decide (r≤591)=false:=by simp;omega
  have d6:decide (r≥880)=true:=by simp;omega
  have d7:decide (r≤1023)=false:=by simp;omega
  have d8:decide (r≥1024)=true:=by simp;omega
  have d9:decide (r≤1279)=false:=by simp;omega
  clear h0
  go_enter Tryz.func86,Tryz.ntmps86
  go_wp2
  go_ret
  exact⟨rfl,rfl⟩
theorem tletter_at {r:Int} {q:Bool} (h:letterB r=q) (w:World):Calls Tryz.prog 86 #[.int .i32 r] w fun e w'=>e= .returned (.bool q)∧w=w':=by
 subst h;exact tletter_same r w
def endB (r:Int):Bool:=letterB r||digitB r
def midB (r:Int):Bool:=endB r||(decide (r=95)||decide (r=45))
theorem tend_is {r:Int} {q:Bool} (h:endB r=q) (w:World):Calls Tryz.prog 87 #[.int .i32 r] w fun e w'=>e= .returned (.bool q)∧w=w':=by
 obtain⟨a,ha⟩: ∃a,letterB r=a:=⟨_,rfl⟩
 have RL:=Lh (fun w=>tletter_at ha w)
 have HQ:Hid ((a||digitB r)=q):=by rw[←h,←ha];rfl
 clear h ha
 cases a with
 |true=>
  obtain rfl:q=true:=by rw[←HQ.out];rfl
  go_enter Tryz.func87,Tryz.ntmps87
  go_wp2_with (go_at_call 86;(with_reducible refine(RL.out _).mono ?_);rintro e w2 ⟨rfl,rfl⟩)
  go_ret
  exact⟨rfl,rfl⟩
 |false=>
  by_cases h1:48≤r
  ·by_cases h2:r≤57
   ·obtain rfl:q=true:=by rw[←HQ.out];unfold digitB;simp[h1,h2]
    go_enter Tryz.func87,Tryz.ntmps87
    go_wp2_with (go_at_call 86;(with_reducible refine(RL.out _).mono ?_);rintro e w2 ⟨rfl,rfl⟩)
    go_ret
    exact⟨rfl,rfl⟩
   ·obtain rfl:q=false:=by rw[←HQ.out];unfold digitB;simp[h2]
    have d1:decide (r≤57)=false:=by simp;omega
    go_enter Tryz.func87,Tryz.ntmps87
    go_wp2_with (go_at_call 86;(with_reducible refine(RL.out _).mono ?_);rintro e w2 ⟨rfl,rfl⟩)
    go_ret
    exact⟨rfl,rfl⟩
  ·obtain rfl:q=false:=by rw[←HQ.out];unfold digitB;simp[h1]
   have d1:decide (r≥48)=false:=by simp;omega
   go_enter Tryz.func87,Tryz.ntmps87
   go_wp2_with (go_at_call 86;(with_reducible refine(RL.out _).mono ?_);rintro e w2 ⟨rfl,rfl⟩)
   go_ret
   exact⟨rfl,rfl⟩
def plainB (r:Int):Bool:=decide (32≤r)&&decide (r≠127)&&decide (r≠34)&&decide (r≠92)
theorem tplain_is {r:Int} {q:Bool} (h:plainB r=q) (w:World):Calls Tryz.prog 163 #[.int .i32 r] w fun e w'=>e= .returned (.bool q)∧w=w':=by
 by_cases h1:32≤r
 ·by_cases h2:r=127
  ·subst h2
   obtain rfl:q=false:=by rw[←h];decide
   go_enter Tryz.func163,Tryz.ntmps163
   go_wp2
   go_ret
   exact⟨rfl,rfl⟩
  ·by_cases h3:r=34
   ·subst h3
    obtain rfl:q=false:=by rw[←h];decide
    go_enter Tryz.func163,Tryz.ntmps163
    go_wp2
    go_ret
    exact⟨rfl,rfl⟩
   ·by_cases h4:r=92
    ·subst h4
     obtain rfl:q=false:=by rw[←h];decide
     go_enter Tryz.func163,Tryz.ntmps163
     go_wp2
     go_ret
     exact⟨rfl,rfl⟩
    ·obtain rfl:q=true:=by rw[←h];unfold plainB;simp[h1,h2,h3,h4]
     have e2:(r !=127)=true:=by simpa using h2
     have e3:(r !=34)=true:=by simpa using h3
     have e4:(r !=92)=true:=by simpa using h4
     clear h
     go_enter Tryz.func163,Tryz.ntmps163
     go_wp2
     go_ret
     exact⟨rfl,rfl⟩
 ·obtain rfl:q=false:=by rw[←h];unfold plainB;simp[h1]
  have d1:decide (r≥32)=false:=by simp;omega
  clear h
  go_enter Tryz.func163,Tryz.ntmps163
  go_wp2
  go_ret
  exact⟨rfl,rfl⟩
structure NmC (l:List Int) (i:Nat) (y:Int):Prop where
 le:i≤l.length
 head:0<i→letterB (l.getD 0 0)=true
 all: ∀j,j<i→midB (l.getD j 0)=true
 last:endB y=(decide (0<i)&&endB (l.getD (i-1) 0))
theorem NmC.start (l:List Int):NmC l 0 0:=⟨Nat.zero_le _,fun h=>by omega,fun j h=>by omega,rfl⟩
theorem told_same {z y:Int} (h:(z= -1∧y=65533)∨(0≤z∧y=z)):letterB z=letterB y∧endB z=endB y∧midB z=midB y:=by
 rcases h with⟨rfl,rfl⟩|⟨_,rfl⟩
 ·exact⟨by decide,by decide,by decide⟩
 ·exact⟨rfl,rfl,rfl⟩
theorem NmC.next {l:List Int} {i:Nat} {y0 y z:Int} (h:NmC l i y0) (hi:i<l.length) (hz:l.getD i 0=z) (ht:(z= -1∧y=65533)∨(0≤z∧y=z)) (h0:i=0→letterB y=true) (hm:midB y=true):NmC l (i+1) y:=by
 obtain⟨e1,e2,e3⟩:=told_same ht
 refine⟨by omega,fun _=>?_,fun j hj=>?_,?_⟩
 ·by_cases k:i=0
  ·subst k;rw[hz,e1];exact h0 rfl
  ·exact h.head (by omega)
 ·by_cases k:j=i
  ·subst k;rw[hz,e3];exact hm
  ·exact h.all j (by omega)
 ·rw[show i+1-1=i by omega,hz,e2,decide_eq_true (show 0<i+1 by omega),Bool.true_and]
theorem NmC.no {l:List Int} {i:Nat} {y z:Int} (hi:i<l.length) (hz:l.getD i 0=z) (ht:(z= -1∧y=65533)∨(0≤z∧y=z)) (hm:midB y=false): ¬NameL l:=fun g=>by
 have:=g.2.2.2 i hi
 obtain⟨e1,e2,e3⟩:=told_same ht
 rw[←e3]at hm
 unfold nameOk at this
 rw[hz]at this
 unfold midB endB at hm
 simp only[Bool.or_eq_false_iff]at hm
 rw[hm.1.1,hm.1.2,hm.2.1,hm.2.2]at this
 simp at this
theorem NmC.first {l:List Int} {y z:Int} (hz:l.getD 0 0=z) (ht:(z= -1∧y=65533)∨(0≤z∧y=z)) (hm:letterB y=false): ¬NameL l:=fun g=>by
 have:=g.2.2.1
 rw[hz,(told_same ht).1,hm]at this
 cases this
theorem NmC.done {l:List Int} {i:Nat} {y:Int} (h:NmC l i y) (hi:i=l.length) (h24:i≤24):endB y=true↔NameL l:=by
 rw[h.last]
 constructor
 ·intro e
  simp only[Bool.and_eq_true,decide_eq_true_eq]at e
  refine⟨by omega,by omega,h.head e.1,fun j hj=>?_⟩
  have hm:=h.all j (by omega)
  by_cases k:j=i-1
  ·rw[k]
   have:=e.2
   unfold endB at this
   unfold nameOk
   rw[this];rfl
  ·unfold midB endB at hm
   unfold nameOk
   rw[decide_eq_true (show j+1≠l.length by omega)]
   exact hm
 ·rintro⟨a,b,c,d⟩
  have:=d (i-1) (by omega)
  unfold nameOk at this
  rw[decide_eq_false (show¬(i-1+1≠l.length) by omega),Bool.false_and,Bool.or_false]at this
  unfold endB
  rw[this,decide_eq_true (show 0<i by omega)];rfl
theorem drop_cons {l:List Int} {i:Nat} {z:Int} {r:List Int} (h:l.drop i=z::r):i<l.length∧l.getD i 0=z∧l.drop (i+1)=r:=by
 have hi:i<l.length:=by
  have:=congrArg List.length h
  rw[List.length_drop,Jq]at this
  omega
 rw[List.drop_eq_getElem_cons hi]at h
 injection h with h1 h2
 exact⟨hi,by rw[Mk,Kh hi];exact h1,h2⟩
theorem tname_plain (s:ByteArray) (w:World) (_hm:s.size≤4294967296):Calls Tryz.prog 53 #[.string s] w (GivesQ (NameL (runesOf (nums s))) w):=by
 have hlen:Hid ((nums s).length=s.size):=nums_length s
 obtain⟨l,hl⟩: ∃l,runesOf (nums s)=l:=⟨_,rfl⟩
 rw[hl]
 have HL:=Lh hl
 clear hl
 go_enter Tryz.func53,Tryz.ntmps53
 go_wp2
 obtain⟨I,hI⟩: ∃I,w.heap.size=I:=⟨_,rfl⟩
 rw[hI]
 have HI:=Lh hI
 have hit0:(w.iter s 0).heap[I]?=some (.stringIter s 0):=by rw[←hI];exact World.iter_heap w s 0
 have hb0:Below I w (w.iter s 0):=by rw[←hI];exact(Mj _ _).alloc (Nat.le_refl _) _
 generalize w.iter s 0=w0 at hit0 hb0 ⊢
 clear hI
 replace hit0:=Lh hit0
 replace hb0:=Lh hb0
 go_loopw [3,4] (fun v3 v4 wr=> ∃(pos i:Nat) (y:Int),v3= .int .i64 (i:Int)∧v4= .int .i32 y∧i≤24∧pos≤s.size∧rfrom (nums s) pos=l.drop i∧NmC l i y∧wr.heap[I]?=some (.stringIter s pos)∧Below I w wr) (fun _ _ wr=>s.size-wr.iterPos I)
 case atStart=>exact⟨0,0,0,rfl,rfl,by omega,by omega,HL.out,NmC.start l,hit0.out,hb0.out⟩
 case round=>
  obtain⟨pos,i,y0,rfl,rfl,h24,hp,hr,hC,hk,hb⟩:=hrel
  have HC:=Lh hC
  have HR:=Lh hr
  have HB0:=Lh hb
  clear hC hr hb
  by_cases h1:pos<s.size
  ·obtain⟨y,hnx,y0',y1,ht⟩:=txt_rune wr I s pos hk h1
   have hR:rfrom (nums s) pos=runeA (nums s) pos::rfrom (nums s) (pos+widA (nums s) pos):=rfrom_in (by rw[hlen.out];exact h1)
   obtain⟨hi0,hz,hr2⟩:=drop_cons (HR.out.symm.trans hR)
   have HT:=Lh ht
   have HZ:=Lh hz
   have HR2:=Lh hr2.symm
   have hwid:=Lh (widA_pos (nums s) pos)
   have hwin:=Lh (widA_in (zs:=nums s) (i:=pos) (by rw[hlen.out];exact h1))
   have HB:=Lh (Lib.below_iterAt HB0.out (Nat.le_refl I) s (pos+widA (nums s) pos))
   have hk2:=Lh (Lib.iterAt_heap wr I s pos (pos+widA (nums s) pos) hk)
   have hk0:=Lh hk
   have hi:Hid (i<l.length):=hi0
   clear ht hz hr2 hR hi0 hk
   obtain⟨p2,hp2⟩: ∃p,pos+widA (nums s) pos=p:=⟨_,rfl⟩
   rw[hp2]at hnx HB hk2 HR2 hwin
   have hlt:Hid (pos<p2):=by have:=hwid.out;unfold Hid;omega
   have hle:Hid (p2≤s.size):=by have:=hwin.out;rw[hlen.out]at this;exact this
   clear hp2 hwid hwin
   generalize wr.iterAt I s p2=W1 at hnx HB hk2
   obtain⟨q,hq⟩: ∃q,letterB y=q:=⟨_,rfl⟩
   obtain⟨qe,hqe⟩: ∃q,endB y=q:=⟨_,rfl⟩
   have RL:=Lh (fun w=>tletter_at hq w)
   have RE:=Lh (fun w=>tend_is hqe w)
   have HQ:=Lh hq
   have HE:=Lh hqe
   clear hq hqe
   by_cases h25:i=24
   ·have hbad:Hid (¬NameL l):=fun g=>by have h5:l.length≤24:=g.2.1;have:=hi.out;omega
    subst h25
    go_wp2_with (first
     |(go_at_call 86;(with_reducible refine(RL.out _).mono ?_);rintro e w2 ⟨rfl,rfl⟩)
     |(go_at_call 87;(with_reducible refine(RE.out _).mono ?_);rintro e w2 ⟨rfl,rfl⟩))
    go_ret
    exact GivesQ.no hbad.out (HI.out▸HB.out)
   ·by_cases h0:i=0
    ·subst h0
     cases q with
     |false=>
      have hbad:=Lh (NmC.first HZ.out HT.out HQ.out)
      go_wp2_with (first
       |(go_at_call 86;(with_reducible refine(RL.out _).mono ?_);rintro e w2 ⟨rfl,rfl⟩)
       |(go_at_call 87;(with_reducible refine(RE.out _).mono ?_);rintro e w2 ⟨rfl,rfl⟩))
      go_ret
      exact GivesQ.no hbad.out (HI.out▸HB.out)
     |true=>
      obtain rfl:qe=true:=by rw[←HE.out];unfold endB;rw[HQ.out];rfl
      have hm:Hid (midB y=true):=by unfold Hid midB;rw[HE.out];rfl
      have hn:=Lh (HC.out.next hi.out HZ.out HT.out (fun _=>HQ.out) hm.out)
      go_wp2_with (first
       |(go_at_call 86;(with_reducible refine(RL.out _).mono ?_);rintro e w2 ⟨rfl,rfl⟩)
       |(go_at_call 87;(with_reducible refine(RE.out _).mono ?_);rintro e w2 ⟨rfl,rfl⟩))
      go_round
      case rel=>exact⟨p2,0+1,y,by go_num,rfl,by omega,hle.out,HR2.out,hn.out,hk2.out,HB.out⟩
      case measure=>rw[iterPos_of hk2.out,iterPos_of hk0.out];have:=hlt.out;have:=hle.out;omega
    ·have d0:((i:Int)+1==1)=false:=by simp;omega
     have h0n:Hid (i=0→letterB y=true):=fun e=>(h0 e).elim
     cases qe with
     |true=>
      have hm:Hid (midB y=true):=by unfold Hid midB;rw[HE.out];rfl
      have hn:=Lh (HC.out.next hi.out HZ.out HT.out h0n.out hm.out)
      go_wp2_with (first
       |(go_at_call 86;(with_reducible refine(RL.out _).mono ?_);rintro e w2 ⟨rfl,rfl⟩)
       |(go_at_call 87;(with_reducible refine(RE.out _).mono ?_);rintro e w2 ⟨rfl,rfl⟩))
      go_round
      case rel=>exact⟨p2,i+1,y,by go_num,rfl,by omega,hle.out,HR2.out,hn.out,hk2.out,HB.out⟩
      case measure=>rw[iterPos_of hk2.out,iterPos_of hk0.out];have:=hlt.out;have:=hle.out;omega
     |false=>
      by_cases c95:y=95
      ·subst c95
       have hm:Hid (midB 95=true):=(by decide:midB 95=true)
       have hn:=Lh (HC.out.next hi.out HZ.out HT.out h0n.out hm.out)
       go_wp2_with (first
        |(go_at_call 86;(with_reducible refine(RL.out _).mono ?_);rintro e w2 ⟨rfl,rfl⟩)
        |(go_at_call 87;(with_reducible refine(RE.out _).mono ?_);rintro e w2 ⟨rfl,rfl⟩))
       go_round
       case rel=>exact⟨p2,i+1,95,by go_num,rfl,by omega,hle.out,HR2.out,hn.out,hk2.out,HB.out⟩
       case measure=>rw[iterPos_of hk2.out,iterPos_of hk0.out];have:=hlt.out;have:=hle.out;omega
      ·have e95:(y !=95)=true:=by simpa using c95
       by_cases c45:y=45
       ·subst c45
        have hm:Hid (midB 45=true):=(by decide:midB 45=true)
        have hn:=Lh (HC.out.next hi.out HZ.out HT.out h0n.out hm.out)
        go_wp2_with (first
         |(go_at_call 86;(with_reducible refine(RL.out _).mono ?_);rintro e w2 ⟨rfl,rfl⟩)
         |(go_at_call 87;(with_reducible refine(RE.out _).mono ?_);rintro e w2 ⟨rfl,rfl⟩))
        go_round
        case rel=>exact⟨p2,i+1,45,by go_num,rfl,by omega,hle.out,HR2.out,hn.out,hk2.out,HB.out⟩
        case measure=>rw[iterPos_of hk2.out,iterPos_of hk0.out];have:=hlt.out;have:=hle.out;omega
       ·have e45:(y !=45)=true:=by simpa using c45
        have hm:Hid (midB y=false):=by unfold Hid midB;rw[HE.out];simp[c95,c45]
        have hbad:=Lh (NmC.no hi.out HZ.out HT.out hm.out)
        go_wp2_with (first
         |(go_at_call 86;(with_reducible refine(RL.out _).mono ?_);rintro e w2 ⟨rfl,rfl⟩)
         |(go_at_call 87;(with_reducible refine(RE.out _).mono ?_);rintro e w2 ⟨rfl,rfl⟩))
        go_ret
        exact GivesQ.no hbad.out (HI.out▸HB.out)
  ·have hend:i=l.length:=by
    have h5:=HR.out
    rw[rfrom_out (by rw[hlen.out];exact h1)]at h5
    have h6:=congrArg List.length h5
    rw[List.length_drop]at h6
    have h7:=HC.out.le
    simp at h6;omega
   have hnx:=fun ty=>Lib.run_next_end_at (P:=Tryz.prog) wr I s pos ty hk h1
   obtain⟨qe,hqe⟩: ∃q,endB y0=q:=⟨_,rfl⟩
   have RE:=Lh (fun w=>tend_is hqe w)
   have hD:=Lh (HC.out.done hend h24)
   have HE:=Lh hqe
   clear hqe hend
   go_wp2_with (go_at_call 87;(with_reducible refine(RE.out _).mono ?_);rintro e w2 ⟨rfl,rfl⟩)
   go_ret
   exact⟨qe,rfl,by rw[←HE.out];exact hD.out,HI.out▸HB0.out⟩
end
section
open Go.RowKit
theorem tgood_any (s:ByteArray) (w:World) (env:Env w) (_hm:s.size≤4294967296):Calls Tryz.prog 119 #[.string s] w (GivesQ (GoodL (runesOf (nums s))) w):=by
 have R:=Lh (Tryz.utf8_ValidString s w (by omega) env.utf)
 have V:=Lh (valid_good s)
 generalize Lib.validD s.data.toList=q at R V
 go_enter Tryz.func119,Tryz.ntmps119
 go_wp2_with (go_at_call 138;(with_reducible refine R.out.mono ?_);rintro e w1 ⟨rfl,hb⟩;have HB:=Lh hb;clear hb)
 go_ret
 exact⟨q,rfl,V.out,HB.out⟩
theorem tgood_yes {s:ByteArray} {w:World} (env:Env w) (hm:s.size≤4294967296) (h:GoodL (runesOf (nums s))):Calls Tryz.prog 119 #[.string s] w fun e w'=>e= .returned (.bool true)∧Below w.heap.size w w':=by
 refine(tgood_any s w env hm).mono ?_
 rintro e w' ⟨q,rfl,hq,hb⟩
 rw[hq.mpr h]
 exact⟨rfl,hb⟩
theorem tgood_no {s:ByteArray} {w:World} (env:Env w) (hm:s.size≤4294967296) (h: ¬GoodL (runesOf (nums s))):Calls Tryz.prog 119 #[.string s] w fun e w'=>e= .returned (.bool false)∧Below w.heap.size w w':=by
 refine(tgood_any s w env hm).mono ?_
 rintro e w' ⟨q,rfl,hq,hb⟩
 cases q with
 |false=>exact⟨rfl,hb⟩
 |true=>exact(h (hq.mp rfl)).elim
theorem tcount_big (s:ByteArray) (w:World) (_hm:s.size≤1099511627776):Calls Tryz.prog 120 #[.string s] w fun e w'=>e= .returned (.int .i64 (runesOf (nums s)).length)∧Below w.heap.size w w':=by
 have R:=Lh (Tryz.utf8_RuneCountInString s w (by omega))
 rw[count_runes]at R
 generalize (runesOf (nums s)).length=n at R ⊢
 go_enter Tryz.func120,Tryz.ntmps120
 go_wp2_with (go_at_call 139;(with_reducible refine R.out.mono ?_);rintro e w1 ⟨rfl,p,hb⟩;have HB:=Lh hb;clear hb)
 go_ret
 refine⟨rfl,?_⟩
 rw[HB.out]
 exact(Mj _ _).alloc (Nat.le_refl _) _
structure FoM (w wr:World) (zs:List Int) (b i:Nat):Prop where
 new:w.heap.size≤b
 bel:Below w.heap.size w wr
 lo: ∀j,j<zs.length→j<i→wr.cell? ⟨b,j,none⟩=some (.int .u8 (foldB (zs.getD j 0)))
 hi: ∀j,j<zs.length→i≤j→wr.cell? ⟨b,j,none⟩=some (.int .u8 (zs.getD j 0))
 free: ∀j,j<zs.length→wr.frozen? ⟨b,j,none⟩=false
end
section
open Go.RowKit
def u8s (zs:List Int):List Value:=zs.map fun z=> .int .u8 z
theorem u8s_len (zs:List Int):(u8s zs).length=zs.length:=by simp[u8s]
theorem u8s_append (a b:List Int):u8s (a++b)=u8s a++u8s b:=by simp[u8s]
theorem str_size (zs:List Int):(strOfNums zs).size=zs.length:=strOfNums_size zs
abbrev BldF (B b:Nat) (xs:List Value) (w:World):Prop:=Lib.IsBuilderF 188 5 B b xs w
end
section
open Go.RowKit
structure RdF (B b:Nat) (a n d:Int) (zs:List Int) (w:World):Prop where
 hB:B≤b
 ex: ∃p v,(p= .pointer none∨p= .pointer (some ⟨b,1,none⟩))∧w.heap[b]?=some (.cells #[.int .i64 a,p,v, .int .i32 n, .int .i64 d] 190 (0,0))∧
  w.ownsRowF B 5 1 v zs.length (u8s zs)∧v.ownBlock≠some b∧(zs= []→v= .slice none 0 0)
def KF (B b:Nat) (w w':World):Prop:=Below B w w'∧Lib.OthersKept 5 (some b) w w'
theorem KF.refl (B b:Nat) (w:World):KF B b w w:=⟨Mj _ _,Lib.OthersKept.refl _ _ _⟩
theorem KF.put {B b:Nat} {w w1:World} (h:KF B b w w1) (hB:B≤b) (o:Nat) (v:Value):KF B b w (w1.setCell ⟨b,o,none⟩ v):=⟨h.1.setCell hB _,h.2.setCell ⟨b,o,none⟩ rfl _⟩
theorem RdF.lt {B b:Nat} {a n d:Int} {zs:List Int} {w:World} (h:RdF B b a n d zs w):b<w.heap.size:=by
 obtain⟨_,p,v,_,hb,_⟩:=h
 exact(Array.getElem?_eq_some_iff.1 hb).1
theorem RdF.cells {B b:Nat} {a n d:Int} {zs:List Int} {w:World} (h:RdF B b a n d zs w):
  w.cell? ⟨b,0,none⟩=some (.int .i64 a)∧w.cell? ⟨b,3,none⟩=some (.int .i32 n)∧w.cell? ⟨b,4,none⟩=some (.int .i64 d)∧(∀o,w.frozen? ⟨b,o,none⟩=false):=by
 obtain⟨_,p,v,_,hb,_⟩:=h
 exact⟨by rw[Lib.cell_of_heap hb];rfl,by rw[Lib.cell_of_heap hb];rfl,by rw[Lib.cell_of_heap hb];rfl,fun o=>Lib.frozen_of_heap hb o⟩
theorem own_put {w:World} {B b:Nat} {v:Value} {n:Nat} {xs:List Value} (h:w.ownsRowF B 5 1 v n xs) (hne:v.ownBlock≠some b) (o:Nat) (x:Value):(w.setCell ⟨b,o,none⟩ x).ownsRowF B 5 1 v n xs:=
 h.kept (row:=some b) ⟨rfl,rfl,rfl,by simp[World.setCell],fun k _ hk=>Below.heap_setCell _ _ _ _ (fun e=>hk (by simp[e]))⟩ (Or.inr hne)
theorem RdF.put0 {B b:Nat} {a n d:Int} {zs:List Int} {w:World} (h:RdF B b a n d zs w) (a':Int):RdF B b a' n d zs (w.setCell ⟨b,0,none⟩ (.int .i64 a')):=by
 obtain⟨hB,p,v,hp,hb,ho,hn,h0⟩:=h
 exact⟨hB,p,v,hp,by simp[World.setCell,Array.getElem?_modify,hb],own_put ho hn _ _,hn,h0⟩
theorem RdF.put3 {B b:Nat} {a n d:Int} {zs:List Int} {w:World} (h:RdF B b a n d zs w) (n':Int):RdF B b a n' d zs (w.setCell ⟨b,3,none⟩ (.int .i32 n')):=by
 obtain⟨hB,p,v,hp,hb,ho,hn,h0⟩:=h
 exact⟨hB,p,v,hp,by simp[World.setCell,Array.getElem?_modify,hb],own_put ho hn _ _,hn,h0⟩
theorem RdF.put4 {B b:Nat} {a n d:Int} {zs:List Int} {w:World} (h:RdF B b a n d zs w) (d':Int):RdF B b a n d' zs (w.setCell ⟨b,4,none⟩ (.int .i64 d')):=by
 obtain⟨hB,p,v,hp,hb,ho,hn,h0⟩:=h
 exact⟨hB,p,v,hp,by simp[World.setCell,Array.getElem?_modify,hb],own_put ho hn _ _,hn,h0⟩
theorem RdF.iterAt {B b:Nat} {a n d:Int} {zs:List Int} {w:World} (h:RdF B b a n d zs w) {k:Nat} {s:ByteArray} {pos:Nat} (hk:w.heap[k]?=some (.stringIter s pos)) (pos':Nat):RdF B b a n d zs (w.iterAt k s pos'):=by
 obtain⟨hB,p,v,hp,hb,ho,hn,h0⟩:=h
 have hkb:b≠k:=fun e=>by rw[e,hk]at hb;cases hb
 refine⟨hB,p,v,hp,(Lib.iterAt_other w k b s pos' hkb).trans hb,⟨ho.1,?_⟩,hn,h0⟩
 rcases ho.2 with hx|⟨g,cap,cur,fz,hv,hbg,hg,rest⟩
 ·exact Or.inl hx
 ·have hkg:g≠k:=fun e=>by rw[e,hk]at hg;cases hg
  exact Or.inr ⟨g,cap,cur,fz,hv,hbg,(Lib.iterAt_other w k g s pos' hkg).trans hg,rest⟩
theorem RdF.new (w:World) (B b:Nat) (hb:b=w.heap.size) (hB:B≤b):RdF B b 0 0 0 [] (w.alloc (.cells #[.int .i64 0, .pointer none, .slice none 0 0, .int .i32 0, .int .i64 0] 190)):=by
 subst hb
 exact⟨hB, .pointer none, .slice none 0 0,Or.inl rfl,heap_alloc_new w _,World.ownsRowF_nil _ _ _ _,(by intro h;cases h),fun _=>rfl⟩
theorem RdF.alloc {B b:Nat} {a n d:Int} {zs:List Int} {w:World} (h:RdF B b a n d zs w) (o:Obj):RdF B b a n d zs (w.alloc o):=by
 have hlt:=h.lt
 obtain⟨hB,p,v,hp,hb,ho,hn,h0⟩:=h
 exact⟨hB,p,v,hp,(Lib.alloc_old w o b hlt).trans hb,ho.kept (World.grownBy_alloc w o none) (by cases hv:v.ownBlock<;>simp),hn,h0⟩
theorem ccr_new (b:Nat) (w:World) (h0:w.cell? ⟨b,1,none⟩=some (.pointer none)) (hsh:w.shape? b=some (190,5)) (hfz:w.frozen? ⟨b,1,none⟩=false):
  Calls Tryz.prog 175 #[.pointer (some ⟨b,1,none⟩)] w fun e w'=>e= .returned (.tuple #[])∧w'=w.setCell ⟨b,1,none⟩ (.pointer (some ⟨b,1,none⟩)):=by
 obtain⟨j,hj,hjs⟩:=Option.map_eq_some_iff.1 (show(Tryz.prog.info? 188).map (·.size)=some 2 by kernel_rfl)
 go_enter Tryz.func175,Tryz.ntmps175
 go_wp2
 rw[Lib.run_to_unsafe w ⟨b,1,none⟩ Tryz.underlying185 Tryz.underlying236 hj (by rw[hjs];decide) hsh (Nat.succ_lt_succ (Nat.zero_lt_succ 3))]
 simp only[Result.andThen]
 rw[Oper.upon_value]
 go_wp2
 rw[run_callFunc_extern Tryz.func181 (by kernel_rfl) (by kernel_rfl) (by kernel_rfl) (e:=Extern.AbiNoEscape.same) (by kernel_rfl)]
 rw[Lib.run_noEscape]
 simp only[Result.andThen]
 rw[Oper.upon_value]
 go_wp2
 rw[Lib.run_from_unsafe w ⟨b,1,none⟩ Tryz.underlying236 Tryz.underlying185 hj hsh (by kernel_rfl)]
 simp only[Result.andThen]
 rw[Oper.upon_value]
 go_wp2
 go_end0
 exact⟨rfl,rfl⟩
theorem ccr_used (b:Nat) (w:World) (h0:w.cell? ⟨b,1,none⟩=some (.pointer (some ⟨b,1,none⟩))):
  Calls Tryz.prog 175 #[.pointer (some ⟨b,1,none⟩)] w fun e w'=>e= .returned (.tuple #[])∧w'=w:=by
 obtain⟨j,hj⟩: ∃j,Tryz.prog.info? 188=some j:=Option.isSome_iff_exists.mp (by kernel_rfl)
 have hne:=Lib.run_neq_ptr_same (P:=Tryz.prog) w (tp:=185) (te:=188) ⟨b,1,none⟩ Tryz.underlying185 hj
 go_enter Tryz.func175,Tryz.ntmps175
 go_wp2
 go_end0
 exact⟨rfl,rfl⟩
theorem ccr_any (B b:Nat) (a n d:Int) (zs:List Int) (w:World) (h:RdF B b a n d zs w):
  Calls Tryz.prog 175 #[.pointer (some ⟨b,1,none⟩)] w fun e w'=>e= .returned (.tuple #[])∧KF B b w w'∧B≤b∧
   ∃v,w'.heap[b]?=some (.cells #[.int .i64 a, .pointer (some ⟨b,1,none⟩),v, .int .i32 n, .int .i64 d] 190 (0,0))∧w'.ownsRowF B 5 1 v zs.length (u8s zs)∧v.ownBlock≠some b:=by
 obtain⟨hB,p,v,hp,hb,ho,hn,_⟩:=h
 rcases hp with rfl|rfl
 ·refine(ccr_new b w (by rw[Lib.cell_of_heap hb];rfl) (by simp[World.shape?,hb]) (Lib.frozen_of_heap hb 1)).mono ?_
  rintro e w' ⟨rfl,rfl⟩
  exact⟨rfl,(KF.refl B b w).put hB _ _,hB,v,by simp[World.setCell,Array.getElem?_modify,hb],own_put ho hn _ _,hn⟩
 ·refine(ccr_used b w (by rw[Lib.cell_of_heap hb];rfl)).mono ?_
  rintro e w' ⟨rfl,rfl⟩
  exact⟨rfl,KF.refl _ _ _,hB,v,hb,ho,hn⟩
theorem enc_cells {r:Int} (h:RuneOk r):Lib.runeCells r=u8s (encL r):=by unfold Lib.runeCells u8s;rw[encode_enc h]
theorem enc_pos (r : Int) : 1 ≤ (encL r).length := by unfold encL; repeat' split
                                                      all_goals simp
theorem wruner_any (B b:Nat) (a n d:Int) (zs:List Int) (r:Int) (hr:RuneOk r) (w:World) (h:RdF B b a n d zs w) (hlen:zs.length+4≤140737488355328) (hBw:B≤w.heap.size):
  Calls Tryz.prog 164 #[.pointer (some ⟨b,1,none⟩), .int .i32 r] w fun e w'=>(∃k,e= .returned (.tuple #[.int .i64 k, .nilIface]))∧RdF B b a n d (zs++encL r) w'∧KF B b w w':=by
 have hcs:=enc_cells hr
 have r0: -2147483648≤r:=by have:=hr.1;omega
 have r1:r≤2147483647:=by have:=hr.2.1;omega
 have hp:=enc_pos r
 go_enter Tryz.func164,Tryz.ntmps164
 go_wp2_with (go_at_call 175;refine(ccr_any B b a n d zs _ h).mono ?_)
 rintro e w1 ⟨rfl,hk1,hB,v,hbk,hown,hne⟩
 obtain⟨ao,cap,rfl⟩: ∃ao cap,v= .slice ao zs.length cap:=by
  rcases hown.2 with⟨hv,h0⟩|⟨g,cap,cur,fz,hv,_⟩
  ·exact⟨none,0,by rw[hv,h0]⟩
  ·exact⟨_,_,hv⟩
 have c1:w1.cell? ⟨b,1,none⟩=some (.pointer (some ⟨b,1,none⟩)):=by rw[Lib.cell_of_heap hbk];rfl
 have c2:w1.cell? ⟨b,2,none⟩=some (.slice ao zs.length cap):=by rw[Lib.cell_of_heap hbk];rfl
 have hs1:=hk1.1.size
 go_wp2_with (go_at_call 176;refine(Tryz.utf8_AppendRune_row B _ zs.length (u8s zs) r r0 r1 _ hown hlen (by omega)).mono ?_)
 rintro e w2 ⟨v',rfl,hown',o,hgrow⟩
 have hlt:b<w1.heap.size:=(Array.getElem?_eq_some_iff.1 hbk).1
 have hb2:w2.heap[b]?=some (.cells #[.int .i64 a, .pointer (some ⟨b,1,none⟩), .slice ao zs.length cap, .int .i32 n, .int .i64 d] 190 (0,0)):=by
  rw[hgrow.block b (by simp;omega) (fun e=>hne e.symm),Lib.alloc_old w1 _ b hlt]
  exact hbk
 rw[hcs,u8s_len,←u8s_append]at hown'
 have d1:w2.cell? ⟨b,1,none⟩=some (.pointer (some ⟨b,1,none⟩)):=by rw[Lib.cell_of_heap hb2];rfl
 have d2:w2.cell? ⟨b,2,none⟩=some (.slice ao zs.length cap):=by rw[Lib.cell_of_heap hb2];rfl
 have f2:w2.frozen? ⟨b,2,none⟩=false:=Lib.frozen_of_heap hb2 2
 have HO:=Lh hown'
 obtain⟨g,cap',rfl⟩: ∃g cap',v'= .slice (some ⟨g,0,none⟩) (zs.length+(encL r).length) cap':=by
  rcases hown'.2 with⟨_,h0⟩|⟨g,cap',cur,fz,hv,_⟩
  ·omega
  ·exact⟨g,cap',hv⟩
 have hne2:=Lib.ownBlock_neF hown' hb2 (by decide)
 clear hown'
 go_wp2
 go_ret2
 refine⟨⟨_,rfl⟩,⟨hB,_,_,Or.inr rfl,?_,?_,hne2,?_⟩,?_,?_⟩
 ·simp[World.setCell,Array.getElem?_modify,hb2]
 ·rw[Kq]
  exact own_put HO.out hne2 _ _
 ·intro e
  have:=congrArg List.length e
  rw[Kq,List.length_nil]at this
  omega
 ·exact((hk1.1.alloc (by omega) _).grown hgrow (by simp;omega) (fun k hk=>(hown.lt k hk).1)).setCell (p:=⟨b,2,none⟩) hB _
 ·exact((hk1.2.alloc _).grown hgrow (Lib.ownsRowF_kind (hown.alloc _))).setCell ⟨b,2,none⟩ rfl _
theorem bstrr_any (B b:Nat) (a n d:Int) (zs:List Int) (hz: ∀z∈zs,0≤z∧z≤255) (w:World) (h:RdF B b a n d zs w) (_hBw:B≤w.heap.size):
  Calls Tryz.prog 127 #[.pointer (some ⟨b,1,none⟩)] w fun e w'=>e= .returned (.string (strOfNums zs))∧RdF B b a n d zs w'∧KF B b w w':=by
 obtain⟨hB,p,v,hp,hb,ho,hn,h0⟩:=h
 by_cases he:zs= []
 ·subst he
  obtain rfl:=h0 rfl
  have c2:w.drew.cell? ⟨b,2,none⟩=some (.slice none 0 0):=by
   have:w.drew.heap[b]?=some (.cells #[.int .i64 a,p, .slice none 0 0, .int .i32 n, .int .i64 d] 190 (0,0)):=hb
   rw[Lib.cell_of_heap this];rfl
  have hSD:(Builtin.unsafeSliceData_ #[186] 200 #[.slice none 0 0]).run Tryz.prog w.drew= .ok (.pointer none) w.drew:=rfl
  have hUS:=Lib.run_unsafeString_none (P:=Tryz.prog) w.drew 200 3 9 none
  have hfin:RdF B b a n d [] w.drew:=⟨hB,p,_,hp,hb,ho,hn,h0⟩
  go_enter Tryz.func127,Tryz.ntmps127
  go_wp2
  go_region
  all_goals (go_wp2;go_ret;exact⟨rfl,hfin,Below.drew (Mj B w),(Lib.OthersKept.refl _ _ w).drew⟩)
 ·have hl0:zs.length≠0:=fun e=>he (List.length_eq_zero_iff.mp e)
  obtain⟨g,cap,cur,fz,rfl,hbg,hg,hfz,hnc,hcm,hcs,htake⟩: ∃g cap cur fz,v= .slice (some ⟨g,0,none⟩) zs.length cap∧B≤g∧w.heap[g]?=some (.cells cur 5 fz)∧fz.2≤zs.length*1∧zs.length≤cap∧cap≤maxLen∧cur.size=cap*1∧cur.toList.take (zs.length*1)=u8s zs:=by
   rcases ho.2 with⟨_,hx⟩|⟨g,cap,cur,fz,hv,r⟩
   ·exact absurd hx hl0
   ·exact⟨g,cap,cur,fz,hv,r⟩
  have c2:w.drew.cell? ⟨b,2,none⟩=some (.slice (some ⟨g,0,none⟩) zs.length cap):=by
   have:w.drew.heap[b]?=some (.cells #[.int .i64 a,p, .slice (some ⟨g,0,none⟩) zs.length cap, .int .i32 n, .int .i64 d] 190 (0,0)):=hb
   rw[Lib.cell_of_heap this];rfl
  have hSD:(Builtin.unsafeSliceData_ #[186] 200 #[.slice (some ⟨g,0,none⟩) zs.length cap]).run Tryz.prog w.drew= .ok (.pointer (some ⟨g,0,none⟩)) w.drew:=
   Lib.run_unsafeSliceData_row _ _ _ _ _ _ (by omega)
  have hUS:(Builtin.unsafeString_ #[200,3] 9 #[.pointer (some ⟨g,0,none⟩), .int .i64 zs.length]).run Tryz.prog w.drew= .ok (.string (strOfNums zs)) (w.drew.freeze ⟨g,0,none⟩ zs.length):=by
   have hl:((zs.map fun z=>UInt8.ofNat z.toNat).length:Nat)=zs.length:=by simp
   have:=Lib.run_unsafeString_row w.drew 200 3 9 5 Tryz.underlying200 (by kernel_rfl) g cur.size (by have hg':w.drew.heap[g]?=some (.cells cur 5 fz):=hg;simp[World.shape?,hg']) (zs.map fun z=>UInt8.ofNat z.toNat) (by simpa using he) (by rw[hl];omega) (by rw[hl];unfold maxLen at hcm;omega) (by
    intro j x hx
    rw[List.getElem?_map]at hx
    cases hj:zs[j]? with
    |none=>rw[hj]at hx;cases hx
    |some z=>
     rw[hj]at hx
     obtain rfl:UInt8.ofNat z.toNat=x:=by simpa using hx
     have hzz:=hz z (List.mem_of_getElem? hj)
     have h5:=ho.cells (g:=g) rfl j (.int .u8 z) (by simp[u8s,hj])
     have e:((UInt8.ofNat z.toNat).toNat:Int)=z:=by simp only[UInt8.toNat_ofNat'];omega
     rw[e]
     exact h5)
   rw[hl]at this
   exact this
  have hfin:RdF B b a n d zs (w.drew.freeze ⟨g,0,none⟩ zs.length):=by
   have hgb:g≠b:=fun e=>hn (by simp[Value.ownBlock,e])
   refine⟨hB,p, .slice (some ⟨g,0,none⟩) zs.length cap,hp,?_,?_,hn,fun e=>(he e).elim⟩
   ·unfold World.freeze
    rw[if_neg hl0]
    simp only[Array.getElem?_modify]
    rw[if_neg hgb]
    exact hb
   ·refine⟨ho.1,Or.inr ⟨g,cap,cur,if fz.1==fz.2 then(0,0+zs.length)else(min fz.1 0,max fz.2 (0+zs.length)),rfl,hbg,?_,?_,hnc,hcm,hcs,htake⟩⟩
    ·unfold World.freeze
     rw[if_neg hl0]
     obtain⟨lo,hi⟩:=fz
     have hg':w.drew.heap[g]?=some (.cells cur 5 (lo,hi)):=hg
     simp only[Array.getElem?_modify,hg']
     simp
    ·split<;>simp<;>omega
  go_enter Tryz.func127,Tryz.ntmps127
  go_wp2
  go_region
  all_goals (go_wp2;go_ret;exact⟨rfl,hfin,Lib.below_freeze (Below.drew (Mj B w)) (p:=⟨g,0,none⟩) hbg _,((Lib.OthersKept.refl _ _ w).drew).freeze ⟨g,0,none⟩ _ ⟨cur,fz,hg⟩⟩)
end
end Go.Proofs.YtalcagmhdppdjaaGreatDoor
