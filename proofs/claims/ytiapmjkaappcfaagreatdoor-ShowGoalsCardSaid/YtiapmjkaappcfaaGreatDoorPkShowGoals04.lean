/-
  strconv.FormatInt at base 16, of numbers below 256, by their digits of sixteen.
-/
import Derived.Test.YtiapmjkaappcfaaGreatDoorPkShowGoals03
import Derived.Lib.RuneBytes
import Derived.Lib.RuneCount
import Derived.Lib.ValidLaws
import Derived.Laws.IdiomStrings
import Derived.RegionTactic
import Derived.ChangeAlike
set_option maxRecDepth 100000
set_option maxHeartbeats 8000000
namespace Go.Proofs.YtiapmjkaappcfaaGreatDoor
open Lib renaming hid→Lh
open Go.RowKit.Below renaming refl→Mj
open World renaming cell?_of_block→Kk
open List renaming length_cons→Jq
section
open Go.RowKit
def tkAt (t:TkV) (a b:Int):Value:= .agg #[.int .i64 (t.kind:Int), .string (strOfNums t.text), .int .u64 (t.n:Int), .int .i64 a, .int .i64 b]
structure Var5 (W:World) (p:Nat) (x0 x1 x2 x3 x4:Value):Prop where
 c0:W.cell? ⟨p,0,none⟩=some x0
 c1:W.cell? ⟨p,1,none⟩=some x1
 c2:W.cell? ⟨p,2,none⟩=some x2
 c3:W.cell? ⟨p,3,none⟩=some x3
 c4:W.cell? ⟨p,4,none⟩=some x4
 q: ∀i,W.frozen? ⟨p,i,none⟩=false
 s:p<W.heap.size
theorem Var5.fresh (W:World) (x0 x1 x2 x3 x4:Value) (t:TypeId) (p:Nat) (hp:p=W.heap.size):Var5 (W.alloc (.cells #[x0,x1,x2,x3,x4] t)) p x0 x1 x2 x3 x4:=by
 subst hp
 exact⟨by simp,by simp,by simp,by simp,by simp,fun i=>by simp[go_sem],by simp⟩
theorem Var5.stay {W W':World} {p:Nat} {x0 x1 x2 x3 x4:Value} (h:Var5 W p x0 x1 x2 x3 x4) (e:W'.heap[p]?=W.heap[p]?) (hs:W.heap.size≤W'.heap.size):Var5 W' p x0 x1 x2 x3 x4:=
 ⟨(Kk e).trans h.c0,(Kk e).trans h.c1,(Kk e).trans h.c2,(Kk e).trans h.c3,(Kk e).trans h.c4,fun i=>(World.frozen?_of_block e).trans (h.q i),Nat.lt_of_lt_of_le h.s hs⟩
theorem Var5.after {W W':World} {p:Nat} {x0 x1 x2 x3 x4:Value} (h:Var5 W p x0 x1 x2 x3 x4) (hb:Below W.heap.size W W'):Var5 W' p x0 x1 x2 x3 x4:=h.stay (hb.block p h.s) hb.size
def put5 (W:World) (p:Nat) (y0 y1 y2 y3 y4:Value):World:=((((W.setCell ⟨p,0,none⟩ y0).setCell ⟨p,1,none⟩ y1).setCell ⟨p,2,none⟩ y2).setCell ⟨p,3,none⟩ y3).setCell ⟨p,4,none⟩ y4
theorem Var5.put {W:World} {p:Nat} {x0 x1 x2 x3 x4:Value} (h:Var5 W p x0 x1 x2 x3 x4) (y0 y1 y2 y3 y4:Value):Var5 (put5 W p y0 y1 y2 y3 y4) p y0 y1 y2 y3 y4:=by
 obtain⟨c0,c1,c2,c3,c4,q,s⟩:=h
 unfold put5
 refine⟨?_,?_,?_,?_,?_,fun i=>?_,?_⟩<;>simp[go_sem, *]
theorem below_put5 {B:Nat} {w W:World} (h:Below B w W) {p:Nat} (hp:B≤p) (y0 y1 y2 y3 y4:Value):Below B w (put5 W p y0 y1 y2 y3 y4):=((((h.setCell hp _).setCell hp _).setCell hp _).setCell hp _).setCell hp _
def GivesTk (t:TkV) (c:Int) (w:World) (e:Ending) (w':World):Prop:=e= .returned (.tuple #[tkAt t 0 0, .int .i64 c])∧Below w.heap.size w w'
def pointB (Z:List Int) (i:Nat):Bool:=decide (46∈Z.take i)
end
section
open Go.RowKit
def qF:List Int→Nat→Nat
 | [],_=>0
 |r::t,k=>if r=10 then 0 else if r=34 then k+1 else if r=92 then(match t with| []=>0|s::u=>if s=10 then 0 else qF u (k+2))else qF t (k+1)
theorem sdrop_cons {l:List Int} {i:Nat} (h:i<l.length):l.drop i=l.getD i 0::l.drop (i+1):=by
 rw[List.drop_eq_getElem_cons h,List.getD_eq_getElem?_getD,List.getElem?_eq_getElem h]
 rfl
end
section
open Go.RowKit
def spotStep (p:Int×Int) (z:Int):Int×Int:=if z=10 then(p.1+1,1)else(p.1,p.2+1)
def spotAt (l:List Int) (i:Nat):Int×Int:=(l.take i).foldl spotStep (1,1)
def spotV (p:Int×Int):List Value:= [.int .i64 p.1, .int .i64 p.2]
def spotsV (l:List Int) (n:Nat):List (List Value):=(List.range n).map fun i=>spotV (spotAt l i)
theorem sset_else (W:World) (r i:Nat) (x:Value) (j:Nat) (hne:j≠r):(W.setCell ⟨r,i,none⟩ x).heap[j]?=W.heap[j]?:=Below.heap_setCell W ⟨r,i,none⟩ x j hne
end
section
open Go.RowKit
def unqF (l:List Int):List Int×Int:=match uf l with
 | .done xs=>if 120<xs.length then([],9)else(xs.flatMap encL,0)
 |_=>([],5)
def wordEnd (l:List Int) (i:Nat):Nat:=i+((l.drop i).takeWhile withinB).length
noncomputable def oneF (l:List Int) (i:Nat):TkV×Nat×Int:=
 if l.getD i 0=123 then(⟨7,[],0⟩,i+1,0)
 else if l.getD i 0=125 then(⟨8,[],0⟩,i+1,0)
 else if l.getD i 0=59 then(⟨9,[],0⟩,i+1,0)
 else if l.getD i 0=34 then
  (if qF (l.drop (i+1)) (i+1)=0 then(tk0,0,5)
  else(⟨2,(unqF ((l.take (qF (l.drop (i+1)) (i+1))).drop i)).1,0⟩,qF (l.drop (i+1)) (i+1),(unqF ((l.take (qF (l.drop (i+1)) (i+1))).drop i)).2))
 else if withinB (l.getD i 0)=false then(tk0,0,5)
 else((valF ((l.take (wordEnd l i)).drop i)).1,wordEnd l i,(valF ((l.take (wordEnd l i)).drop i)).2)
def GivesOne (p:TkV×Nat×Int) (w:World) (e:Ending) (w':World):Prop:=e= .returned (.tuple #[tkAt p.1 0 0, .int .i64 (p.2.1:Int), .int .i64 p.2.2])∧Below w.heap.size w w'
end
section
open Go.RowKit
def RightT (k:Int) (s:ByteArray) (n:Int):Prop:=
 (k=1∧NameL (runesOf (nums s))∧n=0)∨(k=2∧GoodL (runesOf (nums s))∧(runesOf (nums s)).length≤120∧n=0)∨((k=3∨k=4)∧s=⟨#[]⟩)∨(k=5∧s=⟨#[]⟩∧n≤1000000)∨(k=6∧s=⟨#[]⟩∧n≤253402300799)∨((k=0∨k=7∨k=8∨k=9)∧s=⟨#[]⟩∧n=0)
end
section
theorem decode_wid (s:ByteArray) (pos:Nat) (h:pos<s.size):(Utf8.decode s pos).2=widA (nums s) pos:=by
 rcases decode_rune s pos h with⟨_,h2,h3⟩|⟨_,h3⟩
 ·rw[h3,h2]
 ·rw[h3]
theorem count_runes (s:ByteArray):Lib.runeCount s=(runesOf (nums s)).length:=by
 have key: ∀fuel pos,s.size-pos≤fuel→Lib.runeCountFrom s fuel pos=(rfrom (nums s) pos).length:=by
  intro fuel
  induction fuel with
  |zero=>intro pos h;rw[rfrom_out (by rw[nums_length];omega)];rfl
  |succ n ih=>
   intro pos h
   by_cases hp:pos<s.size
   ·have hw:=widA_pos (nums s) pos
    rw[rfrom_in (by rw[nums_length];exact hp),Jq,←ih (pos+widA (nums s) pos) (by omega)]
    simp only[Lib.runeCountFrom,if_pos hp,decode_wid s pos hp]
    omega
   ·rw[rfrom_out (by rw[nums_length];exact hp),Lib.runeCountFrom_end s _ pos hp];rfl
 exact key s.size 0 (by omega)
theorem good_cons {z:Int} {l:List Int} :GoodL (z::l)↔0≤z∧GoodL l:=by
 constructor
 ·intro h
  exact⟨h 0 (by simp),fun i hi=>h (i+1) (by simpa using hi)⟩
 ·rintro⟨h0,h⟩ i hi
  match i,hi with
  |0,_=>exact h0
  |i+1,hi=>exact h i (by simpa using hi)
theorem good_nil:GoodL []:=fun i hi=>by cases hi
theorem valid_good (s:ByteArray):(Lib.validD s.data.toList=true)↔GoodL (runesOf (nums s)):=by
 have key: ∀n pos,s.size-pos≤n→(Lib.validD (s.data.toList.drop pos)=true↔GoodL (rfrom (nums s) pos)):=by
  intro n
  induction n with
  |zero=>
   intro pos h
   rw[rfrom_out (by rw[nums_length];omega),List.drop_eq_nil_of_le (by rw[Array.length_toList];show s.size≤pos;omega),Lib.validD_nil]
   exact⟨fun _=>good_nil,fun _=>rfl⟩
  |succ n ih=>
   intro pos h
   by_cases hp:pos<s.size
   ·have hw:=widA_pos (nums s) pos
    have hne:s.data.toList.drop pos≠ []:=fun e=>by
     have:=congrArg List.length e
     rw[List.length_drop,Array.length_toList]at this
     have:s.size-pos=0:=this
     omega
    rw[Lib.validD_step _ hne,Lib.decodeL_drop,rfrom_in (by rw[nums_length];exact hp),good_cons]
    rcases decode_rune s pos hp with⟨h1,h2,h3⟩|⟨h1,h3⟩
    ·rw[h3,h1];simp
    ·rw[h3]
     have hnot: ¬((runeA (nums s) pos).toNat=65533∧widA (nums s) pos=1):=by
      rintro⟨ha,hb⟩
      by_cases k0:(nums s).getD pos 0<128
      ·have:=(runeA_low k0).1;omega
      ·cases hq:wholeB (nums s) pos with
       |true=>
        have h5:=(runeA_good k0 hq).2
        have h6:0<clsN ((nums s).getD pos 0):=by
         unfold wholeB at hq
         simp only[Bool.and_eq_true,decide_eq_true_eq]at hq
         exact hq.1.1.1.1
        omega
       |false=>have:=(runeA_bad k0 hq).1;omega
     rw[if_neg hnot,List.drop_drop,ih (pos+widA (nums s) pos) (by omega)]
     exact⟨fun g=>⟨h1,g⟩,fun g=>g.2⟩
   ·rw[rfrom_out (by rw[nums_length];exact hp),List.drop_eq_nil_of_le (by rw[Array.length_toList];show s.size≤pos;omega),Lib.validD_nil]
    exact⟨fun _=>good_nil,fun _=>rfl⟩
 have:=key s.size 0 (by omega)
 rwa [List.drop_zero]at this
theorem good_ok {s:ByteArray} (h:GoodL (runesOf (nums s))): ∀r∈runesOf (nums s),RuneOk r:=(good_back (nums_byte s) (good_mem h)).1
end
section
open Go.RowKit
theorem txt_rune (w:World) (k:Nat) (s:ByteArray) (pos:Nat) (hk:w.heap[k]?=some (.stringIter s pos)) (h:pos<s.size):
  ∃y:Int,(∀ty,(Instr.next (.pointer (some ⟨k,0,none⟩)) true ty).run Tryz.prog w= .ok (.tuple #[.bool true, .int .i64 pos, .int .i32 y]) (w.iterAt k s (pos+widA (nums s) pos)))∧0≤y∧y≤1114111∧
   ((runeA (nums s) pos= -1∧y=65533)∨(0≤runeA (nums s) pos∧y=runeA (nums s) pos)):=by
 have hl:=runeA_le (nums s) pos (by rw[nums_at s pos h];omega)
 rcases decode_rune s pos h with⟨h1,h2,h3⟩|⟨h1,h3⟩
 ·exact⟨65533,fun ty=>by rw[Lib.run_next_any_at w k s pos ty hk h,h3,h2];rfl,by omega,by omega,Or.inl ⟨h1,rfl⟩⟩
 ·exact⟨runeA (nums s) pos,fun ty=>by
   rw[Lib.run_next_any_at w k s pos ty hk h,h3]
   show Result.ok (Value.tuple #[.bool true, .int .i64 pos, .int .i32 (((runeA (nums s) pos).toNat:Nat):Int)]) _=_
   rw[Int.toNat_of_nonneg h1],h1,by omega,Or.inr ⟨h1,rfl⟩⟩
theorem tletter_same (r:Int) (w:World):Calls Tryz.prog 113 #[.int .i32 r] w fun e w'=>e= .returned (.bool (letterB r))∧w=w':=by
 obtain⟨q,hq⟩: ∃q,letterB r=q:=⟨_,rfl⟩
 rw[hq]
 have HQ:=Lh hq
 clear hq
 have hc:r≤64∨(65≤r∧r≤90)∨(91≤r∧r≤96)∨(97≤r∧r≤122)∨(123≤r∧r≤191)∨(192≤r∧r≤214)∨r=215∨(216≤r∧r≤246)∨r=247∨(248≤r∧r≤591)∨(592≤r∧r≤879)∨(880≤r∧r≤1023)∨(1024≤r∧r≤1279)∨1280≤r:=by omega
 rcases hc with h0|⟨h0,h1⟩|⟨h0,h1⟩|⟨h0,h1⟩|⟨h0,h1⟩|⟨h0,h1⟩|rfl|⟨h0,h1⟩|rfl|⟨h0,h1⟩|⟨h0,h1⟩|⟨h0,h1⟩|⟨h0,h1⟩|h0
 ·obtain rfl:q=false:=by rw[←HQ.out];unfold letterB;simp;omega
  have e1:(r==215)=false:=by simp;omega
  have e2:(r==247)=false:=by simp;omega
  have d0:decide (r≥97)=false:=by simp;omega
  have d1:decide (r≤122)=true:=by simp;omega
  have d2:decide (r≥65)=false:=by simp;omega
  have d3:decide (r≤90)=true:=by simp;omega
  have d4:decide (r≥192)=false:=by simp;omega
  have d5:decide (r≤591)=true:=by simp;omega
  have d6:decide (r≥880)=false:=by simp;omega
  have d7:decide (r≤1023)=true:=by simp;omega
  have d8:decide (r≥1024)=false:=by simp;omega
  have d9:decide (r≤1279)=true:=by simp;omega
  clear h0
  go_enter Tryz.func113,Tryz.ntmps113
  go_wp2
  go_ret
  exact⟨rfl,rfl⟩
 ·obtain rfl:q=true:=by rw[←HQ.out];unfold letterB;simp;omega
  have e1:(r==215)=false:=by simp;omega
  have e2:(r==247)=false:=by simp;omega
  have d0:decide (r≥97)=false:=by simp;omega
  have d1:decide (r≤122)=true:=by simp;omega
  have d2:decide (r≥65)=true:=by simp;omega
  have d3:decide (r≤90)=true:=by simp;omega
  have d4:decide (r≥192)=false:=by simp;omega
  have d5:decide (r≤591)=true:=by simp;omega
  have d6:decide (r≥880)=false:=by simp;omega
  have d7:decide (r≤1023)=true:=by simp;omega
  have d8:decide (r≥1024)=false:=by simp;omega
  have d9:decide (r≤1279)=true:=by simp;omega
  clear h0 h1
  go_enter Tryz.func113,Tryz.ntmps113
  go_wp2
  go_ret
  exact⟨rfl,rfl⟩
 ·obtain rfl:q=false:=by rw[←HQ.out];unfold letterB;simp;omega
  have e1:(r==215)=false:=by simp;omega
  have e2:(r==247)=false:=by simp;omega
  have d0:decide (r≥97)=false:=by simp;omega
  have d1:decide (r≤122)=true:=by simp;omega
  have d2:decide (r≥65)=true:=by simp;omega
  have d3:decide (r≤90)=false:=by simp;omega
  have d4:decide (r≥192)=false:=by simp;omega
  have d5:decide (r≤591)=true:=by simp;omega
  have d6:decide (r≥880)=false:=by simp;omega
  have d7:decide (r≤1023)=true:=by simp;omega
  have d8:decide (r≥1024)=false:=by simp;omega
  have d9:decide (r≤1279)=true:=by simp;omega
  clear h0 h1
  go_enter Tryz.func113,Tryz.ntmps113
  go_wp2
  go_ret
  exact⟨rfl,rfl⟩
 ·obtain rfl:q=true:=by rw[←HQ.out];unfold letterB;simp;omega
  have e1:(r==215)=false:=by simp;omega
  have e2:(r==247)=false:=by simp;omega
  have d0:decide (r≥97)=true:=by simp;omega
  have d1:decide (r≤122)=true:=by simp;omega
  have d2:decide (r≥65)=true:=by simp;omega
  have d3:decide (r≤90)=false:=by simp;omega
  have d4:decide (r≥192)=false:=by simp;omega
  have d5:decide (r≤591)=true:=by simp;omega
  have d6:decide (r≥880)=false:=by simp;omega
  have d7:decide (r≤1023)=true:=by simp;omega
  have d8:decide (r≥1024)=false:=by simp;omega
  have d9:decide (r≤1279)=true:=by simp;omega
  clear h0 h1
  go_enter Tryz.func113,Tryz.ntmps113
  go_wp2
  go_ret
  exact⟨rfl,rfl⟩
 ·obtain rfl:q=false:=by rw[←HQ.out];unfold letterB;simp;omega
  have e1:(r==215)=false:=by simp;omega
  have e2:(r==247)=false:=by simp;omega
  have d0:decide (r≥97)=true:=by simp;omega
  have d1:decide (r≤122)=false:=by simp;omega
  have d2:decide (r≥65)=true:=by simp;omega
  have d3:decide (r≤90)=false:=by simp;omega
  have d4:decide (r≥192)=false:=by simp;omega
  have d5:decide (r≤591)=true:=by simp;omega
  have d6:decide (r≥880)=false:=by simp;omega
  have d7:decide (r≤1023)=true:=by simp;omega
  have d8:decide (r≥1024)=false:=by simp;omega
  have d9:decide (r≤1279)=true:=by simp;omega
  clear h0 h1
  go_enter Tryz.func113,Tryz.ntmps113
  go_wp2
  go_ret
  exact⟨rfl,rfl⟩
 ·obtain rfl:q=true:=by rw[←HQ.out];unfold letterB;simp;omega
  have e1:(r==215)=false:=by simp;omega
  have e2:(r==247)=false:=by simp;omega
  have d0:decide (r≥97)=true:=by simp;omega
  have d1:decide (r≤122)=false:=by simp;omega
  have d2:decide (r≥65)=true:=by simp;omega
  have d3:decide (r≤90)=false:=by simp;omega
  have d4:decide (r≥192)=true:=by simp;omega
  have d5:decide (r≤591)=true:=by simp;omega
  have d6:decide (r≥880)=false:=by simp;omega
  have d7:decide (r≤1023)=true:=by simp;omega
  have d8:decide (r≥1024)=false:=by simp;omega
  have d9:decide (r≤1279)=true:=by simp;omega
  clear h0 h1
  go_enter Tryz.func113,Tryz.ntmps113
  go_wp2
  go_ret
  exact⟨rfl,rfl⟩
 ·obtain rfl:q=false:=by rw[←HQ.out];decide
  go_enter Tryz.func113,Tryz.ntmps113
  go_wp2
  go_ret
  exact⟨rfl,rfl⟩
 ·obtain rfl:q=true:=by rw[←HQ.out];unfold letterB;simp;omega
  have e1:(r==215)=false:=by simp;omega
  have e2:(r==247)=false:=by simp;omega
  have d0:decide (r≥97)=true:=by simp;omega
  have d1:decide (r≤122)=false:=by simp;omega
  have d2:decide (r≥65)=true:=by simp;omega
  have d3:decide (r≤90)=false:=by simp;omega
  have d4:decide (r≥192)=true:=by simp;omega
  have d5:decide (r≤591)=true:=by simp;omega
  have d6:decide (r≥880)=false:=by simp;omega
  have d7:decide (r≤1023)=true:=by simp;omega
  have d8:decide (r≥1024)=false:=by simp;omega
  have d9:decide (r≤1279)=true:=by simp;omega
  clear h0 h1
  go_enter Tryz.func113,Tryz.ntmps113
  go_wp2
  go_ret
  exact⟨rfl,rfl⟩
 ·obtain rfl:q=false:=by rw[←HQ.out];decide
  go_enter Tryz.func113,Tryz.ntmps113
  go_wp2
  go_ret
  exact⟨rfl,rfl⟩
 ·obtain rfl:q=true:=by rw[←HQ.out];unfold letterB;simp;omega
  have e1:(r==215)=false:=by simp;omega
  have e2:(r==247)=false:=by simp;omega
  have d0:decide (r≥97)=true:=by simp;omega
  have d1:decide (r≤122)=false:=by simp;omega
  have d2:decide (r≥65)=true:=by simp;omega
  have d3:decide (r≤90)=false:=by simp;omega
  have d4:decide (r≥192)=true:=by simp;omega
  have d5:decide (r≤591)=true:=by simp;omega
  have d6:decide (r≥880)=false:=by simp;omega
  have d7:decide (r≤1023)=true:=by simp;omega
  have d8:decide (r≥1024)=false:=by simp;omega
  have d9:decide (r≤1279)=true:=by simp;omega
  clear h0 h1
  go_enter Tryz.func113,Tryz.ntmps113
  go_wp2
  go_ret
  exact⟨rfl,rfl⟩
 ·obtain rfl:q=false:=by rw[←HQ.out];unfold letterB;simp;omega
  have e1:(r==215)=false:=by simp;omega
  have e2:(r==247)=false:=by simp;omega
  have d0:decide (r≥97)=true:=by simp;omega
  have d1:decide (r≤122)=false:=by simp;omega
  have d2:decide (r≥65)=true:=by simp;omega
  have d3:decide (r≤90)=false:=by simp;omega
  have d4:decide (r≥192)=true:=by simp;omega
  have d5:decide (r≤591)=false:=by simp;omega
  have d6:decide (r≥880)=false:=by simp;omega
  have d7:decide (r≤1023)=true:=by simp;omega
  have d8:decide (r≥1024)=false:=by simp;omega
  have d9:decide (r≤1279)=true:=by simp;omega
  clear h0 h1
  go_enter Tryz.func113,Tryz.ntmps113
  go_wp2
  go_ret
  exact⟨rfl,rfl⟩
 ·obtain rfl:q=true:=by rw[←HQ.out];unfold letterB;simp;omega
  have e1:(r==215)=false:=by simp;omega
  have e2:(r==247)=false:=by simp;omega
  have d0:decide (r≥97)=true:=by simp;omega
  have d1:decide (r≤122)=false:=by simp;omega
  have d2:decide (r≥65)=true:=by simp;omega
  have d3:decide (r≤90)=false:=by simp;omega
  have d4:decide (r≥192)=true:=by simp;omega
  have d5:decide (r≤591)=false:=by simp;omega
  have d6:decide (r≥880)=true:=by simp;omega
  have d7:decide (r≤1023)=true:=by simp;omega
  have d8:decide (r≥1024)=false:=by simp;omega
  have d9:decide (r≤1279)=true:=by simp;omega
  clear h0 h1
  go_enter Tryz.func113,Tryz.ntmps113
  go_wp2
  go_ret
  exact⟨rfl,rfl⟩
 ·obtain rfl:q=true:=by rw[←HQ.out];unfold letterB;simp;omega
  have e1:(r==215)=false:=by simp;omega
  have e2:(r==247)=false:=by simp;omega
  have d0:decide (r≥97)=true:=by simp;omega
  have d1:decide (r≤122)=false:=by simp;omega
  have d2:decide (r≥65)=true:=by simp;omega
  have d3:decide (r≤90)=false:=by simp;omega
  have d4:decide (r≥192)=true:=by simp;omega
  have d5:decide (r≤591)=false:=by simp;omega
  have d6:decide (r≥880)=true:=by simp;omega
  have d7:decide (r≤1023)=false:=by simp;omega
  have d8:decide (r≥1024)=true:=by simp;omega
  have d9:decide (r≤1279)=true:=by simp;omega
  clear h0 h1
  go_enter Tryz.func113,Tryz.ntmps113
  go_wp2
  go_ret
  exact⟨rfl,rfl⟩
 ·obtain rfl:q=false:=by rw[←HQ.out];unfold letterB;simp;omega
  have e1:(r==215)=false:=by simp;omega
  have e2:(r==247)=false:=by simp;omega
  have d0:decide (r≥97)=true:=by simp;omega
  have d1:decide (r≤122)=false:=by simp;omega
  have d2:decide (r≥65)=true:=by simp;omega
  have d3:decide (r≤90)=false:=by simp;omega
  have d4:decide (r≥192)=true:=by simp;omega
  have d5:decide (r≤591)=false:=by simp;omega
  have d6:decide (r≥880)=true:=by simp;omega
  have d7:decide (r≤1023)=false:=by simp;omega
  have d8:decide (r≥1024)=true:=by simp;omega
  have d9:decide (r≤1279)=false:=by simp;omega
  clear h0
  go_enter Tryz.func113,Tryz.ntmps113
  go_wp2
  go_ret
  exact⟨rfl,rfl⟩
theorem tletter_at {r:Int} {q:Bool} (h:letterB r=q) (w:World):Calls Tryz.prog 113 #[.int .i32 r] w fun e w'=>e= .returned (.bool q)∧w=w':=by
 subst h;exact tletter_same r w
def endB (r:Int):Bool:=letterB r||digitB r
def midB (r:Int):Bool:=endB r||(decide (r=95)||decide (r=45))
theorem tend_is {r:Int} {q:Bool} (h:endB r=q) (w:World):Calls Tryz.prog 114 #[.int .i32 r] w fun e w'=>e= .returned (.bool q)∧w=w':=by
 obtain⟨a,ha⟩: ∃a,letterB r=a:=⟨_,rfl⟩
 have RL:=Lh (fun w=>tletter_at ha w)
 have HQ:Hid ((a||digitB r)=q):=by rw[←h,←ha];rfl
 clear h ha
 cases a with
 |true=>
  obtain rfl:q=true:=by rw[←HQ.out];rfl
  go_enter Tryz.func114,Tryz.ntmps114
  go_wp2_with (go_at_call 113;(with_reducible refine(RL.out _).mono ?_);rintro e w2 ⟨rfl,rfl⟩)
  go_ret
  exact⟨rfl,rfl⟩
 |false=>
  by_cases h1:48≤r
  ·by_cases h2:r≤57
   ·obtain rfl:q=true:=by rw[←HQ.out];unfold digitB;simp[h1,h2]
    go_enter Tryz.func114,Tryz.ntmps114
    go_wp2_with (go_at_call 113;(with_reducible refine(RL.out _).mono ?_);rintro e w2 ⟨rfl,rfl⟩)
    go_ret
    exact⟨rfl,rfl⟩
   ·obtain rfl:q=false:=by rw[←HQ.out];unfold digitB;simp[h2]
    have d1:decide (r≤57)=false:=by simp;omega
    go_enter Tryz.func114,Tryz.ntmps114
    go_wp2_with (go_at_call 113;(with_reducible refine(RL.out _).mono ?_);rintro e w2 ⟨rfl,rfl⟩)
    go_ret
    exact⟨rfl,rfl⟩
  ·obtain rfl:q=false:=by rw[←HQ.out];unfold digitB;simp[h1]
   have d1:decide (r≥48)=false:=by simp;omega
   go_enter Tryz.func114,Tryz.ntmps114
   go_wp2_with (go_at_call 113;(with_reducible refine(RL.out _).mono ?_);rintro e w2 ⟨rfl,rfl⟩)
   go_ret
   exact⟨rfl,rfl⟩
def plainB (r:Int):Bool:=decide (32≤r)&&decide (r≠127)&&decide (r≠34)&&decide (r≠92)
theorem tplain_is {r:Int} {q:Bool} (h:plainB r=q) (w:World):Calls Tryz.prog 263 #[.int .i32 r] w fun e w'=>e= .returned (.bool q)∧w=w':=by
 by_cases h1:32≤r
 ·by_cases h2:r=127
  ·subst h2
   obtain rfl:q=false:=by rw[←h];decide
   go_enter Tryz.func263,Tryz.ntmps263
   go_wp2
   go_ret
   exact⟨rfl,rfl⟩
  ·by_cases h3:r=34
   ·subst h3
    obtain rfl:q=false:=by rw[←h];decide
    go_enter Tryz.func263,Tryz.ntmps263
    go_wp2
    go_ret
    exact⟨rfl,rfl⟩
   ·by_cases h4:r=92
    ·subst h4
     obtain rfl:q=false:=by rw[←h];decide
     go_enter Tryz.func263,Tryz.ntmps263
     go_wp2
     go_ret
     exact⟨rfl,rfl⟩
    ·obtain rfl:q=true:=by rw[←h];unfold plainB;simp[h1,h2,h3,h4]
     have e2:(r !=127)=true:=by simpa using h2
     have e3:(r !=34)=true:=by simpa using h3
     have e4:(r !=92)=true:=by simpa using h4
     clear h
     go_enter Tryz.func263,Tryz.ntmps263
     go_wp2
     go_ret
     exact⟨rfl,rfl⟩
 ·obtain rfl:q=false:=by rw[←h];unfold plainB;simp[h1]
  have d1:decide (r≥32)=false:=by simp;omega
  clear h
  go_enter Tryz.func263,Tryz.ntmps263
  go_wp2
  go_ret
  exact⟨rfl,rfl⟩
structure NmC (l:List Int) (i:Nat) (y:Int):Prop where
 le:i≤l.length
 head:0<i→letterB (l.getD 0 0)=true
 all: ∀j,j<i→midB (l.getD j 0)=true
 last:endB y=(decide (0<i)&&endB (l.getD (i-1) 0))
theorem NmC.start (l:List Int):NmC l 0 0:=⟨Nat.zero_le _,fun h=>by omega,fun j h=>by omega,rfl⟩
theorem told_same {z y:Int} (h:(z= -1∧y=65533)∨(0≤z∧y=z)):letterB z=letterB y∧endB z=endB y∧midB z=midB y:=by
 rcases h with⟨rfl,rfl⟩|⟨_,rfl⟩
 ·exact⟨by decide,by decide,by decide⟩
 ·exact⟨rfl,rfl,rfl⟩
theorem NmC.next {l:List Int} {i:Nat} {y0 y z:Int} (h:NmC l i y0) (hi:i<l.length) (hz:l.getD i 0=z) (ht:(z= -1∧y=65533)∨(0≤z∧y=z)) (h0:i=0→letterB y=true) (hm:midB y=true):NmC l (i+1) y:=by
 obtain⟨e1,e2,e3⟩:=told_same ht
 refine⟨by omega,fun _=>?_,fun j hj=>?_,?_⟩
 ·by_cases k:i=0
  ·subst k;rw[hz,e1];exact h0 rfl
  ·exact h.head (by omega)
 ·by_cases k:j=i
  ·subst k;rw[hz,e3];exact hm
  ·exact h.all j (by omega)
 ·rw[show i+1-1=i by omega,hz,e2,decide_eq_true (show 0<i+1 by omega),Bool.true_and]
theorem NmC.no {l:List Int} {i:Nat} {y z:Int} (hi:i<l.length) (hz:l.getD i 0=z) (ht:(z= -1∧y=65533)∨(0≤z∧y=z)) (hm:midB y=false): ¬NameL l:=fun g=>by
 have:=g.2.2.2 i hi
 obtain⟨e1,e2,e3⟩:=told_same ht
 rw[←e3]at hm
 unfold nameOk at this
 rw[hz]at this
 unfold midB endB at hm
 simp only[Bool.or_eq_false_iff]at hm
 rw[hm.1.1,hm.1.2,hm.2.1,hm.2.2]at this
 simp at this
theorem NmC.first {l:List Int} {y z:Int} (hz:l.getD 0 0=z) (ht:(z= -1∧y=65533)∨(0≤z∧y=z)) (hm:letterB y=false): ¬NameL l:=fun g=>by
 have:=g.2.2.1
 rw[hz,(told_same ht).1,hm]at this
 cases this
theorem NmC.done {l:List Int} {i:Nat} {y:Int} (h:NmC l i y) (hi:i=l.length) (h24:i≤24):endB y=true↔NameL l:=by
 rw[h.last]
 constructor
 ·intro e
  simp only[Bool.and_eq_true,decide_eq_true_eq]at e
  refine⟨by omega,by omega,h.head e.1,fun j hj=>?_⟩
  have hm:=h.all j (by omega)
  by_cases k:j=i-1
  ·rw[k]
   have:=e.2
   unfold endB at this
   unfold nameOk
   rw[this];rfl
  ·unfold midB endB at hm
   unfold nameOk
   rw[decide_eq_true (show j+1≠l.length by omega)]
   exact hm
 ·rintro⟨a,b,c,d⟩
  have:=d (i-1) (by omega)
  unfold nameOk at this
  rw[decide_eq_false (show¬(i-1+1≠l.length) by omega),Bool.false_and,Bool.or_false]at this
  unfold endB
  rw[this,decide_eq_true (show 0<i by omega)];rfl
theorem drop_cons {l:List Int} {i:Nat} {z:Int} {r:List Int} (h:l.drop i=z::r):i<l.length∧l.getD i 0=z∧l.drop (i+1)=r:=by
 have hi:i<l.length:=by
  have:=congrArg List.length h
  rw[List.length_drop,Jq]at this
  omega
 rw[List.drop_eq_getElem_cons hi]at h
 injection h with h1 h2
 exact⟨hi,by rw[List.getD_eq_getElem?_getD,List.getElem?_eq_getElem hi];exact h1,h2⟩
theorem tname_plain (s:ByteArray) (w:World) (_hm:s.size≤4294967296):Calls Tryz.prog 62 #[.string s] w (GivesQ (NameL (runesOf (nums s))) w):=by
 have hlen:Hid ((nums s).length=s.size):=nums_length s
 obtain⟨l,hl⟩: ∃l,runesOf (nums s)=l:=⟨_,rfl⟩
 rw[hl]
 have HL:=Lh hl
 clear hl
 go_enter Tryz.func62,Tryz.ntmps62
 go_wp2
 obtain⟨I,hI⟩: ∃I,w.heap.size=I:=⟨_,rfl⟩
 rw[hI]
 have HI:=Lh hI
 have hit0:(w.iter s 0).heap[I]?=some (.stringIter s 0):=by rw[←hI];exact World.iter_heap w s 0
 have hb0:Below I w (w.iter s 0):=by rw[←hI];exact(Mj _ _).alloc (Nat.le_refl _) _
 generalize w.iter s 0=w0 at hit0 hb0 ⊢
 clear hI
 replace hit0:=Lh hit0
 replace hb0:=Lh hb0
 go_loopw [3,4] (fun v3 v4 wr=> ∃(pos i:Nat) (y:Int),v3= .int .i64 (i:Int)∧v4= .int .i32 y∧i≤24∧pos≤s.size∧rfrom (nums s) pos=l.drop i∧NmC l i y∧wr.heap[I]?=some (.stringIter s pos)∧Below I w wr) (fun _ _ wr=>s.size-wr.iterPos I)
 case atStart=>exact⟨0,0,0,rfl,rfl,by omega,by omega,HL.out,NmC.start l,hit0.out,hb0.out⟩
 case round=>
  obtain⟨pos,i,y0,rfl,rfl,h24,hp,hr,hC,hk,hb⟩:=hrel
  have HC:=Lh hC
  have HR:=Lh hr
  have HB0:=Lh hb
  clear hC hr hb
  by_cases h1:pos<s.size
  ·obtain⟨y,hnx,y0',y1,ht⟩:=txt_rune wr I s pos hk h1
   have hR:rfrom (nums s) pos=runeA (nums s) pos::rfrom (nums s) (pos+widA (nums s) pos):=rfrom_in (by rw[hlen.out];exact h1)
   obtain⟨hi0,hz,hr2⟩:=drop_cons (HR.out.symm.trans hR)
   have HT:=Lh ht
   have HZ:=Lh hz
   have HR2:=Lh hr2.symm
   have hwid:=Lh (widA_pos (nums s) pos)
   have hwin:=Lh (widA_in (zs:=nums s) (i:=pos) (by rw[hlen.out];exact h1))
   have HB:=Lh (Lib.below_iterAt HB0.out (Nat.le_refl I) s (pos+widA (nums s) pos))
   have hk2:=Lh (Lib.iterAt_heap wr I s pos (pos+widA (nums s) pos) hk)
   have hk0:=Lh hk
   have hi:Hid (i<l.length):=hi0
   clear ht hz hr2 hR hi0 hk
   obtain⟨p2,hp2⟩: ∃p,pos+widA (nums s) pos=p:=⟨_,rfl⟩
   rw[hp2]at hnx HB hk2 HR2 hwin
   have hlt:Hid (pos<p2):=by have:=hwid.out;unfold Hid;omega
   have hle:Hid (p2≤s.size):=by have:=hwin.out;rw[hlen.out]at this;exact this
   clear hp2 hwid hwin
   generalize wr.iterAt I s p2=W1 at hnx HB hk2
   obtain⟨q,hq⟩: ∃q,letterB y=q:=⟨_,rfl⟩
   obtain⟨qe,hqe⟩: ∃q,endB y=q:=⟨_,rfl⟩
   have RL:=Lh (fun w=>tletter_at hq w)
   have RE:=Lh (fun w=>tend_is hqe w)
   have HQ:=Lh hq
   have HE:=Lh hqe
   clear hq hqe
   by_cases h25:i=24
   ·have hbad:Hid (¬NameL l):=fun g=>by have h5:l.length≤24:=g.2.1;have:=hi.out;omega
    subst h25
    go_wp2_with (first
     |(go_at_call 113;(with_reducible refine(RL.out _).mono ?_);rintro e w2 ⟨rfl,rfl⟩)
     |(go_at_call 114;(with_reducible refine(RE.out _).mono ?_);rintro e w2 ⟨rfl,rfl⟩))
    go_ret
    exact GivesQ.no hbad.out (HI.out▸HB.out)
   ·by_cases h0:i=0
    ·subst h0
     cases q with
     |false=>
      have hbad:=Lh (NmC.first HZ.out HT.out HQ.out)
      go_wp2_with (first
       |(go_at_call 113;(with_reducible refine(RL.out _).mono ?_);rintro e w2 ⟨rfl,rfl⟩)
       |(go_at_call 114;(with_reducible refine(RE.out _).mono ?_);rintro e w2 ⟨rfl,rfl⟩))
      go_ret
      exact GivesQ.no hbad.out (HI.out▸HB.out)
     |true=>
      obtain rfl:qe=true:=by rw[←HE.out];unfold endB;rw[HQ.out];rfl
      have hm:Hid (midB y=true):=by unfold Hid midB;rw[HE.out];rfl
      have hn:=Lh (HC.out.next hi.out HZ.out HT.out (fun _=>HQ.out) hm.out)
      go_wp2_with (first
       |(go_at_call 113;(with_reducible refine(RL.out _).mono ?_);rintro e w2 ⟨rfl,rfl⟩)
       |(go_at_call 114;(with_reducible refine(RE.out _).mono ?_);rintro e w2 ⟨rfl,rfl⟩))
      go_round
      case rel=>exact⟨p2,0+1,y,by go_num,rfl,by omega,hle.out,HR2.out,hn.out,hk2.out,HB.out⟩
      case measure=>rw[iterPos_of hk2.out,iterPos_of hk0.out];have:=hlt.out;have:=hle.out;omega
    ·have d0:((i:Int)+1==1)=false:=by simp;omega
     have h0n:Hid (i=0→letterB y=true):=fun e=>(h0 e).elim
     cases qe with
     |true=>
      have hm:Hid (midB y=true):=by unfold Hid midB;rw[HE.out];rfl
      have hn:=Lh (HC.out.next hi.out HZ.out HT.out h0n.out hm.out)
      go_wp2_with (first
       |(go_at_call 113;(with_reducible refine(RL.out _).mono ?_);rintro e w2 ⟨rfl,rfl⟩)
       |(go_at_call 114;(with_reducible refine(RE.out _).mono ?_);rintro e w2 ⟨rfl,rfl⟩))
      go_round
      case rel=>exact⟨p2,i+1,y,by go_num,rfl,by omega,hle.out,HR2.out,hn.out,hk2.out,HB.out⟩
      case measure=>rw[iterPos_of hk2.out,iterPos_of hk0.out];have:=hlt.out;have:=hle.out;omega
     |false=>
      by_cases c95:y=95
      ·subst c95
       have hm:Hid (midB 95=true):=(by decide:midB 95=true)
       have hn:=Lh (HC.out.next hi.out HZ.out HT.out h0n.out hm.out)
       go_wp2_with (first
        |(go_at_call 113;(with_reducible refine(RL.out _).mono ?_);rintro e w2 ⟨rfl,rfl⟩)
        |(go_at_call 114;(with_reducible refine(RE.out _).mono ?_);rintro e w2 ⟨rfl,rfl⟩))
       go_round
       case rel=>exact⟨p2,i+1,95,by go_num,rfl,by omega,hle.out,HR2.out,hn.out,hk2.out,HB.out⟩
       case measure=>rw[iterPos_of hk2.out,iterPos_of hk0.out];have:=hlt.out;have:=hle.out;omega
      ·have e95:(y !=95)=true:=by simpa using c95
       by_cases c45:y=45
       ·subst c45
        have hm:Hid (midB 45=true):=(by decide:midB 45=true)
        have hn:=Lh (HC.out.next hi.out HZ.out HT.out h0n.out hm.out)
        go_wp2_with (first
         |(go_at_call 113;(with_reducible refine(RL.out _).mono ?_);rintro e w2 ⟨rfl,rfl⟩)
         |(go_at_call 114;(with_reducible refine(RE.out _).mono ?_);rintro e w2 ⟨rfl,rfl⟩))
        go_round
        case rel=>exact⟨p2,i+1,45,by go_num,rfl,by omega,hle.out,HR2.out,hn.out,hk2.out,HB.out⟩
        case measure=>rw[iterPos_of hk2.out,iterPos_of hk0.out];have:=hlt.out;have:=hle.out;omega
       ·have e45:(y !=45)=true:=by simpa using c45
        have hm:Hid (midB y=false):=by unfold Hid midB;rw[HE.out];simp[c95,c45]
        have hbad:=Lh (NmC.no hi.out HZ.out HT.out hm.out)
        go_wp2_with (first
         |(go_at_call 113;(with_reducible refine(RL.out _).mono ?_);rintro e w2 ⟨rfl,rfl⟩)
         |(go_at_call 114;(with_reducible refine(RE.out _).mono ?_);rintro e w2 ⟨rfl,rfl⟩))
        go_ret
        exact GivesQ.no hbad.out (HI.out▸HB.out)
  ·have hend:i=l.length:=by
    have h5:=HR.out
    rw[rfrom_out (by rw[hlen.out];exact h1)]at h5
    have h6:=congrArg List.length h5
    rw[List.length_drop]at h6
    have h7:=HC.out.le
    simp at h6;omega
   have hnx:=fun ty=>Lib.run_next_end_at (P:=Tryz.prog) wr I s pos ty hk h1
   obtain⟨qe,hqe⟩: ∃q,endB y0=q:=⟨_,rfl⟩
   have RE:=Lh (fun w=>tend_is hqe w)
   have hD:=Lh (HC.out.done hend h24)
   have HE:=Lh hqe
   clear hqe hend
   go_wp2_with (go_at_call 114;(with_reducible refine(RE.out _).mono ?_);rintro e w2 ⟨rfl,rfl⟩)
   go_ret
   exact⟨qe,rfl,by rw[←HE.out];exact hD.out,HI.out▸HB0.out⟩
end
section
open Go.RowKit
theorem tgood_any (s:ByteArray) (w:World) (env:Env w) (_hm:s.size≤4294967296):Calls Tryz.prog 117 #[.string s] w (GivesQ (GoodL (runesOf (nums s))) w):=by
 have R:=Lh (Tryz.utf8_ValidString s w (by omega) env.utf)
 have V:=Lh (valid_good s)
 generalize Lib.validD s.data.toList=q at R V
 go_enter Tryz.func117,Tryz.ntmps117
 go_wp2_with (go_at_call 171;(with_reducible refine R.out.mono ?_);rintro e w1 ⟨rfl,hb⟩;have HB:=Lh hb;clear hb)
 go_ret
 exact⟨q,rfl,V.out,HB.out⟩
theorem tgood_yes {s:ByteArray} {w:World} (env:Env w) (hm:s.size≤4294967296) (h:GoodL (runesOf (nums s))):Calls Tryz.prog 117 #[.string s] w fun e w'=>e= .returned (.bool true)∧Below w.heap.size w w':=by
 refine(tgood_any s w env hm).mono ?_
 rintro e w' ⟨q,rfl,hq,hb⟩
 rw[hq.mpr h]
 exact⟨rfl,hb⟩
theorem tcount_big (s:ByteArray) (w:World) (_hm:s.size≤1099511627776):Calls Tryz.prog 118 #[.string s] w fun e w'=>e= .returned (.int .i64 (runesOf (nums s)).length)∧Below w.heap.size w w':=by
 have R:=Lh (Tryz.utf8_RuneCountInString s w (by omega))
 rw[count_runes]at R
 generalize (runesOf (nums s)).length=n at R ⊢
 go_enter Tryz.func118,Tryz.ntmps118
 go_wp2_with (go_at_call 172;(with_reducible refine R.out.mono ?_);rintro e w1 ⟨rfl,p,hb⟩;have HB:=Lh hb;clear hb)
 go_ret
 refine⟨rfl,?_⟩
 rw[HB.out]
 exact(Mj _ _).alloc (Nat.le_refl _) _
theorem tcount_any (s:ByteArray) (w:World) (_env:Env w) (hm:s.size≤4294967296):Calls Tryz.prog 118 #[.string s] w fun e w'=>e= .returned (.int .i64 (runesOf (nums s)).length)∧Below w.heap.size w w':=tcount_big s w (by omega)
structure FoM (w wr:World) (zs:List Int) (b i:Nat):Prop where
 new:w.heap.size≤b
 bel:Below w.heap.size w wr
 lo: ∀j,j<zs.length→j<i→wr.cell? ⟨b,j,none⟩=some (.int .u8 (foldB (zs.getD j 0)))
 hi: ∀j,j<zs.length→i≤j→wr.cell? ⟨b,j,none⟩=some (.int .u8 (zs.getD j 0))
 free: ∀j,j<zs.length→wr.frozen? ⟨b,j,none⟩=false
end
section
open Go.RowKit
def u8s (zs:List Int):List Value:=zs.map fun z=> .int .u8 z
theorem u8s_len (zs:List Int):(u8s zs).length=zs.length:=by simp[u8s]
theorem u8s_append (a b:List Int):u8s (a++b)=u8s a++u8s b:=by simp[u8s]
theorem u8s_bytes {zs:List Int} (h: ∀z∈zs,0≤z∧z≤255):Lib.byteCells (zs.map fun z=>UInt8.ofNat z.toNat)=u8s zs:=by
 unfold Lib.byteCells u8s
 rw[List.map_map]
 apply List.map_congr_left
 intro z hz
 have:=h z hz
 simp only[Function.comp,UInt8.toNat_ofNat']
 congr 1
 omega
theorem u8s_str {zs:List Int} (h: ∀z∈zs,0≤z∧z≤255):Lib.strCells (strOfNums zs)=u8s zs:=by
 have:=u8s_bytes h
 unfold Lib.byteCells at this
 unfold Lib.strCells strOfNums
 simpa using this
theorem str_size (zs:List Int):(strOfNums zs).size=zs.length:=strOfNums_size zs
abbrev BldF (B b:Nat) (xs:List Value) (w:World):Prop:=Lib.IsBuilderF 142 5 B b xs w
theorem cc_new (b:Nat) (w:World) (h0:w.cell? ⟨b,0,none⟩=some (.pointer none)) (hsh:w.shape? b=some (142,2)) (hfz:w.frozen? ⟨b,0,none⟩=false):
  Calls Tryz.prog 228 #[.pointer (some ⟨b,0,none⟩)] w fun e w'=>e= .returned (.tuple #[])∧w'=w.setCell ⟨b,0,none⟩ (.pointer (some ⟨b,0,none⟩)):=by
 obtain⟨j,hj,hjs⟩:=Option.map_eq_some_iff.1 (show(Tryz.prog.info? 142).map (·.size)=some 2 by kernel_rfl)
 go_enter Tryz.func228,Tryz.ntmps228
 go_wp2
 rw[Lib.run_to_unsafe w ⟨b,0,none⟩ Tryz.underlying139 Tryz.underlying298 hj (by rw[hjs];decide) hsh (Nat.zero_lt_succ 1)]
 simp only[Result.andThen]
 rw[Oper.upon_value]
 go_wp2
 rw[run_callFunc_extern Tryz.func258 (by kernel_rfl) (by kernel_rfl) (by kernel_rfl) (e:=Extern.AbiNoEscape.same) (by kernel_rfl)]
 rw[Lib.run_noEscape]
 simp only[Result.andThen]
 rw[Oper.upon_value]
 go_wp2
 rw[Lib.run_from_unsafe w ⟨b,0,none⟩ Tryz.underlying298 Tryz.underlying139 hj hsh (by kernel_rfl)]
 simp only[Result.andThen]
 rw[Oper.upon_value]
 go_wp2
 go_end0
 exact⟨rfl,rfl⟩
theorem cc_used (b:Nat) (w:World) (h0:w.cell? ⟨b,0,none⟩=some (.pointer (some ⟨b,0,none⟩))):
  Calls Tryz.prog 228 #[.pointer (some ⟨b,0,none⟩)] w fun e w'=>e= .returned (.tuple #[])∧w'=w:=by
 obtain⟨j,hj⟩: ∃j,Tryz.prog.info? 142=some j:=Option.isSome_iff_exists.mp (by kernel_rfl)
 have hne:=Lib.run_neq_ptr_same (P:=Tryz.prog) w (tp:=139) (te:=142) ⟨b,0,none⟩ Tryz.underlying139 hj
 go_enter Tryz.func228,Tryz.ntmps228
 go_wp2
 go_end0
 exact⟨rfl,rfl⟩
theorem cc_any (B b:Nat) (xs:List Value) (w:World) (h:BldF B b xs w):
  Calls Tryz.prog 228 #[.pointer (some ⟨b,0,none⟩)] w fun e w'=>e= .returned (.tuple #[])∧Lib.BuilderAtF 142 5 B b (.pointer (some ⟨b,0,none⟩)) xs w'∧Below B w w'∧Lib.OthersKept 5 (some b) w w':=by
 rcases h with h|h
 ·refine(cc_new b w h.cell0 h.shape h.frozen0).mono ?_
  rintro e w' ⟨rfl,rfl⟩
  exact⟨rfl,h.used _,(Mj B w).setCell (p:=⟨b,0,none⟩) h.1 _,(Lib.OthersKept.refl _ _ w).setCell ⟨b,0,none⟩ rfl _⟩
 ·refine(cc_used b w h.cell0).mono ?_
  rintro e w' ⟨rfl,rfl⟩
  exact⟨rfl,h,Mj B _,Lib.OthersKept.refl _ _ _⟩
theorem u8_info: ∃i,Tryz.prog.info? 5=some i∧i.zero=some (.int .u8 0)∧i.size=1∧i.bytes=1:=by
 have h:(Tryz.prog.info? 5).map (fun i=>(i.zero,i.size,i.bytes))=some (some (.int .u8 0),1,1):=by kernel_rfl
 cases e:Tryz.prog.info? 5 with
 |none=>rw[e]at h;cases h
 |some i=>
  rw[e]at h
  simp only[Option.map_some,Option.some.injEq,Prod.mk.injEq]at h
  exact⟨i,rfl,h.1,h.2.1,h.2.2⟩
theorem wbyte_any (B b:Nat) (zs:List Int) (c:Int) (w:World) (h:BldF B b (u8s zs) w) (hlen:zs.length+1≤140737488355328) (hBw:B≤w.heap.size):
  Calls Tryz.prog 204 #[.pointer (some ⟨b,0,none⟩), .int .u8 c] w fun e w'=>e= .returned .nilIface∧BldF B b (u8s (zs++ [c])) w'∧Below B w w'∧Lib.OthersKept 5 (some b) w w':=by
 obtain⟨i0,hi,hz0,hz1,hz2⟩:=u8_info
 go_enter Tryz.func204,Tryz.ntmps204
 go_wp2_with (go_at_call 228;refine(cc_any B b _ _ h).mono ?_)
 rintro e w1 ⟨rfl,h1,hb1,hk1⟩
 obtain⟨hB,v,hbk,hown,hne⟩:=h1
 rw[u8s_len]at hown
 have c0:w1.cell? ⟨b,0,none⟩=some (.pointer (some ⟨b,0,none⟩)):=by rw[Lib.cell_of_heap hbk];rfl
 have c1:w1.cell? ⟨b,1,none⟩=some v:=by rw[Lib.cell_of_heap hbk];rfl
 go_wp2_with (at_builtin;refine wpList_append_ownF _ rfl _ _ 140 rfl B 5 i0 (.int .u8 0) 1 1 Tryz.underlying140 hi hz0 hz1 hz2 rfl (by decide) _ _ _ rfl (hown.alloc _) ⟨w1.heap.size,0,none⟩ 1 1 [.int .u8 c] rfl rfl ?c1 ?c2 ?c3 ?c4 ?c5 ?_)
 case c1=>
  intro j u hj
  match j,hj with
  |0,hj=>simp at hj;subst hj;simp[Addr.add]
 case c2=>intro u hu;simp at hu;subst hu;rfl
 case c3=>unfold maxLen;omega
 case c4=>omega
 case c5=>have:=hb1.size;simp;omega
 intro v' w2 hown' hgrow _
 have hlt:b<w1.heap.size:=(Array.getElem?_eq_some_iff.1 hbk).1
 have hb2:w2.heap[b]?=some (.cells #[.pointer (some ⟨b,0,none⟩),v] 142 (0,0)):=by
  rw[hgrow.block b (by simp;omega) (fun e=>hne e.symm),Lib.alloc_old w1 _ b hlt]
  exact hbk
 have d0:w2.cell? ⟨b,0,none⟩=some (.pointer (some ⟨b,0,none⟩)):=by rw[Lib.cell_of_heap hb2];rfl
 have d1:w2.cell? ⟨b,1,none⟩=some v:=by rw[Lib.cell_of_heap hb2];rfl
 have f1:w2.frozen? ⟨b,1,none⟩=false:=Lib.frozen_of_heap hb2 1
 obtain⟨g,cap,rfl⟩: ∃g cap,v'= .slice (some ⟨g,0,none⟩) (zs.length+1) cap:=by
  rcases hown'.2 with⟨_,h0⟩|⟨g,cap,cur,fz,hv,_⟩
  ·omega
  ·exact⟨g,cap,hv⟩
 go_wp2
 go_ret
 refine⟨rfl,Or.inr ?_,?_,((hk1.alloc _).grown hgrow (Lib.ownsRowF_kind (hown.alloc _))).setCell ⟨b,1,none⟩ rfl _⟩
 ·refine Lib.BuilderAtF.put (T:=142) (e:=5) hB hb2 (bs':=u8s (zs++ [c])) ?_ (by decide)
  rw[u8s_len,u8s_append,List.length_append]
  exact hown'
 ·exact((hb1.alloc (by have:=hb1.size;omega) _).grown hgrow (by have:=hb1.size;simp;omega) (fun k hk=>(hown.lt k hk).1)).setCell (p:=⟨b,1,none⟩) hB _
theorem wstr_any (B b:Nat) (zs ys:List Int) (hy: ∀z∈ys,0≤z∧z≤255) (w:World) (h:BldF B b (u8s zs) w) (hlen:zs.length+ys.length≤140737488355328) (hBw:B≤w.heap.size):
  Calls Tryz.prog 202 #[.pointer (some ⟨b,0,none⟩), .string (strOfNums ys)] w fun e w'=>e= .returned (.tuple #[.int .i64 ys.length, .nilIface])∧BldF B b (u8s (zs++ys)) w'∧Below B w w'∧Lib.OthersKept 5 (some b) w w':=by
 obtain⟨i0,hi,hz0,hz1,hz2⟩:=u8_info
 have hcells:=u8s_str hy
 have hsz:=str_size ys
 generalize strOfNums ys=s at hcells hsz ⊢
 have HS:=Lh hsz
 have HC:=Lh hcells
 clear hcells hsz
 go_enter Tryz.func202,Tryz.ntmps202
 go_wp2_with (go_at_call 228;refine(cc_any B b _ _ h).mono ?_)
 rintro e w1 ⟨rfl,h1,hb1,hk1⟩
 obtain⟨hB,v,hbk,hown,hne⟩:=h1
 rw[u8s_len]at hown
 have c0:w1.cell? ⟨b,0,none⟩=some (.pointer (some ⟨b,0,none⟩)):=by rw[Lib.cell_of_heap hbk];rfl
 have c1:w1.cell? ⟨b,1,none⟩=some v:=by rw[Lib.cell_of_heap hbk];rfl
 go_wp2_with (at_builtin;refine Lib.wpList_append_own_stringF _ rfl _ _ 140 9 rfl B 5 i0 Tryz.underlying140 Tryz.underlying9 hi hz0 hz1 hz2 _ _ _ rfl hown s rfl ?c3 ?c4 ?c5 ?_)
 case c3=>rw[HS.out];unfold maxLen;omega
 case c4=>rw[HS.out];omega
 case c5=>have:=hb1.size;omega
 intro v' w2 hown' hgrow _
 have hlt:b<w1.heap.size:=(Array.getElem?_eq_some_iff.1 hbk).1
 have hb2:w2.heap[b]?=some (.cells #[.pointer (some ⟨b,0,none⟩),v] 142 (0,0)):=by
  rw[hgrow.block b hlt (fun e=>hne e.symm)]
  exact hbk
 have d0:w2.cell? ⟨b,0,none⟩=some (.pointer (some ⟨b,0,none⟩)):=by rw[Lib.cell_of_heap hb2];rfl
 have d1:w2.cell? ⟨b,1,none⟩=some v:=by rw[Lib.cell_of_heap hb2];rfl
 have f1:w2.frozen? ⟨b,1,none⟩=false:=Lib.frozen_of_heap hb2 1
 have H':=Lh hown'
 obtain⟨ao,n',cap,rfl⟩: ∃ao n' cap,v'= .slice ao n' cap:=by
  rcases hown'.2 with⟨hv,_⟩|⟨g,cap,cur,fz,hv,_⟩
  ·exact⟨_,_,_,hv⟩
  ·exact⟨_,_,_,hv⟩
 clear hown'
 go_wp2
 go_ret2
 refine⟨?_,Or.inr ?_,?_,(hk1.grown hgrow (Lib.ownsRowF_kind hown)).setCell ⟨b,1,none⟩ rfl _⟩
 ·rw[HS.out];rfl
 ·refine Lib.BuilderAtF.put (T:=142) (e:=5) hB hb2 (bs':=u8s (zs++ys)) ?_ (by decide)
  rw[u8s_len,u8s_append,List.length_append]
  have:=H'.out
  rw[HS.out,HC.out]at this
  exact this
 ·exact(hb1.grown hgrow (by have:=hb1.size;omega) (fun k hk=>(hown.lt k hk).1)).setCell (p:=⟨b,1,none⟩) hB _
theorem bstr_any (B b:Nat) (zs:List Int) (hz: ∀z∈zs,0≤z∧z≤255) (w:World) (h:BldF B b (u8s zs) w) (hBw:B≤w.heap.size):
  Calls Tryz.prog 96 #[.pointer (some ⟨b,0,none⟩)] w fun e w'=>e= .returned (.string (strOfNums zs))∧BldF B b (u8s zs) w'∧Below B w w'∧Lib.OthersKept 5 (some b) w w':=by
 rw[←u8s_bytes hz]at h ⊢
 exact Tryz.Builder_String_any_k B b _ w h hBw
theorem bld_new (w:World) (B b:Nat) (hb:b=w.heap.size) (hB:B≤b):BldF B b (u8s []) (w.alloc (.cells #[.pointer none, .slice none 0 0] 142)):=by
 subst hb
 exact Or.inl ⟨hB, .slice none 0 0,heap_alloc_new w _,World.ownsRowF_nil _ _ _ _,fun h=>by cases h⟩
end
section
open Go.RowKit
structure RdF (B b:Nat) (a n d:Int) (zs:List Int) (w:World):Prop where
 hB:B≤b
 ex: ∃p v,(p= .pointer none∨p= .pointer (some ⟨b,1,none⟩))∧w.heap[b]?=some (.cells #[.int .i64 a,p,v, .int .i32 n, .int .i64 d] 271 (0,0))∧
  w.ownsRowF B 5 1 v zs.length (u8s zs)∧v.ownBlock≠some b∧(zs= []→v= .slice none 0 0)
def KF (B b:Nat) (w w':World):Prop:=Below B w w'∧Lib.OthersKept 5 (some b) w w'
theorem KF.refl (B b:Nat) (w:World):KF B b w w:=⟨Mj _ _,Lib.OthersKept.refl _ _ _⟩
theorem KF.trans {B b:Nat} {w w1 w2:World} (h:KF B b w w1) (g:KF B b w1 w2):KF B b w w2:=⟨h.1.trans g.1,h.2.trans g.2⟩
theorem KF.put {B b:Nat} {w w1:World} (h:KF B b w w1) (hB:B≤b) (o:Nat) (v:Value):KF B b w (w1.setCell ⟨b,o,none⟩ v):=⟨h.1.setCell hB _,h.2.setCell ⟨b,o,none⟩ rfl _⟩
theorem own_put {w:World} {B b:Nat} {v:Value} {n:Nat} {xs:List Value} (h:w.ownsRowF B 5 1 v n xs) (hne:v.ownBlock≠some b) (o:Nat) (x:Value):(w.setCell ⟨b,o,none⟩ x).ownsRowF B 5 1 v n xs:=
 h.kept (row:=some b) ⟨rfl,rfl,rfl,by simp[World.setCell],fun k _ hk=>Below.heap_setCell _ _ _ _ (fun e=>hk (by simp[e]))⟩ (Or.inr hne)
end
section
open Go.RowKit
def qxs:Qs→List Int
 | .start=> []| .norm xs=>xs| .esc xs=>xs| .uni xs=>xs| .hex xs _ _=>xs| .done xs=>xs| .dead=> []
def qat:Qs→Int
 | .start=>0| .norm _=>1| .esc _=>2| .uni _=>3| .hex _ _ _=>4| .done _=>5| .dead=>6
def qnum:Qs→Int→Int→Prop
 | .uni _,n,d=>n=0∧d=0
 | .hex _ k x,n,d=>n=x∧d=k∧k≤6∧0≤x∧x<((16^k:Nat):Int)
 |_,_,_=>True
structure RS (B b m:Nat) (u:Qs) (w:World):Prop where
 ok: ∀r∈qxs u,RuneOk r
 len:(qxs u).length≤m
 rd: ∃n d,RdF B b (qat u) n d ((qxs u).flatMap encL) w∧qnum u n d
def TK (B b m:Nat) (u:Qs) (r:Int) (w:World) (e:Ending) (w':World):Prop:=
 KF B b w w'∧((e= .returned (.bool true)∧ustep u r≠ .dead∧RS B b (m+1) (ustep u r) w')∨(e= .returned (.bool false)∧ustep u r= .dead))
end
section
open Go.RowKit
end
section
open Go.RowKit
theorem tz64_sixteen (w:World) (env:EnvQ w):Calls Tryz.prog 306 #[.int .u64 16] w fun e w'=>e= .returned (.int .i64 4)∧w=w':=by
 have h4:=env.deb.four
 have hx:IntKind.u64.wrap (bits .and .u64 16 (IntKind.u64.wrap (-16))*285870213051353865)/288230376151711744=15:=by decide+kernel
 clear env
 go_enter Tryz.func306,Tryz.ntmps306
 go_wp2
 go_ret
 exact⟨rfl,rfl⟩
theorem tz_sixteen (w:World) (env:EnvQ w):Calls Tryz.prog 300 #[.int .u64 16] w fun e w'=>e= .returned (.int .i64 4)∧w=w':=by
 have H:=Lh (tz64_sixteen w env)
 clear env
 go_enter Tryz.func300,Tryz.ntmps300
 go_wp2_with (go_at_call 306;(with_reducible refine H.out.mono ?_);rintro e w1 ⟨rfl,rfl⟩)
 go_ret
 exact⟨rfl,rfl⟩
theorem pow2_sixteen (w:World):Calls Tryz.prog 299 #[.int .i64 16] w fun e w'=>e= .returned (.bool true)∧w=w':=by
 go_enter Tryz.func299,Tryz.ntmps299
 go_wp2
 go_ret
 exact⟨rfl,rfl⟩
structure HxM (w wr:World) (b f:Nat) (xs:List Int):Prop where
 row: ∀i,i<65→∃v,wr.cell? ⟨b,i,none⟩=some v
 free: ∀i,i<65→wr.frozen? ⟨b,i,none⟩=false
 got: ∀i,i<xs.length→wr.cell? ⟨b,f+i,none⟩=some (.int .u8 (xs.getD i 0))
 bel:Below w.heap.size w wr
 new:w.heap.size≤b
theorem HxM.put {w W:World} {b f:Nat} {d:Int} {xs:List Int} (h:HxM w W b f xs) (hf:0<f) (hf':f≤65) (g:Nat) (hg:g=f-1):HxM w (W.setCell ⟨b,g,none⟩ (.int .u8 d)) b g (d::xs):=by
 subst hg
 obtain⟨row,free,got,bel,new⟩:=h
 obtain⟨v,hv⟩:=row (f-1) (by omega)
 refine⟨?_,fun i hi=>by rw[World.frozen?_setCell];exact free i hi,?_,bel.setCell new _,new⟩
 ·intro i hi
  by_cases he:i=f-1
  ·subst he;exact⟨_,World.cell?_setCell_same _ _ _ hv⟩
  ·rw[World.cell?_setCell_other _ _ _ _ (by intro e;injection e with _ e2;omega)];exact row i hi
 ·intro i hi
  rcases i with _|i
  ·exact World.cell?_setCell_same _ _ _ hv
  ·rw[World.cell?_setCell_other _ _ _ _ (by intro e;injection e with _ e2;omega),show f-1+(i+1)=f+i by omega]
   simpa using got i (by simpa using hi)
theorem hx_slice (W:World) (b f n:Nat) (hf:n+f=65) (h0:f<65):
  (Instr.sliceAt 332 (.pointer (some ⟨b,0,none⟩)) (some (.int .i64 (f:Int))) none none).run Tryz.prog W= .ok (.slice (some ⟨b,f,none⟩) n n) W:=by
 have hl:Tryz.prog.arrayLen 332=65:=by kernel_rfl
 have:=run_sliceAt_array_l (P:=Tryz.prog) W 332 ⟨b,0,none⟩ (by kernel_rfl) .i64 (f:Int) (by omega) (by rw[hl];omega)
 rw[this,hl]
 have hs:(sizeOf (Tryz.prog.elem 332)).run Tryz.prog W= .ok 1 W:=by kernel_rfl
 rw[hs]
 simp only[Result.andThen,slicedAt,Int.toNat_natCast,Nat.mul_one]
 rw[if_neg (by omega),show 65-f=n by omega]
 rcases f with _|f<;>simp[Addr.add]
theorem and15: ∀X:Fin 256,bits .and .u64 ((X.val:Nat):Int) 15=((X.val%16:Nat):Int):=by decide+kernel
theorem hx_digit (k:Nat) (h:k<16) (W:World):(Instr.index 9 (.string ⟨#[48,49,50,51,52,53,54,55,56,57,97,98,99,100,101,102,103,104,105,106,107,108,109,110,111,112,113,114,115,116,117,118,119,120,121,122]⟩) (.int .u64 (k:Int))).run Tryz.prog W= .ok (.int .u8 (hexD k)) W:=by
 have:k=0∨k=1∨k=2∨k=3∨k=4∨k=5∨k=6∨k=7∨k=8∨k=9∨k=10∨k=11∨k=12∨k=13∨k=14∨k=15:=by omega
 rcases this with rfl|rfl|rfl|rfl|rfl|rfl|rfl|rfl|rfl|rfl|rfl|rfl|rfl|rfl|rfl|rfl<;>(show _=_;kernel_rfl)
theorem cell_new_at' (W:World) (C:Array Value) (t:TypeId) (g j:Nat) (hg:g=W.heap.size) (hj:j<C.size): ∃v,(W.alloc (.cells C t)).cell? ⟨g,j,none⟩=some v:=by
 subst hg
 exact⟨C[j],by rw[World.cell?_alloc_mark];exact Array.getElem?_eq_getElem hj⟩
theorem fbits_any (N:Nat) (hN:N<256) (w:World) (env:EnvQ w):
  Calls Tryz.prog 287 #[.slice none 0 0, .int .u64 (N:Int), .int .i64 16, .bool false, .bool false] w fun e w'=>e= .returned (.tuple #[.slice none 0 0, .string (strOfNums (hexL N))])∧Below w.heap.size w w':=by
 have HE:=Lh env
 have HP:=Lh (fun w=>pow2_sixteen w)
 clear env
 go_enter Tryz.func287,Tryz.ntmps287
 go_wp2_with (first
  |(go_at_call 299;(with_reducible refine(HP.out _).mono ?_);rintro e w1 ⟨rfl,rfl⟩)
  |(go_at_call 300;(with_reducible refine(tz_sixteen _ (HE.out.step (below_more (Mj _ _) _))).mono ?_);rintro e w1 ⟨rfl,rfl⟩))
 obtain⟨b,hb⟩: ∃b,w.heap.size=b:=⟨_,rfl⟩
 go_loopw [1,13] (fun v1 v13 wr=> ∃(f m:Nat) (xs:List Int),v1= .int .u64 (m:Int)∧v13= .int .i64 (f:Int)∧hexL N=hexL m++xs∧xs.length+f=65∧((f=65∧m<256)∨(f=64∧m<16))∧HxM w wr b f xs) (fun v1 _ _=>(intOf v1).toNat)
 case atStart=>
  refine⟨65,N,[],rfl,rfl,by simp,rfl,Or.inl ⟨rfl,hN⟩,?_,?_,?_,?_,by omega⟩
  ·intro i hi;exact cell_new_at' _ _ _ _ _ hb.symm (by simpa using hi)
  ·intro i hi;subst hb;simp[go_sem]
  ·intro i hi;simp at hi
  ·exact(Mj _ _).alloc (Nat.le_refl _) _
 case round=>
  obtain⟨f,m,xs,rfl,rfl,hx,hl,hc,hM⟩:=hrel
  have HX:=Lh hx
  have HL:=Lh hl
  have HM:=Lh hM
  have hf0:Hid (0<f∧f≤65):=by unfold Hid;omega
  obtain⟨v,hv⟩:=hM.row (f-1) (by omega)
  have hv':=hM.free (f-1) (by omega)
  have hf1:(f:Int)-1=((f-1:Nat):Int):=by omega
  obtain⟨g,hg⟩: ∃g,f-1=g:=⟨_,rfl⟩
  rw[hg]at hv hv' hf1
  have HG:=Lh hg
  have hg65:g<65:=by omega
  have hm256:m<256:=by omega
  clear hx hl hM hg
  by_cases h16:m<16
  ·clear hc
   have hd:=hx_digit m h16
   have hlt: ¬(m:Int)≥16:=by omega
   have hn:(xs.length+1)+g=65:=by have:=HL.out;have:=HG.out;have:=hf0.out;omega
   have hsl:=fun W=>hx_slice W b g (xs.length+1) hn hg65
   have M1:=Lh (HM.out.put (d:=hexD m) hf0.out.1 hf0.out.2 g HG.out.symm)
   have hcv:(convert 140 9 (.slice (some ⟨b,g,none⟩) (xs.length+1) (xs.length+1))).run Tryz.prog (wr.setCell ⟨b,g,none⟩ (.int .u8 (hexD m)))= .ok (.string (strOfNums (hexD m::xs))) (wr.setCell ⟨b,g,none⟩ (.int .u8 (hexD m))):=
    run_convert_bytes_arg _ 140 5 Tryz.underlying140 Tryz.underlying5 _ _ _ _ (hexD m::xs) rfl (fun i hi=>M1.out.got i (by simpa using hi)) 9 Tryz.underlying9
   have hfin:Hid (strOfNums (hexD m::xs)=strOfNums (hexL N)):=by unfold Hid;rw[HX.out,hexL_small h16];rfl
   generalize strOfNums (hexD m::xs)=R at hcv hfin
   clear hn
   go_wp2
   go_ret2
   exact⟨by rw[←hfin.out];rfl,by have:=M1.out.bel;rw[hb]at this;exact this⟩
  ·have hf65:f=65:=by omega
   obtain⟨k,hk⟩: ∃k,m%16=k:=⟨_,rfl⟩
   obtain⟨q,hq⟩: ∃q,m/16=q:=⟨_,rfl⟩
   have hd:=hx_digit k (by omega)
   have ha:bits .and .u64 (m:Int) 15=(k:Int):=by rw[←hk];exact and15 ⟨m,hm256⟩
   have hge:(m:Int)≥16:=by omega
   have hsh:Hid ((m:Int)/16=(q:Int)):=(by omega:(m:Int)/16=(q:Int))
   have M1:=Lh (HM.out.put (d:=hexD k) hf0.out.1 hf0.out.2 g HG.out.symm)
   have h16m:Hid (16≤m):=(by omega:16≤m)
   have hq16:Hid (q<16):=(by omega:q<16)
   have hqm:Hid (q<m):=(by omega:q<m)
   have h65:=Lh hf65
   have HK:=Lh hk
   have HQ:=Lh hq
   clear h16 hf65 hc hk hq
   go_wp2
   go_roundw
   case rel=>
    refine⟨g,q,hexD k::xs,by rw[hsh.out],rfl,?_,?_,Or.inr ⟨?_,hq16.out⟩,M1.out⟩
    ·rw[HX.out,hexL_big (by have:=h16m.out;omega),List.append_assoc,HQ.out,HK.out];rfl
    ·have:=HL.out;have:=HG.out;have:=hf0.out;rw[Jq];omega
    ·have:=h65.out;have:=HG.out;omega
   case measure=>simp[intOf];have:=h16m.out;omega
theorem fint16_any (N:Nat) (hN:N<256) (w:World) (env:EnvQ w):
  Calls Tryz.prog 240 #[.int .i64 (N:Int), .int .i64 16] w fun e w'=>e= .returned (.string (strOfNums (hexL N)))∧Below w.heap.size w w':=by
 have HI:Calls Tryz.prog 269 #[.int .i64 (N:Int), .int .i64 16] w fun e w'=>e= .returned (.string (strOfNums (hexL N)))∧Below w.heap.size w w':=by
  have HF:=Lh (fbits_any N hN w env)
  have hw:IntKind.u64.wrap (N:Int)=(N:Int):=by rw[IntKind.wrap_u64];omega
  have hlt: ¬(N:Int)<0:=by omega
  clear env
  generalize strOfNums (hexL N)=R at HF ⊢
  go_enter Tryz.func269,Tryz.ntmps269
  go_wp2_with (go_at_call 287;(with_reducible refine HF.out.mono ?_);rintro e w1 ⟨rfl,g⟩;have G:=Lh g;clear g)
  go_ret
  exact⟨rfl,G.out⟩
 have HI:=Lh HI
 clear env
 generalize strOfNums (hexL N)=R at HI ⊢
 go_enter Tryz.func240,Tryz.ntmps240
 go_wp2_with (go_at_call 269;(with_reducible refine HI.out.mono ?_);rintro e w1 ⟨rfl,g⟩;have G:=Lh g;clear g)
 go_ret
 exact⟨rfl,G.out⟩
end
end Go.Proofs.YtiapmjkaappcfaaGreatDoor
