/-
  Configs as values.
-/
import Derived.Test.YtgmfkbamfnkbgaaDoorPkChangeWindows03
import Derived.Laws.IdiomStrings
import Derived.Shelf.Strings.BuilderRune
import Derived.RegionTactic
import Derived.ChangeAlike
import Derived.Deep.LoopGhost
set_option maxRecDepth 100000
set_option maxHeartbeats 8000000
namespace Go.Proofs.YtgmfkbamfnkbgaaDoor
open Lib renaming hid→Lh
section
open Go.RowKit
theorem txt_rune (w:World) (k:Nat) (s:ByteArray) (pos:Nat) (hk:w.heap[k]?=some (.stringIter s pos)) (h:pos<s.size):
  ∃y:Int,(∀ty,(Instr.next (.pointer (some ⟨k,0,none⟩)) true ty).run Tryd.prog w= .ok (.tuple #[.bool true, .int .i64 pos, .int .i32 y]) (w.iterAt k s (pos+widA (nums s) pos)))∧0≤y∧y≤1114111∧
   ((runeA (nums s) pos= -1∧y=65533)∨(0≤runeA (nums s) pos∧y=runeA (nums s) pos)):=by
 have hl:=runeA_le (nums s) pos (by rw[nums_at s pos h];omega)
 rcases decode_rune s pos h with⟨h1,h2,h3⟩|⟨h1,h3⟩
 ·exact⟨65533,fun ty=>by rw[Lib.run_next_any_at w k s pos ty hk h,h3,h2];rfl,by omega,by omega,Or.inl ⟨h1,rfl⟩⟩
 ·exact⟨runeA (nums s) pos,fun ty=>by
   rw[Lib.run_next_any_at w k s pos ty hk h,h3]
   show Result.ok (Value.tuple #[.bool true, .int .i64 pos, .int .i32 (((runeA (nums s) pos).toNat:Nat):Int)]) _=_
   rw[Int.toNat_of_nonneg h1],h1,by omega,Or.inr ⟨h1,rfl⟩⟩
theorem tletter_same (r:Int) (w:World):Calls Tryd.prog 78 #[.int .i32 r] w fun e w'=>e= .returned (.bool (letterB r))∧w=w':=by
 obtain⟨q,hq⟩: ∃q,letterB r=q:=⟨_,rfl⟩
 rw[hq]
 have HQ:=Lh hq
 clear hq
 have hc:r≤64∨(65≤r∧r≤90)∨(91≤r∧r≤96)∨(97≤r∧r≤122)∨(123≤r∧r≤191)∨(192≤r∧r≤214)∨r=215∨(216≤r∧r≤246)∨r=247∨(248≤r∧r≤591)∨(592≤r∧r≤879)∨(880≤r∧r≤1023)∨(1024≤r∧r≤1279)∨1280≤r:=by omega
 rcases hc with h0|⟨h0,h1⟩|⟨h0,h1⟩|⟨h0,h1⟩|⟨h0,h1⟩|⟨h0,h1⟩|rfl|⟨h0,h1⟩|rfl|⟨h0,h1⟩|⟨h0,h1⟩|⟨h0,h1⟩|⟨h0,h1⟩|h0
 ·obtain rfl:q=false:=by rw[←HQ.out];unfold letterB;simp;omega
  have e1:(r==215)=false:=by simp;omega
  have e2:(r==247)=false:=by simp;omega
  have d0:decide (r≥97)=false:=by simp;omega
  have d1:decide (r≤122)=true:=by simp;omega
  have d2:decide (r≥65)=false:=by simp;omega
  have d3:decide (r≤90)=true:=by simp;omega
  have d4:decide (r≥192)=false:=by simp;omega
  have d5:decide (r≤591)=true:=by simp;omega
  have d6:decide (r≥880)=false:=by simp;omega
  have d7:decide (r≤1023)=true:=by simp;omega
  have d8:decide (r≥1024)=false:=by simp;omega
  have d9:decide (r≤1279)=true:=by simp;omega
  clear h0
  go_enter Tryd.func78,Tryd.ntmps78
  go_wp2
  go_ret
  exact⟨rfl,rfl⟩
 ·obtain rfl:q=true:=by rw[←HQ.out];unfold letterB;simp;omega
  have e1:(r==215)=false:=by simp;omega
  have e2:(r==247)=false:=by simp;omega
  have d0:decide (r≥97)=false:=by simp;omega
  have d1:decide (r≤122)=true:=by simp;omega
  have d2:decide (r≥65)=true:=by simp;omega
  have d3:decide (r≤90)=true:=by simp;omega
  have d4:decide (r≥192)=false:=by simp;omega
  have d5:decide (r≤591)=true:=by simp;omega
  have d6:decide (r≥880)=false:=by simp;omega
  have d7:decide (r≤1023)=true:=by simp;omega
  have d8:decide (r≥1024)=false:=by simp;omega
  have d9:decide (r≤1279)=true:=by simp;omega
  clear h0 h1
  go_enter Tryd.func78,Tryd.ntmps78
  go_wp2
  go_ret
  exact⟨rfl,rfl⟩
 ·obtain rfl:q=false:=by rw[←HQ.out];unfold letterB;simp;omega
  have e1:(r==215)=false:=by simp;omega
  have e2:(r==247)=false:=by simp;omega
  have d0:decide (r≥97)=false:=by simp;omega
  have d1:decide (r≤122)=true:=by simp;omega
  have d2:decide (r≥65)=true:=by simp;omega
  have d3:decide (r≤90)=false:=by simp;omega
  have d4:decide (r≥192)=false:=by simp;omega
  have d5:decide (r≤591)=true:=by simp;omega
  have d6:decide (r≥880)=false:=by simp;omega
  have d7:decide (r≤1023)=true:=by simp;omega
  have d8:decide (r≥1024)=false:=by simp;omega
  have d9:decide (r≤1279)=true:=by simp;omega
  clear h0 h1
  go_enter Tryd.func78,Tryd.ntmps78
  go_wp2
  go_ret
  exact⟨rfl,rfl⟩
 ·obtain rfl:q=true:=by rw[←HQ.out];unfold letterB;simp;omega
  have e1:(r==215)=false:=by simp;omega
  have e2:(r==247)=false:=by simp;omega
  have d0:decide (r≥97)=true:=by simp;omega
  have d1:decide (r≤122)=true:=by simp;omega
  have d2:decide (r≥65)=true:=by simp;omega
  have d3:decide (r≤90)=false:=by simp;omega
  have d4:decide (r≥192)=false:=by simp;omega
  have d5:decide (r≤591)=true:=by simp;omega
  have d6:decide (r≥880)=false:=by simp;omega
  have d7:decide (r≤1023)=true:=by simp;omega
  have d8:decide (r≥1024)=false:=by simp;omega
  have d9:decide (r≤1279)=true:=by simp;omega
  clear h0 h1
  go_enter Tryd.func78,Tryd.ntmps78
  go_wp2
  go_ret
  exact⟨rfl,rfl⟩
 ·obtain rfl:q=false:=by rw[←HQ.out];unfold letterB;simp;omega
  have e1:(r==215)=false:=by simp;omega
  have e2:(r==247)=false:=by simp;omega
  have d0:decide (r≥97)=true:=by simp;omega
  have d1:decide (r≤122)=false:=by simp;omega
  have d2:decide (r≥65)=true:=by simp;omega
  have d3:decide (r≤90)=false:=by simp;omega
  have d4:decide (r≥192)=false:=by simp;omega
  have d5:decide (r≤591)=true:=by simp;omega
  have d6:decide (r≥880)=false:=by simp;omega
  have d7:decide (r≤1023)=true:=by simp;omega
  have d8:decide (r≥1024)=false:=by simp;omega
  have d9:decide (r≤1279)=true:=by simp;omega
  clear h0 h1
  go_enter Tryd.func78,Tryd.ntmps78
  go_wp2
  go_ret
  exact⟨rfl,rfl⟩
 ·obtain rfl:q=true:=by rw[←HQ.out];unfold letterB;simp;omega
  have e1:(r==215)=false:=by simp;omega
  have e2:(r==247)=false:=by simp;omega
  have d0:decide (r≥97)=true:=by simp;omega
  have d1:decide (r≤122)=false:=by simp;omega
  have d2:decide (r≥65)=true:=by simp;omega
  have d3:decide (r≤90)=false:=by simp;omega
  have d4:decide (r≥192)=true:=by simp;omega
  have d5:decide (r≤591)=true:=by simp;omega
  have d6:decide (r≥880)=false:=by simp;omega
  have d7:decide (r≤1023)=true:=by simp;omega
  have d8:decide (r≥1024)=false:=by simp;omega
  have d9:decide (r≤1279)=true:=by simp;omega
  clear h0 h1
  go_enter Tryd.func78,Tryd.ntmps78
  go_wp2
  go_ret
  exact⟨rfl,rfl⟩
 ·obtain rfl:q=false:=by rw[←HQ.out];decide
  go_enter Tryd.func78,Tryd.ntmps78
  go_wp2
  go_ret
  exact⟨rfl,rfl⟩
 ·obtain rfl:q=true:=by rw[←HQ.out];unfold letterB;simp;omega
  have e1:(r==215)=false:=by simp;omega
  have e2:(r==247)=false:=by simp;omega
  have d0:decide (r≥97)=true:=by simp;omega
  have d1:decide (r≤122)=false:=by simp;omega
  have d2:decide (r≥65)=true:=by simp;omega
  have d3:decide (r≤90)=false:=by simp;omega
  have d4:decide (r≥192)=true:=by simp;omega
  have d5:decide (r≤591)=true:=by simp;omega
  have d6:decide (r≥880)=false:=by simp;omega
  have d7:decide (r≤1023)=true:=by simp;omega
  have d8:decide (r≥1024)=false:=by simp;omega
  have d9:decide (r≤1279)=true:=by simp;omega
  clear h0 h1
  go_enter Tryd.func78,Tryd.ntmps78
  go_wp2
  go_ret
  exact⟨rfl,rfl⟩
 ·obtain rfl:q=false:=by rw[←HQ.out];decide
  go_enter Tryd.func78,Tryd.ntmps78
  go_wp2
  go_ret
  exact⟨rfl,rfl⟩
 ·obtain rfl:q=true:=by rw[←HQ.out];unfold letterB;simp;omega
  have e1:(r==215)=false:=by simp;omega
  have e2:(r==247)=false:=by simp;omega
  have d0:decide (r≥97)=true:=by simp;omega
  have d1:decide (r≤122)=false:=by simp;omega
  have d2:decide (r≥65)=true:=by simp;omega
  have d3:decide (r≤90)=false:=by simp;omega
  have d4:decide (r≥192)=true:=by simp;omega
  have d5:decide (r≤591)=true:=by simp;omega
  have d6:decide (r≥880)=false:=by simp;omega
  have d7:decide (r≤1023)=true:=by simp;omega
  have d8:decide (r≥1024)=false:=by simp;omega
  have d9:decide (r≤1279)=true:=by simp;omega
  clear h0 h1
  go_enter Tryd.func78,Tryd.ntmps78
  go_wp2
  go_ret
  exact⟨rfl,rfl⟩
 ·obtain rfl:q=false:=by rw[←HQ.out];unfold letterB;simp;omega
  have e1:(r==215)=false:=by simp;omega
  have e2:(r==247)=false:=by simp;omega
  have d0:decide (r≥97)=true:=by simp;omega
  have d1:decide (r≤122)=false:=by simp;omega
  have d2:decide (r≥65)=true:=by simp;omega
  have d3:decide (r≤90)=false:=by simp;omega
  have d4:decide (r≥192)=true:=by simp;omega
  have d5:decide (r≤591)=false:=by simp;omega
  have d6:decide (r≥880)=false:=by simp;omega
  have d7:decide (r≤1023)=true:=by simp;omega
  have d8:decide (r≥1024)=false:=by simp;omega
  have d9:decide (r≤1279)=true:=by simp;omega
  clear h0 h1
  go_enter Tryd.func78,Tryd.ntmps78
  go_wp2
  go_ret
  exact⟨rfl,rfl⟩
 ·obtain rfl:q=true:=by rw[←HQ.out];unfold letterB;simp;omega
  have e1:(r==215)=false:=by simp;omega
  have e2:(r==247)=false:=by simp;omega
  have d0:decide (r≥97)=true:=by simp;omega
  have d1:decide (r≤122)=false:=by simp;omega
  have d2:decide (r≥65)=true:=by simp;omega
  have d3:decide (r≤90)=false:=by simp;omega
  have d4:decide (r≥192)=true:=by simp;omega
  have d5:decide (r≤591)=false:=by simp;omega
  have d6:decide (r≥880)=true:=by simp;omega
  have d7:decide (r≤1023)=true:=by simp;omega
  have d8:decide (r≥1024)=false:=by simp;omega
  have d9:decide (r≤1279)=true:=by simp;omega
  clear h0 h1
  go_enter Tryd.func78,Tryd.ntmps78
  go_wp2
  go_ret
  exact⟨rfl,rfl⟩
 ·obtain rfl:q=true:=by rw[←HQ.out];unfold letterB;simp;omega
  have e1:(r==215)=false:=by simp;omega
  have e2:(r==247)=false:=by simp;omega
  have d0:decide (r≥97)=true:=by simp;omega
  have d1:decide (r≤122)=false:=by simp;omega
  have d2:decide (r≥65)=true:=by simp;omega
  have d3:decide (r≤90)=false:=by simp;omega
  have d4:decide (r≥192)=true:=by simp;omega
  have d5:decide (r≤591)=false:=by simp;omega
  have d6:decide (r≥880)=true:=by simp;omega
  have d7:decide (r≤1023)=false:=by simp;omega
  have d8:decide (r≥1024)=true:=by simp;omega
  have d9:decide (r≤1279)=true:=by simp;omega
  clear h0 h1
  go_enter Tryd.func78,Tryd.ntmps78
  go_wp2
  go_ret
  exact⟨rfl,rfl⟩
 ·obtain rfl:q=false:=by rw[←HQ.out];unfold letterB;simp;omega
  have e1:(r==215)=false:=by simp;omega
  have e2:(r==247)=false:=by simp;omega
  have d0:decide (r≥97)=true:=by simp;omega
  have d1:decide (r≤122)=false:=by simp;omega
  have d2:decide (r≥65)=true:=by simp;omega
  have d3:decide (r≤90)=false:=by simp;omega
  have d4:decide (r≥192)=true:=by simp;omega
  have d5:decide (r≤591)=false:=by simp;omega
  have d6:decide (r≥880)=true:=by simp;omega
  have d7:decide (r≤1023)=false:=by simp;omega
  have d8:decide (r≥1024)=true:=by simp;omega
  have d9:decide (r≤1279)=false:=by simp;omega
  clear h0
  go_enter Tryd.func78,Tryd.ntmps78
  go_wp2
  go_ret
  exact⟨rfl,rfl⟩
theorem tletter_at {r:Int} {q:Bool} (h:letterB r=q) (w:World):Calls Tryd.prog 78 #[.int .i32 r] w fun e w'=>e= .returned (.bool q)∧w=w':=by
 subst h;exact tletter_same r w
def endB (r:Int):Bool:=letterB r||digitB r
def midB (r:Int):Bool:=endB r||(decide (r=95)||decide (r=45))
theorem tend_is {r:Int} {q:Bool} (h:endB r=q) (w:World):Calls Tryd.prog 79 #[.int .i32 r] w fun e w'=>e= .returned (.bool q)∧w=w':=by
 obtain⟨a,ha⟩: ∃a,letterB r=a:=⟨_,rfl⟩
 have RL:=Lh (fun w=>tletter_at ha w)
 have HQ:Hid ((a||digitB r)=q):=by rw[←h,←ha];rfl
 clear h ha
 cases a with
 |true=>
  obtain rfl:q=true:=by rw[←HQ.out];rfl
  go_enter Tryd.func79,Tryd.ntmps79
  go_wp2_with (go_at_call 78;(with_reducible refine(RL.out _).mono ?_);rintro e w2 ⟨rfl,rfl⟩)
  go_ret
  exact⟨rfl,rfl⟩
 |false=>
  by_cases h1:48≤r
  ·by_cases h2:r≤57
   ·obtain rfl:q=true:=by rw[←HQ.out];unfold digitB;simp[h1,h2]
    go_enter Tryd.func79,Tryd.ntmps79
    go_wp2_with (go_at_call 78;(with_reducible refine(RL.out _).mono ?_);rintro e w2 ⟨rfl,rfl⟩)
    go_ret
    exact⟨rfl,rfl⟩
   ·obtain rfl:q=false:=by rw[←HQ.out];unfold digitB;simp[h2]
    have d1:decide (r≤57)=false:=by simp;omega
    go_enter Tryd.func79,Tryd.ntmps79
    go_wp2_with (go_at_call 78;(with_reducible refine(RL.out _).mono ?_);rintro e w2 ⟨rfl,rfl⟩)
    go_ret
    exact⟨rfl,rfl⟩
  ·obtain rfl:q=false:=by rw[←HQ.out];unfold digitB;simp[h1]
   have d1:decide (r≥48)=false:=by simp;omega
   go_enter Tryd.func79,Tryd.ntmps79
   go_wp2_with (go_at_call 78;(with_reducible refine(RL.out _).mono ?_);rintro e w2 ⟨rfl,rfl⟩)
   go_ret
   exact⟨rfl,rfl⟩
def plainB (r:Int):Bool:=decide (32≤r)&&decide (r≠127)&&decide (r≠34)&&decide (r≠92)
structure NmC (l:List Int) (i:Nat) (y:Int):Prop where
 le:i≤l.length
 head:0<i→letterB (l.getD 0 0)=true
 all: ∀j,j<i→midB (l.getD j 0)=true
 last:endB y=(decide (0<i)&&endB (l.getD (i-1) 0))
theorem NmC.start (l:List Int):NmC l 0 0:=⟨Nat.zero_le _,fun h=>by omega,fun j h=>by omega,rfl⟩
theorem told_same {z y:Int} (h:(z= -1∧y=65533)∨(0≤z∧y=z)):letterB z=letterB y∧endB z=endB y∧midB z=midB y:=by
 rcases h with⟨rfl,rfl⟩|⟨_,rfl⟩
 ·exact⟨by decide,by decide,by decide⟩
 ·exact⟨rfl,rfl,rfl⟩
theorem NmC.next {l:List Int} {i:Nat} {y0 y z:Int} (h:NmC l i y0) (hi:i<l.length) (hz:l.getD i 0=z) (ht:(z= -1∧y=65533)∨(0≤z∧y=z)) (h0:i=0→letterB y=true) (hm:midB y=true):NmC l (i+1) y:=by
 obtain⟨e1,e2,e3⟩:=told_same ht
 refine⟨by omega,fun _=>?_,fun j hj=>?_,?_⟩
 ·by_cases k:i=0
  ·subst k;rw[hz,e1];exact h0 rfl
  ·exact h.head (by omega)
 ·by_cases k:j=i
  ·subst k;rw[hz,e3];exact hm
  ·exact h.all j (by omega)
 ·rw[show i+1-1=i by omega,hz,e2,decide_eq_true (show 0<i+1 by omega),Bool.true_and]
theorem NmC.no {l:List Int} {i:Nat} {y z:Int} (hi:i<l.length) (hz:l.getD i 0=z) (ht:(z= -1∧y=65533)∨(0≤z∧y=z)) (hm:midB y=false): ¬NameL l:=fun g=>by
 have:=g.2.2.2 i hi
 obtain⟨e1,e2,e3⟩:=told_same ht
 rw[←e3]at hm
 unfold nameOk at this
 rw[hz]at this
 unfold midB endB at hm
 simp only[Bool.or_eq_false_iff]at hm
 rw[hm.1.1,hm.1.2,hm.2.1,hm.2.2]at this
 simp at this
theorem NmC.first {l:List Int} {y z:Int} (hz:l.getD 0 0=z) (ht:(z= -1∧y=65533)∨(0≤z∧y=z)) (hm:letterB y=false): ¬NameL l:=fun g=>by
 have:=g.2.2.1
 rw[hz,(told_same ht).1,hm]at this
 cases this
theorem NmC.done {l:List Int} {i:Nat} {y:Int} (h:NmC l i y) (hi:i=l.length) (h24:i≤24):endB y=true↔NameL l:=by
 rw[h.last]
 constructor
 ·intro e
  simp only[Bool.and_eq_true,decide_eq_true_eq]at e
  refine⟨by omega,by omega,h.head e.1,fun j hj=>?_⟩
  have hm:=h.all j (by omega)
  by_cases k:j=i-1
  ·rw[k]
   have:=e.2
   unfold endB at this
   unfold nameOk
   rw[this];rfl
  ·unfold midB endB at hm
   unfold nameOk
   rw[decide_eq_true (show j+1≠l.length by omega)]
   exact hm
 ·rintro⟨a,b,c,d⟩
  have:=d (i-1) (by omega)
  unfold nameOk at this
  rw[decide_eq_false (show¬(i-1+1≠l.length) by omega),Bool.false_and,Bool.or_false]at this
  unfold endB
  rw[this,decide_eq_true (show 0<i by omega)];rfl
theorem drop_cons {l:List Int} {i:Nat} {z:Int} {r:List Int} (h:l.drop i=z::r):i<l.length∧l.getD i 0=z∧l.drop (i+1)=r:=by
 have hi:i<l.length:=by
  have:=congrArg List.length h
  rw[List.length_drop,List.length_cons]at this
  omega
 rw[List.drop_eq_getElem_cons hi]at h
 injection h with h1 h2
 exact⟨hi,by rw[List.getD_eq_getElem?_getD,List.getElem?_eq_getElem hi];exact h1,h2⟩
theorem tname_plain (s:ByteArray) (w:World) (_hm:s.size≤4294967296):Calls Tryd.prog 52 #[.string s] w (GivesQ (NameL (runesOf (nums s))) w):=by
 have hlen:Hid ((nums s).length=s.size):=nums_length s
 obtain⟨l,hl⟩: ∃l,runesOf (nums s)=l:=⟨_,rfl⟩
 rw[hl]
 have HL:=Lh hl
 clear hl
 go_enter Tryd.func52,Tryd.ntmps52
 go_wp2
 obtain⟨I,hI⟩: ∃I,w.heap.size=I:=⟨_,rfl⟩
 rw[hI]
 have HI:=Lh hI
 have hit0:(w.iter s 0).heap[I]?=some (.stringIter s 0):=by rw[←hI];exact World.iter_heap w s 0
 have hb0:Below I w (w.iter s 0):=by rw[←hI];exact(Below.refl _ _).alloc (Nat.le_refl _) _
 generalize w.iter s 0=w0 at hit0 hb0 ⊢
 clear hI
 replace hit0:=Lh hit0
 replace hb0:=Lh hb0
 go_loopw [3,4] (fun v3 v4 wr=> ∃(pos i:Nat) (y:Int),v3= .int .i64 (i:Int)∧v4= .int .i32 y∧i≤24∧pos≤s.size∧rfrom (nums s) pos=l.drop i∧NmC l i y∧wr.heap[I]?=some (.stringIter s pos)∧Below I w wr) (fun _ _ wr=>s.size-wr.iterPos I)
 case atStart=>exact⟨0,0,0,rfl,rfl,by omega,by omega,HL.out,NmC.start l,hit0.out,hb0.out⟩
 case round=>
  obtain⟨pos,i,y0,rfl,rfl,h24,hp,hr,hC,hk,hb⟩:=hrel
  have HC:=Lh hC
  have HR:=Lh hr
  have HB0:=Lh hb
  clear hC hr hb
  by_cases h1:pos<s.size
  ·obtain⟨y,hnx,y0',y1,ht⟩:=txt_rune wr I s pos hk h1
   have hR:rfrom (nums s) pos=runeA (nums s) pos::rfrom (nums s) (pos+widA (nums s) pos):=rfrom_in (by rw[hlen.out];exact h1)
   obtain⟨hi0,hz,hr2⟩:=drop_cons (HR.out.symm.trans hR)
   have HT:=Lh ht
   have HZ:=Lh hz
   have HR2:=Lh hr2.symm
   have hwid:=Lh (widA_pos (nums s) pos)
   have hwin:=Lh (widA_in (zs:=nums s) (i:=pos) (by rw[hlen.out];exact h1))
   have HB:=Lh (Lib.below_iterAt HB0.out (Nat.le_refl I) s (pos+widA (nums s) pos))
   have hk2:=Lh (Lib.iterAt_heap wr I s pos (pos+widA (nums s) pos) hk)
   have hk0:=Lh hk
   have hi:Hid (i<l.length):=hi0
   clear ht hz hr2 hR hi0 hk
   obtain⟨p2,hp2⟩: ∃p,pos+widA (nums s) pos=p:=⟨_,rfl⟩
   rw[hp2]at hnx HB hk2 HR2 hwin
   have hlt:Hid (pos<p2):=by have:=hwid.out;unfold Hid;omega
   have hle:Hid (p2≤s.size):=by have:=hwin.out;rw[hlen.out]at this;exact this
   clear hp2 hwid hwin
   generalize wr.iterAt I s p2=W1 at hnx HB hk2
   obtain⟨q,hq⟩: ∃q,letterB y=q:=⟨_,rfl⟩
   obtain⟨qe,hqe⟩: ∃q,endB y=q:=⟨_,rfl⟩
   have RL:=Lh (fun w=>tletter_at hq w)
   have RE:=Lh (fun w=>tend_is hqe w)
   have HQ:=Lh hq
   have HE:=Lh hqe
   clear hq hqe
   by_cases h25:i=24
   ·have hbad:Hid (¬NameL l):=fun g=>by have h5:l.length≤24:=g.2.1;have:=hi.out;omega
    subst h25
    go_wp2_with (first
     |(go_at_call 78;(with_reducible refine(RL.out _).mono ?_);rintro e w2 ⟨rfl,rfl⟩)
     |(go_at_call 79;(with_reducible refine(RE.out _).mono ?_);rintro e w2 ⟨rfl,rfl⟩))
    go_ret
    exact GivesQ.no hbad.out (HI.out▸HB.out)
   ·by_cases h0:i=0
    ·subst h0
     cases q with
     |false=>
      have hbad:=Lh (NmC.first HZ.out HT.out HQ.out)
      go_wp2_with (first
       |(go_at_call 78;(with_reducible refine(RL.out _).mono ?_);rintro e w2 ⟨rfl,rfl⟩)
       |(go_at_call 79;(with_reducible refine(RE.out _).mono ?_);rintro e w2 ⟨rfl,rfl⟩))
      go_ret
      exact GivesQ.no hbad.out (HI.out▸HB.out)
     |true=>
      obtain rfl:qe=true:=by rw[←HE.out];unfold endB;rw[HQ.out];rfl
      have hm:Hid (midB y=true):=by unfold Hid midB;rw[HE.out];rfl
      have hn:=Lh (HC.out.next hi.out HZ.out HT.out (fun _=>HQ.out) hm.out)
      go_wp2_with (first
       |(go_at_call 78;(with_reducible refine(RL.out _).mono ?_);rintro e w2 ⟨rfl,rfl⟩)
       |(go_at_call 79;(with_reducible refine(RE.out _).mono ?_);rintro e w2 ⟨rfl,rfl⟩))
      go_round
      case rel=>exact⟨p2,0+1,y,by go_num,rfl,by omega,hle.out,HR2.out,hn.out,hk2.out,HB.out⟩
      case measure=>rw[iterPos_of hk2.out,iterPos_of hk0.out];have:=hlt.out;have:=hle.out;omega
    ·have d0:((i:Int)+1==1)=false:=by simp;omega
     have h0n:Hid (i=0→letterB y=true):=fun e=>(h0 e).elim
     cases qe with
     |true=>
      have hm:Hid (midB y=true):=by unfold Hid midB;rw[HE.out];rfl
      have hn:=Lh (HC.out.next hi.out HZ.out HT.out h0n.out hm.out)
      go_wp2_with (first
       |(go_at_call 78;(with_reducible refine(RL.out _).mono ?_);rintro e w2 ⟨rfl,rfl⟩)
       |(go_at_call 79;(with_reducible refine(RE.out _).mono ?_);rintro e w2 ⟨rfl,rfl⟩))
      go_round
      case rel=>exact⟨p2,i+1,y,by go_num,rfl,by omega,hle.out,HR2.out,hn.out,hk2.out,HB.out⟩
      case measure=>rw[iterPos_of hk2.out,iterPos_of hk0.out];have:=hlt.out;have:=hle.out;omega
     |false=>
      by_cases c95:y=95
      ·subst c95
       have hm:Hid (midB 95=true):=(by decide:midB 95=true)
       have hn:=Lh (HC.out.next hi.out HZ.out HT.out h0n.out hm.out)
       go_wp2_with (first
        |(go_at_call 78;(with_reducible refine(RL.out _).mono ?_);rintro e w2 ⟨rfl,rfl⟩)
        |(go_at_call 79;(with_reducible refine(RE.out _).mono ?_);rintro e w2 ⟨rfl,rfl⟩))
       go_round
       case rel=>exact⟨p2,i+1,95,by go_num,rfl,by omega,hle.out,HR2.out,hn.out,hk2.out,HB.out⟩
       case measure=>rw[iterPos_of hk2.out,iterPos_of hk0.out];have:=hlt.out;have:=hle.out;omega
      ·have e95:(y !=95)=true:=by simpa using c95
       by_cases c45:y=45
       ·subst c45
        have hm:Hid (midB 45=true):=(by decide:midB 45=true)
        have hn:=Lh (HC.out.next hi.out HZ.out HT.out h0n.out hm.out)
        go_wp2_with (first
         |(go_at_call 78;(with_reducible refine(RL.out _).mono ?_);rintro e w2 ⟨rfl,rfl⟩)
         |(go_at_call 79;(with_reducible refine(RE.out _).mono ?_);rintro e w2 ⟨rfl,rfl⟩))
        go_round
        case rel=>exact⟨p2,i+1,45,by go_num,rfl,by omega,hle.out,HR2.out,hn.out,hk2.out,HB.out⟩
        case measure=>rw[iterPos_of hk2.out,iterPos_of hk0.out];have:=hlt.out;have:=hle.out;omega
       ·have e45:(y !=45)=true:=by simpa using c45
        have hm:Hid (midB y=false):=by unfold Hid midB;rw[HE.out];simp[c95,c45]
        have hbad:=Lh (NmC.no hi.out HZ.out HT.out hm.out)
        go_wp2_with (first
         |(go_at_call 78;(with_reducible refine(RL.out _).mono ?_);rintro e w2 ⟨rfl,rfl⟩)
         |(go_at_call 79;(with_reducible refine(RE.out _).mono ?_);rintro e w2 ⟨rfl,rfl⟩))
        go_ret
        exact GivesQ.no hbad.out (HI.out▸HB.out)
  ·have hend:i=l.length:=by
    have h5:=HR.out
    rw[rfrom_out (by rw[hlen.out];exact h1)]at h5
    have h6:=congrArg List.length h5
    rw[List.length_drop]at h6
    have h7:=HC.out.le
    simp at h6;omega
   have hnx:=fun ty=>Lib.run_next_end_at (P:=Tryd.prog) wr I s pos ty hk h1
   obtain⟨qe,hqe⟩: ∃q,endB y0=q:=⟨_,rfl⟩
   have RE:=Lh (fun w=>tend_is hqe w)
   have hD:=Lh (HC.out.done hend h24)
   have HE:=Lh hqe
   clear hqe hend
   go_wp2_with (go_at_call 79;(with_reducible refine(RE.out _).mono ?_);rintro e w2 ⟨rfl,rfl⟩)
   go_ret
   exact⟨qe,rfl,by rw[←HE.out];exact hD.out,HI.out▸HB0.out⟩
end
section
open Go.RowKit
theorem tgood_any (s:ByteArray) (w:World) (env:Env w) (_hm:s.size≤4294967296):Calls Tryd.prog 82 #[.string s] w (GivesQ (GoodL (runesOf (nums s))) w):=by
 have R:=Lh (Tryd.utf8_ValidString s w (by omega) env.utf)
 have V:=Lh (valid_good s)
 generalize Lib.validD s.data.toList=q at R V
 go_enter Tryd.func82,Tryd.ntmps82
 go_wp2_with (go_at_call 94;(with_reducible refine R.out.mono ?_);rintro e w1 ⟨rfl,hb⟩;have HB:=Lh hb;clear hb)
 go_ret
 exact⟨q,rfl,V.out,HB.out⟩
theorem tcount_big (s:ByteArray) (w:World) (_hm:s.size≤1099511627776):Calls Tryd.prog 83 #[.string s] w fun e w'=>e= .returned (.int .i64 (runesOf (nums s)).length)∧Below w.heap.size w w':=by
 have R:=Lh (Tryd.utf8_RuneCountInString s w (by omega))
 rw[count_runes]at R
 generalize (runesOf (nums s)).length=n at R ⊢
 go_enter Tryd.func83,Tryd.ntmps83
 go_wp2_with (go_at_call 95;(with_reducible refine R.out.mono ?_);rintro e w1 ⟨rfl,p,hb⟩;have HB:=Lh hb;clear hb)
 go_ret
 refine⟨rfl,?_⟩
 rw[HB.out]
 exact(Below.refl _ _).alloc (Nat.le_refl _) _
theorem tcount_any (s:ByteArray) (w:World) (_env:Env w) (hm:s.size≤4294967296):Calls Tryd.prog 83 #[.string s] w fun e w'=>e= .returned (.int .i64 (runesOf (nums s)).length)∧Below w.heap.size w w':=tcount_big s w (by omega)
structure FoM (w wr:World) (zs:List Int) (b i:Nat):Prop where
 new:w.heap.size≤b
 bel:Below w.heap.size w wr
 lo: ∀j,j<zs.length→j<i→wr.cell? ⟨b,j,none⟩=some (.int .u8 (foldB (zs.getD j 0)))
 hi: ∀j,j<zs.length→i≤j→wr.cell? ⟨b,j,none⟩=some (.int .u8 (zs.getD j 0))
 free: ∀j,j<zs.length→wr.frozen? ⟨b,j,none⟩=false
end
section
open Go.RowKit
def u8s (zs:List Int):List Value:=zs.map fun z=> .int .u8 z
end
section
open Go.RowKit
def KF (B b:Nat) (w w':World):Prop:=Below B w w'∧Lib.OthersKept 5 (some b) w w'
end
section
open Go.RowKit
def qxs:Qs→List Int
 | .start=> []| .norm xs=>xs| .esc xs=>xs| .uni xs=>xs| .hex xs _ _=>xs| .done xs=>xs| .dead=> []
def qat:Qs→Int
 | .start=>0| .norm _=>1| .esc _=>2| .uni _=>3| .hex _ _ _=>4| .done _=>5| .dead=>6
def qnum:Qs→Int→Int→Prop
 | .uni _,n,d=>n=0∧d=0
 | .hex _ k x,n,d=>n=x∧d=k∧k≤6∧0≤x∧x<((16^k:Nat):Int)
 |_,_,_=>True
end
section
open Go.RowKit
end
section
open Go.RowKit
structure HxM (w wr:World) (b f:Nat) (xs:List Int):Prop where
 row: ∀i,i<65→∃v,wr.cell? ⟨b,i,none⟩=some v
 free: ∀i,i<65→wr.frozen? ⟨b,i,none⟩=false
 got: ∀i,i<xs.length→wr.cell? ⟨b,f+i,none⟩=some (.int .u8 (xs.getD i 0))
 bel:Below w.heap.size w wr
 new:w.heap.size≤b
end
section
open Go.RowKit
end
section
open Go.RowKit
def confL (gv:Value) (c:CfC):List Value:= [gv, .int .i64 c.room, .int .i64 c.reserve, .int .i64 c.first, .int .i64 c.cap, .int .i64 c.again]
def ConfI (w:World) (cv:Value) (c:CfC):Prop:= ∃gv,cv= .agg (confL gv c).toArray∧GolsI w gv c.goals
theorem ConfI.below {w w':World} {cv:Value} {c:CfC} (h:ConfI w cv c) (hb:Below w.heap.size w w'):ConfI w' cv c:=by
 obtain⟨gv,e,h1⟩:=h
 exact⟨gv,e,h1.below hb⟩
end
end Go.Proofs.YtgmfkbamfnkbgaaDoor
