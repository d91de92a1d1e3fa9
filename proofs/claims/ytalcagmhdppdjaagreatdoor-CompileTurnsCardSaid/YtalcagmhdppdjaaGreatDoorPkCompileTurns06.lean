/-
  Two lists with the same tokens are the same, as the document's answer compares them.
-/
import Derived.Test.YtalcagmhdppdjaaGreatDoorPkCompileTurns05
set_option maxRecDepth 100000
set_option maxHeartbeats 8000000
namespace Go.Proofs.YtalcagmhdppdjaaGreatDoor
open Lib renaming hid→Lh
open Or renaming inr→Mx,inl→My
open List renaming length_append→Kq,mem_cons_of_mem→Jy,mem_cons_self→Jz
section
open Go.RowKit
def tkC (l:List Int) (p:TkV×Nat):List Value:= [.int .i64 (p.1.kind:Int), .string (strOfNums p.1.text), .int .u64 (p.1.n:Int), .int .i64 (spotAt l p.2).1, .int .i64 (spotAt l p.2).2]
def toksV (l:List Int) (L:List (TkV×Nat)):List (List Value):=L.map (tkC l)
theorem toksV_len (l:List Int) (L:List (TkV×Nat)):(toksV l L).length=L.length:=by unfold toksV;simp
theorem toksV_more (l:List Int) (L:List (TkV×Nat)) (p:TkV×Nat):toksV l (L++ [p])=toksV l L++ [tkC l p]:=by unfold toksV;simp
theorem tkC_one (l:List Int) (p:TkV×Nat): ∀u∈tkC l p,u.oneCell'=true:=fun u hu=>by
 simp only[tkC,List.mem_cons,List.not_mem_nil,or_false]at hu
 rcases hu with rfl|rfl|rfl|rfl|rfl<;>rfl
theorem info_tok:(Tryz.prog.info? 78).map (fun i=>(i.zero,i.size,i.bytes))=some (some (.agg #[.int .i64 0, .string ⟨#[]⟩, .int .u64 0, .int .i64 0, .int .i64 0]),5,48):=by kernel_rfl
theorem tok_cells {w:World} {p:Nat} {x0 x1 x2 x3 x4:Value} (h0:w.cell? ⟨p,0,none⟩=some x0) (h1:w.cell? ⟨p,1,none⟩=some x1) (h2:w.cell? ⟨p,2,none⟩=some x2) (h3:w.cell? ⟨p,3,none⟩=some x3) (h4:w.cell? ⟨p,4,none⟩=some x4): ∀j,j<5→w.cell? ⟨p,j,none⟩=some (([x0,x1,x2,x3,x4]:List Value).getD j undef):=fun j hj=>by
 have:j=0∨j=1∨j=2∨j=3∨j=4:=by omega
 rcases this with rfl|rfl|rfl|rfl|rfl
 ·exact h0
 ·exact h1
 ·exact h2
 ·exact h3
 ·exact h4
theorem load_fault {W:World} {g:Nat} {x y z:Value} (h:Var3 W g x y z):(loadVar 41 ⟨g,0,none⟩).run Tryz.prog W= .ok (.agg #[x,y,z]) W:=by
 obtain⟨c0,c1,c2,_,_,_,_⟩:=h
 go_simp
def GivesToks (l:List Int) (w:World) (e:Ending) (w':World):Prop:=
 Below w.heap.size w w'∧((∃k c,tokF l 0= .error (k,c)∧e= .returned (.tuple #[.slice none 0 0, .agg #[.int .i64 c, .int .i64 (spotAt l k).1, .int .i64 (spotAt l k).2]]))∨
  ∃L v,tokF l 0= .ok L∧e= .returned (.tuple #[v, .agg #[.int .i64 0, .int .i64 0, .int .i64 0]])∧RowK 78 5 w' w.heap.size v (toksV l (L++ [(tk0,l.length)])))
def Ahead (l:List Int) (i:Nat) (acc:List (TkV×Nat)):Prop:=tokF l 0=(tokF l i).map (fun L=>acc++L)
theorem Ahead.zero (l:List Int):Ahead l 0 []:=by
 unfold Ahead
 cases tokF l 0<;>rfl
theorem Ahead.same {l:List Int} {i j:Nat} {acc:List (TkV×Nat)} (h:Ahead l i acc) (e:tokF l i=tokF l j):Ahead l j acc:=by
 unfold Ahead at*
 rw[h,e]
theorem Ahead.more {l:List Int} {i j:Nat} {acc:List (TkV×Nat)} {t:TkV} (h:Ahead l i acc) (e:tokF l i=(tokF l j).map (fun L=>(t,i)::L)):Ahead l j (acc++ [(t,i)]):=by
 unfold Ahead at*
 rw[h,e]
 cases tokF l j with
 |error x=>rfl
 |ok L=>simp[Except.map]
theorem Ahead.bad {l:List Int} {i:Nat} {acc:List (TkV×Nat)} {x:Nat×Int} (h:Ahead l i acc) (e:tokF l i= .error x):tokF l 0= .error x:=by
 unfold Ahead at h
 rw[h,e]
 rfl
theorem Ahead.fine {l:List Int} {i:Nat} {acc:List (TkV×Nat)} (h:Ahead l i acc) (e:tokF l i= .ok []):tokF l 0= .ok acc:=by
 unfold Ahead at h
 rw[h,e]
 simp[Except.map]
theorem Var5.put34 {W:World} {p:Nat} {x0 x1 x2 x3 x4:Value} (h:Var5 W p x0 x1 x2 x3 x4) (y3 y4:Value):Var5 ((W.setCell ⟨p,3,none⟩ y3).setCell ⟨p,4,none⟩ y4) p x0 x1 x2 y3 y4:=by
 obtain⟨c0,c1,c2,c3,c4,q,s⟩:=h
 refine⟨?_,?_,?_,?_,?_,fun i=>?_,?_⟩<;>simp[go_sem, *]
def TF (C:Int) (g n cap2 i:Nat) (X Y:Int):Nat→Value→World→Prop
 |0,v,_=>v= .int .i64 C
 |1,v,_=>v= .slice (some ⟨g,0,none⟩) (n+1) cap2
 |2,v,_=>v= .int .i64 (i:Int)
 |3,v,_=>v= .pointer (some ⟨g,i*2,none⟩)
 |4,v,_=>v= .agg #[.int .i64 X, .int .i64 Y]
 |5,v,_=>v= .agg #[.int .i64 C, .int .i64 X, .int .i64 Y]
 |6,v,_=>v= .slice none 0 0
 |_,_,_=>True
end
section
open Go.RowKit
theorem sdg_is {r:Int} {q:Bool} (h:digitB r=q) (w:World):Calls Tryz.prog 107 #[.int .i32 r] w fun e w'=>e= .returned (.bool q)∧w=w':=by
 by_cases h1:48≤r
 ·by_cases h2:r≤57
  ·obtain rfl:q=true:=by rw[←h];unfold digitB;simp[h1,h2]
   clear h
   go_enter Tryz.func107,Tryz.ntmps107
   go_wp2
   go_ret
   exact⟨rfl,rfl⟩
  ·obtain rfl:q=false:=by rw[←h];unfold digitB;simp[h2]
   have d1:decide (r≤57)=false:=by simp;omega
   clear h
   go_enter Tryz.func107,Tryz.ntmps107
   go_wp2
   go_ret
   exact⟨rfl,rfl⟩
 ·obtain rfl:q=false:=by rw[←h];unfold digitB;simp[h1]
  have d1:decide (r≥48)=false:=by simp;omega
  clear h
  go_enter Tryz.func107,Tryz.ntmps107
  go_wp2
  go_ret
  exact⟨rfl,rfl⟩
theorem sin_is {r:Int} {q:Bool} (h:withinB r=q) (w:World):Calls Tryz.prog 74 #[.int .i32 r] w fun e w'=>e= .returned (.bool q)∧w=w':=by
 obtain⟨a,ha⟩: ∃a,letterB r=a:=⟨_,rfl⟩
 obtain⟨b,hb⟩: ∃b,digitB r=b:=⟨_,rfl⟩
 have RL:=Lh (fun w=>tletter_at ha w)
 have RD:=Lh (fun w=>sdg_is hb w)
 have HQ:Hid ((a||b||decide (r=95)||decide (r=45)||decide (r=46)||decide (r=37))=q):=by rw[←h,←ha,←hb];rfl
 clear h ha hb
 cases a with
 |true=>
  obtain rfl:q=true:=by rw[←HQ.out];rfl
  go_enter Tryz.func74,Tryz.ntmps74
  go_wp2_with (first
   |(go_at_call 86;(with_reducible refine(RL.out _).mono ?_);rintro e w2 ⟨rfl,rfl⟩)
   |(go_at_call 107;(with_reducible refine(RD.out _).mono ?_);rintro e w2 ⟨rfl,rfl⟩))
  go_ret
  exact⟨rfl,rfl⟩
 |false=>
  cases b with
  |true=>
   obtain rfl:q=true:=by rw[←HQ.out];rfl
   go_enter Tryz.func74,Tryz.ntmps74
   go_wp2_with (first
    |(go_at_call 86;(with_reducible refine(RL.out _).mono ?_);rintro e w2 ⟨rfl,rfl⟩)
    |(go_at_call 107;(with_reducible refine(RD.out _).mono ?_);rintro e w2 ⟨rfl,rfl⟩))
   go_ret
   exact⟨rfl,rfl⟩
  |false=>
   have hc:r=95∨r=45∨r=46∨r=37∨(r≠95∧r≠45∧r≠46∧r≠37):=by omega
   rcases hc with rfl|rfl|rfl|rfl|⟨h1,h2,h3,h4⟩
   ·obtain rfl:q=true:=by rw[←HQ.out];rfl
    go_enter Tryz.func74,Tryz.ntmps74
    go_wp2_with (first
     |(go_at_call 86;(with_reducible refine(RL.out _).mono ?_);rintro e w2 ⟨rfl,rfl⟩)
     |(go_at_call 107;(with_reducible refine(RD.out _).mono ?_);rintro e w2 ⟨rfl,rfl⟩))
    go_ret
    exact⟨rfl,rfl⟩
   ·obtain rfl:q=true:=by rw[←HQ.out];rfl
    go_enter Tryz.func74,Tryz.ntmps74
    go_wp2_with (first
     |(go_at_call 86;(with_reducible refine(RL.out _).mono ?_);rintro e w2 ⟨rfl,rfl⟩)
     |(go_at_call 107;(with_reducible refine(RD.out _).mono ?_);rintro e w2 ⟨rfl,rfl⟩))
    go_ret
    exact⟨rfl,rfl⟩
   ·obtain rfl:q=true:=by rw[←HQ.out];rfl
    go_enter Tryz.func74,Tryz.ntmps74
    go_wp2_with (first
     |(go_at_call 86;(with_reducible refine(RL.out _).mono ?_);rintro e w2 ⟨rfl,rfl⟩)
     |(go_at_call 107;(with_reducible refine(RD.out _).mono ?_);rintro e w2 ⟨rfl,rfl⟩))
    go_ret
    exact⟨rfl,rfl⟩
   ·obtain rfl:q=true:=by rw[←HQ.out];rfl
    go_enter Tryz.func74,Tryz.ntmps74
    go_wp2_with (first
     |(go_at_call 86;(with_reducible refine(RL.out _).mono ?_);rintro e w2 ⟨rfl,rfl⟩)
     |(go_at_call 107;(with_reducible refine(RD.out _).mono ?_);rintro e w2 ⟨rfl,rfl⟩))
    go_ret
    exact⟨rfl,rfl⟩
   ·obtain rfl:q=false:=by rw[←HQ.out];simp[h1,h2,h3,h4]
    have e1:(r==95)=false:=by simpa using h1
    have e2:(r==45)=false:=by simpa using h2
    have e3:(r==46)=false:=by simpa using h3
    have e4:(r==37)=false:=by simpa using h4
    clear h1 h2 h3 h4
    go_enter Tryz.func74,Tryz.ntmps74
    go_wp2_with (first
     |(go_at_call 86;(with_reducible refine(RL.out _).mono ?_);rintro e w2 ⟨rfl,rfl⟩)
     |(go_at_call 107;(with_reducible refine(RD.out _).mono ?_);rintro e w2 ⟨rfl,rfl⟩))
    go_ret
    exact⟨rfl,rfl⟩
theorem rune_step_at (wr:World) (I:Nat) (s:ByteArray) (k:Nat) (hk:wr.heap[I]?=some (.stringIter s (posOf (nums s) k))) (h:posOf (nums s) k<s.size):
  ∃y:Int,(∀ty,(Instr.next (.pointer (some ⟨I,0,none⟩)) true ty).run Tryz.prog wr= .ok (.tuple #[.bool true, .int .i64 (posOf (nums s) k), .int .i32 y]) (wr.iterAt I s (posOf (nums s) (k+1))))∧0≤y∧y≤1114111∧
   k<(runesOf (nums s)).length∧(((runesOf (nums s)).getD k 0= -1∧y=65533)∨(0≤(runesOf (nums s)).getD k 0∧y=(runesOf (nums s)).getD k 0))∧posOf (nums s) k<posOf (nums s) (k+1)∧posOf (nums s) (k+1)≤s.size∧
   (y<128→posOf (nums s) (k+1)=posOf (nums s) k+1):=by
 have hl:posOf (nums s) k<(nums s).length:=by rw[nums_length];exact h
 obtain⟨y,hnx,y0,y1,ht⟩:=txt_rune wr I s (posOf (nums s) k) hk h
 have hd:=pos_drop (nums s) k
 rw[rfrom_in hl]at hd
 obtain⟨hi,hz,_⟩:=drop_cons hd.symm
 have hp:posOf (nums s) (k+1)=posOf (nums s) k+widA (nums s) (posOf (nums s) k):=by simp only[posOf];rw[if_pos hl]
 have hw:=widA_pos (nums s) (posOf (nums s) k)
 have hwi:=widA_in hl
 rw[nums_length]at hwi
 refine⟨y,fun ty=>?_,y0,y1,hi,?_,by omega,by omega,fun hy=>?_⟩
 ·rw[hp];exact hnx ty
 ·rw[hz];exact ht
 ·rw[hp]
  by_cases hb:(nums s).getD (posOf (nums s) k) 0<128
  ·rw[(runeA_low hb).2]
  ·have:=rune_high hb
   omega
theorem rune_step (w:World) (s:ByteArray) (k:Nat) (h:posOf (nums s) k<s.size):
  ∃y:Int,(∀ty,(Instr.next (.pointer (some ⟨w.heap.size,0,none⟩)) true ty).run Tryz.prog (w.iter s (posOf (nums s) k))= .ok (.tuple #[.bool true, .int .i64 (posOf (nums s) k), .int .i32 y]) (w.iter s (posOf (nums s) (k+1))))∧0≤y∧y≤1114111∧
   k<(runesOf (nums s)).length∧(((runesOf (nums s)).getD k 0= -1∧y=65533)∨(0≤(runesOf (nums s)).getD k 0∧y=(runesOf (nums s)).getD k 0))∧posOf (nums s) k<posOf (nums s) (k+1)∧posOf (nums s) (k+1)≤s.size∧
   (y<128→posOf (nums s) (k+1)=posOf (nums s) k+1):=by
 obtain⟨y,hnx,h2⟩:=rune_step_at (w.iter s (posOf (nums s) k)) w.heap.size s k (World.iter_heap w s _) h
 refine⟨y,fun ty=>?_,h2⟩
 have:=hnx ty
 simp only[iter_at]at this
 exact this
theorem rune_end {s:ByteArray} {k:Nat} (h: ¬posOf (nums s) k<s.size):(runesOf (nums s)).length≤k:=by
 have hd:=pos_drop (nums s) k
 rw[rfrom_out (by rw[nums_length];exact h)]at hd
 have:=congrArg List.length hd
 rw[List.length_drop]at this
 simp at this
 omega
theorem told_within {y z:Int} (h:(z= -1∧y=65533)∨(0≤z∧y=z)):withinB y=withinB z:=by
 rcases h with⟨rfl,rfl⟩|⟨_,rfl⟩
 ·decide
 ·rfl
theorem told_is {y z:Int} (h:(z= -1∧y=65533)∨(0≤z∧y=z)) (c:Int) (hc:0≤c) (hc2:c<128):y=c↔z=c:=by omega
def frontS (s:ByteArray) (k:Nat):ByteArray:=strOfNums ((nums s).take (posOf (nums s) k))
theorem front_ext (s:ByteArray) (k:Nat):s.extract 0 (posOf (nums s) k)=frontS s k:=by
 have:nums (s.extract 0 (posOf (nums s) k))=(nums s).take (posOf (nums s) k):=by simp[nums,List.map_take]
 unfold frontS
 rw[←this,strOfNums_nums]
theorem front_all {s:ByteArray} {k:Nat} (h: ¬posOf (nums s) k<s.size):frontS s k=s:=by
 unfold frontS
 rw[List.take_of_length_le (by rw[nums_length];omega),strOfNums_nums]
theorem iter_new (w:World) (s:ByteArray) (p:Nat):Below w.heap.size w (w.iter s p):=(Below.refl _ _).alloc (Nat.le_refl _) _
def GivesFr (s:ByteArray) (E:Nat) (w:World) (e:Ending) (w':World):Prop:=e= .returned (.string (frontS s E))∧Below w.heap.size w w'
theorem sremark_any (s:ByteArray) (w:World) (_hm:s.size≤9223372036854775807):Calls Tryz.prog 72 #[.string s] w (GivesFr s (lineEnd (runesOf (nums s)) 0) w):=by
 obtain⟨E,hE⟩: ∃E,lineEnd (runesOf (nums s)) 0=E:=⟨_,rfl⟩
 have HE1:=Lh (fun j=> @lineEnd_in (runesOf (nums s)) 0 j (Nat.zero_le _))
 have HE2:=Lh (@lineEnd_out (runesOf (nums s)) 0)
 have HE3:=Lh (lineEnd_bd (l:=runesOf (nums s)) (Nat.zero_le _)).2
 rw[hE]at HE1 HE2 HE3 ⊢
 clear hE
 go_enter Tryz.func72,Tryz.ntmps72
 go_wp2
 go_loopw [3,4] (fun _ _ wr=> ∃k:Nat,k≤E∧wr=w.iter s (posOf (nums s) k)) (fun _ _ wr=>s.size-wr.iterPos w.heap.size)
 case atStart=>exact⟨0,Nat.zero_le _,rfl⟩
 case round=>
  obtain⟨k,hk,rfl⟩:=hrel
  have HK:=Lh hk
  clear hk
  by_cases h1:posOf (nums s) k<s.size
  ·obtain⟨y,hnx,y0,y1,hi,ht,hlt,hle,_⟩:=rune_step w s k h1
   have HI:=Lh hi
   have HT:=Lh ht
   have HLT:=Lh hlt
   have HLE:=Lh hle
   have HX:=Lh (front_ext s k)
   have e1:((posOf (nums s) k:Nat):Int)≤(s.size:Int):=by omega
   clear hi ht hlt hle h1
   obtain⟨P,hP⟩: ∃P,posOf (nums s) k=P:=⟨_,rfl⟩
   obtain⟨Q,hQ⟩: ∃Q,posOf (nums s) (k+1)=Q:=⟨_,rfl⟩
   rw[hP,hQ]at hnx HLT
   rw[hQ]at HLE
   rw[hP]at e1 HX ⊢
   have HQ:=Lh hQ
   clear hP hQ
   by_cases h2:y=10
   ·have hz:=(told_is HT.out 10 (by omega) (by omega)).mp h2
    have hkE:k=E:=by
     have h5:=HK.out
     by_cases hh:k<E
     ·exact(HE1.out k hh hz).elim
     ·omega
    subst h2
    clear hz
    go_wp2
    go_ret
    exact⟨by rw[←hkE,←HX.out];rfl,iter_new _ _ _⟩
   ·have hb:(y==10)=false:=by simpa using h2
    have hkE:Hid (k+1≤E):=by
     have h5:=HK.out
     unfold Hid
     by_cases hh:k<E
     ·omega
     ·have h6:=HI.out
      have h7:=HE2.out (by omega)
      have h8:k=E:=by omega
      rw[←h8]at h7
      exact(h2 ((told_is HT.out 10 (by omega) (by omega)).mpr h7)).elim
    clear h2
    go_wp2
    go_roundw
    case rel=>exact⟨k+1,hkE.out,by rw[HQ.out]⟩
    case measure=>simp;have:=HLT.out;have:=HLE.out;omega
  ·have hnx: ∀ty,(Instr.next (.pointer (some ⟨w.heap.size,0,none⟩)) true ty).run Tryz.prog (w.iter s (posOf (nums s) k))=_:=fun ty=>run_next_end w s (posOf (nums s) k) ty h1
   have hx:=front_all h1
   have hend:=rune_end h1
   have hkE:Hid (k=E):=Lh (by have:=HK.out;have:=HE3.out;omega)
   have HX:=Lh hx
   clear hx hend h1
   go_wp2
   go_ret
   exact⟨by rw[←hkE.out,HX.out];rfl,iter_new _ _ _⟩
theorem sword_any (s:ByteArray) (w:World) (_hm:s.size≤9223372036854775807):Calls Tryz.prog 75 #[.string s] w (GivesFr s (wordEnd (runesOf (nums s)) 0) w):=by
 obtain⟨E,hE⟩: ∃E,wordEnd (runesOf (nums s)) 0=E:=⟨_,rfl⟩
 have HE1:=Lh (fun j=> @wordEnd_in (runesOf (nums s)) 0 j)
 have HE2:=Lh (@wordEnd_out (runesOf (nums s)) 0)
 have HE3:=Lh (wordEnd_bd (l:=runesOf (nums s)) (Nat.zero_le _)).2
 simp only[Nat.zero_add]at HE1
 rw[hE]at HE1 HE2 HE3 ⊢
 clear hE
 go_enter Tryz.func75,Tryz.ntmps75
 go_wp2
 go_loopw [3,4] (fun _ _ wr=> ∃k:Nat,k≤E∧wr=w.iter s (posOf (nums s) k)) (fun _ _ wr=>s.size-wr.iterPos w.heap.size)
 case atStart=>exact⟨0,Nat.zero_le _,rfl⟩
 case round=>
  obtain⟨k,hk,rfl⟩:=hrel
  have HK:=Lh hk
  clear hk
  by_cases h1:posOf (nums s) k<s.size
  ·obtain⟨y,hnx,y0,y1,hi,ht,hlt,hle,_⟩:=rune_step w s k h1
   have HI:=Lh hi
   have HLT:=Lh hlt
   have HLE:=Lh hle
   have HX:=Lh (front_ext s k)
   have e1:((posOf (nums s) k:Nat):Int)≤(s.size:Int):=by omega
   have HW:=Lh (told_within ht)
   clear hi ht hlt hle h1
   obtain⟨P,hP⟩: ∃P,posOf (nums s) k=P:=⟨_,rfl⟩
   obtain⟨Q,hQ⟩: ∃Q,posOf (nums s) (k+1)=Q:=⟨_,rfl⟩
   rw[hP,hQ]at hnx HLT
   rw[hQ]at HLE
   rw[hP]at e1 HX ⊢
   have HQ:=Lh hQ
   clear hP hQ
   obtain⟨q,hq⟩: ∃q,withinB y=q:=⟨_,rfl⟩
   have RI:=Lh (fun w=>sin_is hq w)
   rw[hq]at HW
   clear hq
   cases q with
   |false=>
    have hkE:k=E:=by
     have h5:=HK.out
     by_cases hh:k<E
     ·have:=HE1.out k hh
      rw[←HW.out]at this;cases this
     ·omega
    go_wp2_with (go_at_call 74;(with_reducible refine(RI.out _).mono ?_);rintro e w2 ⟨rfl,rfl⟩)
    go_ret
    exact⟨by rw[←hkE,←HX.out];rfl,iter_new _ _ _⟩
   |true=>
    have hkE:Hid (k+1≤E):=by
     have h5:=HK.out
     unfold Hid
     by_cases hh:k<E
     ·omega
     ·have h6:=HI.out
      have h7:=HE2.out (by omega)
      have h8:k=E:=by omega
      rw[←h8,←HW.out]at h7
      cases h7
    go_wp2_with (go_at_call 74;(with_reducible refine(RI.out _).mono ?_);rintro e w2 ⟨rfl,rfl⟩)
    go_roundw
    case rel=>exact⟨k+1,hkE.out,by rw[HQ.out]⟩
    case measure=>simp;have:=HLT.out;have:=HLE.out;omega
  ·have hnx: ∀ty,(Instr.next (.pointer (some ⟨w.heap.size,0,none⟩)) true ty).run Tryz.prog (w.iter s (posOf (nums s) k))=_:=fun ty=>run_next_end w s (posOf (nums s) k) ty h1
   have hx:=front_all h1
   have hend:=rune_end h1
   have hkE:Hid (k=E):=Lh (by have:=HK.out;have:=HE3.out;omega)
   have HX:=Lh hx
   clear hx hend h1
   go_wp2
   go_ret
   exact⟨by rw[←hkE.out,HX.out];rfl,iter_new _ _ _⟩
theorem qEnd_step {l:List Int} {k:Nat} (h:k<l.length) (tk:Bool):qEnd tk (l.drop k)=if l.getD k 0=10 then 0 else if tk=true then qEnd false (l.drop (k+1))+1 else if l.getD k 0=92 then qEnd true (l.drop (k+1))+1 else if l.getD k 0=34 then 1 else qEnd false (l.drop (k+1))+1:=by
 rw[sdrop_cons h];rfl
theorem squoted_any2 (s:ByteArray) (w:World) (_hm:s.size≤9223372036854775806):Calls Tryz.prog 73 #[.string s] w (GivesFr s (qEnd true (runesOf (nums s))) w):=by
 obtain⟨E,hE⟩: ∃E,qEnd true (runesOf (nums s))=E:=⟨_,rfl⟩
 have HE0:Hid (E=0+qEnd true ((runesOf (nums s)).drop 0)):=Lh (by rw[←hE];simp)
 rw[hE]
 clear hE
 go_enter Tryz.func73,Tryz.ntmps73
 go_wp2
 go_loopw [3,4,5] (fun v3 _ _ wr=> ∃(k:Nat) (tk:Bool),v3= .bool tk∧E=k+qEnd tk ((runesOf (nums s)).drop k)∧wr=w.iter s (posOf (nums s) k)) (fun _ _ _ wr=>s.size-wr.iterPos w.heap.size)
 case atStart=>exact⟨0,true,rfl,HE0.out,rfl⟩
 case round=>
  obtain⟨k,tk,rfl,hk,rfl⟩:=hrel
  have HK:=Lh hk
  clear hk
  by_cases h1:posOf (nums s) k<s.size
  ·obtain⟨y,hnx,y0,y1,hi,ht,hlt,hle,hone⟩:=rune_step w s k h1
   have HQS:=Lh (qEnd_step hi tk)
   have HT:=Lh ht
   have HLT:=Lh hlt
   have HLE:=Lh hle
   have HONE:=Lh hone
   have HX:=Lh (front_ext s k)
   have HX2:=Lh (front_ext s (k+1))
   have e1:((posOf (nums s) k:Nat):Int)≤(s.size:Int):=by omega
   have e2:((posOf (nums s) k:Nat):Int)+1≤(s.size:Int):=by omega
   clear hi ht hlt hle h1 hone
   obtain⟨P,hP⟩: ∃P,posOf (nums s) k=P:=⟨_,rfl⟩
   obtain⟨Q,hQ⟩: ∃Q,posOf (nums s) (k+1)=Q:=⟨_,rfl⟩
   rw[hP,hQ]at hnx HLT HONE
   rw[hQ]at HLE HX2
   rw[hP]at e1 e2 HX ⊢
   have hwr:IntKind.i64.wrap ((P:Int)+1)=(P:Int)+1:=by rw[IntKind.wrap_i64];omega
   have HQ:=Lh hQ
   clear hP hQ
   have T10:=Lh (told_is HT.out 10 (by omega) (by omega))
   have T92:=Lh (told_is HT.out 92 (by omega) (by omega))
   have T34:=Lh (told_is HT.out 34 (by omega) (by omega))
   by_cases h2:y=10
   ·have hkE:Hid (E=k):=Lh (by rw[HK.out,HQS.out,if_pos (T10.out.mp h2)];rfl)
    subst h2
    go_wp2
    go_ret
    exact⟨by rw[hkE.out,←HX.out];rfl,iter_new _ _ _⟩
   have n10:=fun e=>h2 (T10.out.mpr e)
   have hb:(y==10)=false:=by simpa using h2
   cases tk with
   |true=>
    have hkE:Hid (E=k+1+qEnd false ((runesOf (nums s)).drop (k+1))):=Lh (by rw[HK.out,HQS.out,if_neg n10,if_pos rfl];omega)
    clear n10 h2
    go_wp2
    go_roundw
    case rel=>exact⟨k+1,false,rfl,hkE.out,by rw[HQ.out]⟩
    case measure=>simp;have:=HLT.out;have:=HLE.out;omega
   |false=>
    by_cases h3:y=92
    ·have hkE:Hid (E=k+1+qEnd true ((runesOf (nums s)).drop (k+1))):=Lh (by rw[HK.out,HQS.out,if_neg n10,if_neg (by decide),if_pos (T92.out.mp h3)];omega)
     subst h3
     clear n10 h2
     go_wp2
     go_roundw
     case rel=>exact⟨k+1,true,rfl,hkE.out,by rw[HQ.out]⟩
     case measure=>simp;have:=HLT.out;have:=HLE.out;omega
    have n92:=fun e=>h3 (T92.out.mpr e)
    have hb2:(y==92)=false:=by simpa using h3
    by_cases h4:y=34
    ·have hkE:Hid (E=k+1):=Lh (by rw[HK.out,HQS.out,if_neg n10,if_neg (by decide),if_neg n92,if_pos (T34.out.mp h4)])
     have hQP:Hid (Q=P+1):=Lh (HONE.out (by omega))
     subst h4
     clear n10 n92 h2 h3
     go_wp2
     go_ret
     refine⟨?_,iter_new _ _ _⟩
     rw[hkE.out,←HX2.out,hQP.out]
     have:((P:Int)+1).toNat=P+1:=by omega
     show Ending.returned (.string (s.extract 0 ((P:Int)+1).toNat))=_
     rw[this]
    ·have n34:=fun e=>h4 (T34.out.mpr e)
     have hb3:(y==34)=false:=by simpa using h4
     have hkE:Hid (E=k+1+qEnd false ((runesOf (nums s)).drop (k+1))):=Lh (by rw[HK.out,HQS.out,if_neg n10,if_neg (by decide),if_neg n92,if_neg n34];omega)
     clear n10 n92 n34 h2 h3 h4
     go_wp2
     go_roundw
     case rel=>exact⟨k+1,false,rfl,hkE.out,by rw[HQ.out]⟩
     case measure=>simp;have:=HLT.out;have:=HLE.out;omega
  ·have hnx: ∀ty,(Instr.next (.pointer (some ⟨w.heap.size,0,none⟩)) true ty).run Tryz.prog (w.iter s (posOf (nums s) k))=_:=fun ty=>run_next_end w s (posOf (nums s) k) ty h1
   have hx:=front_all h1
   have hend:=rune_end h1
   have hkE:Hid (E=k):=Lh (by
    have:=HK.out
    rw[List.drop_of_length_le hend]at this
    simpa [qEnd] using this)
   have HX:=Lh hx
   clear hx hend h1
   go_wp2
   go_ret
   exact⟨by rw[hkE.out,HX.out];rfl,iter_new _ _ _⟩
end
section
open Go.RowKit
theorem decode_front (s:ByteArray) (h:0<s.size): ∃y:Int,((Lib.decodeGo s).1:Int)=y∧(Lib.decodeGo s).2=posOf (nums s) 1∧posOf (nums s) 1≤s.size∧
  (((runesOf (nums s)).getD 0 0= -1∧y=65533)∨(0≤(runesOf (nums s)).getD 0 0∧y=(runesOf (nums s)).getD 0 0)):=by
 have hl:0<(nums s).length:=by rw[nums_length];exact h
 have hp:posOf (nums s) 1=widA (nums s) 0:=by
  have:posOf (nums s) 1=if posOf (nums s) 0<(nums s).length then posOf (nums s) 0+widA (nums s) (posOf (nums s) 0)else posOf (nums s) 0:=rfl
  have h0:posOf (nums s) 0=0:=rfl
  rw[this,h0,if_pos hl,Nat.zero_add]
 have hr:(runesOf (nums s)).getD 0 0=runeA (nums s) 0:=by
  have e:runesOf (nums s)=runeA (nums s) 0::rfrom (nums s) (0+widA (nums s) 0):=rfrom_in hl
  rw[e];rfl
 have hd:Lib.decodeGo s=Utf8.decode s 0:=by unfold Lib.decodeGo;rw[if_neg (by omega)]
 have hle:posOf (nums s) 1≤s.size:=by have:=pos_le (nums s) 1;rw[nums_length]at this;exact this
 rw[hd,hr]
 rcases decode_rune s 0 h with⟨h1,h2,h3⟩|⟨h1,h3⟩
 ·rw[h3]
  exact⟨65533,rfl,by rw[hp,h2],hle,My ⟨h1,rfl⟩⟩
 ·rw[h3]
  exact⟨runeA (nums s) 0,Int.toNat_of_nonneg h1,by rw[hp],hle,Mx ⟨h1,rfl⟩⟩
theorem spiece_any (s:ByteArray) (w:World) (env:Env w) (hm:s.size≤9223372036854775806) (h:0<s.size):Calls Tryz.prog 41 #[.string s] w (GivesFr s (pieceN (runesOf (nums s))) w):=by
 obtain⟨y,hy,hp,hple,ht⟩:=decode_front s h
 have RD:=Lh (Tryz.utf8_DecodeRuneInString s w env.utf)
 rw[hy,hp]at RD
 have HX:=Lh (front_ext s 1)
 have RR:=Lh (fun W=>sremark_any s W (by omega))
 have RQ:=Lh (fun W=>squoted_any2 s W hm)
 have RW:=Lh (fun W=>sword_any s W (by omega))
 have T35:=told_is ht 35 (by omega) (by omega)
 have T34:=told_is ht 34 (by omega) (by omega)
 have TW:=told_within ht
 obtain⟨P,hP⟩: ∃P,posOf (nums s) 1=P:=⟨_,rfl⟩
 rw[hP]at RD HX hple
 have e1:(P:Int)≤(s.size:Int):=by omega
 have hpc: ∀E,pieceN (runesOf (nums s))=E→E=(if(runesOf (nums s)).getD 0 0=35 then lineEnd (runesOf (nums s)) 0 else if(runesOf (nums s)).getD 0 0=34 then qEnd true (runesOf (nums s))else if withinB ((runesOf (nums s)).getD 0 0)=true then wordEnd (runesOf (nums s)) 0 else 1):=fun E e=>e.symm
 obtain⟨E,hE⟩: ∃E,pieceN (runesOf (nums s))=E:=⟨_,rfl⟩
 have HE:=hpc E hE
 rw[hE]
 obtain⟨q,hq⟩: ∃q,withinB y=q:=⟨_,rfl⟩
 have RI:=Lh (fun w=>sin_is hq w)
 rw[hq]at TW
 clear hE hpc ht hy hp hP env hq hple
 by_cases h1:y=35
 ·rw[if_pos (T35.mp h1)]at HE
  have HE:=Lh HE
  subst h1
  clear T34 TW T35
  go_enter Tryz.func41,Tryz.ntmps41
  go_wp2_with (first
   |(go_at_call 71;(with_reducible refine(RD.out).mono ?_);rintro e w1 ⟨rfl,g1⟩;have G1:=Lh g1;clear g1)
   |(go_at_call 72;(with_reducible refine(RR.out _).mono ?_);rintro e w2 ⟨rfl,g2⟩;have G2:=Lh (below_step G1.out g2);clear g2))
  go_ret
  exact⟨by rw[HE.out];rfl,G2.out⟩
 rw[if_neg (fun e=>h1 (T35.mpr e))]at HE
 have hb1:(y==35)=false:=by simpa using h1
 by_cases h2:y=34
 ·rw[if_pos (T34.mp h2)]at HE
  have HE:=Lh HE
  subst h2
  clear T34 TW T35 h1
  go_enter Tryz.func41,Tryz.ntmps41
  go_wp2_with (first
   |(go_at_call 71;(with_reducible refine(RD.out).mono ?_);rintro e w1 ⟨rfl,g1⟩;have G1:=Lh g1;clear g1)
   |(go_at_call 73;(with_reducible refine(RQ.out _).mono ?_);rintro e w2 ⟨rfl,g2⟩;have G2:=Lh (below_step G1.out g2);clear g2))
  go_ret
  exact⟨by rw[HE.out];rfl,G2.out⟩
 rw[if_neg (fun e=>h2 (T34.mpr e)),←TW]at HE
 have hb2:(y==34)=false:=by simpa using h2
 clear T34 TW T35 h1 h2
 cases q with
 |true=>
  rw[if_pos rfl]at HE
  have HE:=Lh HE
  go_enter Tryz.func41,Tryz.ntmps41
  go_wp2_with (first
   |(go_at_call 71;(with_reducible refine(RD.out).mono ?_);rintro e w1 ⟨rfl,g1⟩;have G1:=Lh g1;clear g1)
   |(go_at_call 74;(with_reducible refine(RI.out _).mono ?_);rintro e w9 ⟨rfl,rfl⟩)
   |(go_at_call 75;(with_reducible refine(RW.out _).mono ?_);rintro e w2 ⟨rfl,g2⟩;have G2:=Lh (below_step G1.out g2);clear g2))
  go_ret
  exact⟨by rw[HE.out];rfl,G2.out⟩
 |false=>
  rw[if_neg (by decide)]at HE
  have HE:=Lh HE
  go_enter Tryz.func41,Tryz.ntmps41
  go_wp2_with (first
   |(go_at_call 71;(with_reducible refine(RD.out).mono ?_);rintro e w1 ⟨rfl,g1⟩;have G1:=Lh g1;clear g1)
   |(go_at_call 74;(with_reducible refine(RI.out _).mono ?_);rintro e w9 ⟨rfl,rfl⟩))
  go_ret
  exact⟨by rw[HE.out,←HX.out];rfl,G1.out⟩
theorem nums_ne {s:ByteArray} (h:0<s.size):nums s≠ []:=fun e=>by have:=nums_length s;rw[e]at this;simp at this;omega
theorem byte_at (s:ByteArray) (h:0<s.size):((s[0]'h).toNat:Int)=(nums s).getD 0 0:=(nums_at s 0 h).symm
theorem sgap_any (s:ByteArray) (w:World) (h:0<s.size):Calls Tryz.prog 42 #[.string s] w fun e w'=>e= .returned (.bool (gapB ((runesOf (nums s)).getD 0 0)||decide ((runesOf (nums s)).getD 0 0=35)))∧w=w':=by
 have hf:=(first_is (nums_ne h) (nums_byte s)).2
 obtain⟨r,hr⟩: ∃r,(runesOf (nums s)).getD 0 0=r:=⟨_,rfl⟩
 obtain⟨b,hb⟩: ∃b,(nums s).getD 0 0=b:=⟨_,rfl⟩
 have hx:((s[0]'h).toNat:Int)=b:=(byte_at s h).trans hb
 have hi:(0:Int)<(s.size:Int):=by omega
 rw[hr,hb]at hf
 rw[hr]
 obtain⟨q,hq⟩: ∃q,(gapB r||decide (r=35))=q:=⟨_,rfl⟩
 rw[hq]
 have HQ:=Lh hq
 have hc:b=32∨b=9∨b=10∨b=35∨(b≠32∧b≠9∧b≠10∧b≠35):=by omega
 have HF:=Lh hf
 clear hr hb hf hq
 rcases hc with rfl|rfl|rfl|rfl|⟨h1,h2,h3,h4⟩
 ·have e:r=32:=by have:=HF.out;omega
  obtain rfl:q=true:=by rw[←HQ.out,e];rfl
  clear e
  go_enter Tryz.func42,Tryz.ntmps42
  go_wp2
  go_ret
  exact⟨rfl,rfl⟩
 ·have e:r=9:=by have:=HF.out;omega
  obtain rfl:q=true:=by rw[←HQ.out,e];rfl
  clear e
  go_enter Tryz.func42,Tryz.ntmps42
  go_wp2
  go_ret
  exact⟨rfl,rfl⟩
 ·have e:r=10:=by have:=HF.out;omega
  obtain rfl:q=true:=by rw[←HQ.out,e];rfl
  clear e
  go_enter Tryz.func42,Tryz.ntmps42
  go_wp2
  go_ret
  exact⟨rfl,rfl⟩
 ·have e:r=35:=by have:=HF.out;omega
  obtain rfl:q=true:=by rw[←HQ.out,e];rfl
  clear e
  go_enter Tryz.func42,Tryz.ntmps42
  go_wp2
  go_ret
  exact⟨rfl,rfl⟩
 ·obtain rfl:q=false:=by
   have n1: ¬r=32:=by have:=HF.out;omega
   have n2: ¬r=9:=by have:=HF.out;omega
   have n3: ¬r=10:=by have:=HF.out;omega
   have n4: ¬r=35:=by have:=HF.out;omega
   rw[←HQ.out];unfold gapB;simp[n1,n2,n3,n4]
  have e1:(b==32)=false:=by simpa using h1
  have e2:(b==9)=false:=by simpa using h2
  have e3:(b==10)=false:=by simpa using h3
  have e4:(b==35)=false:=by simpa using h4
  clear h1 h2 h3 h4
  go_enter Tryz.func42,Tryz.ntmps42
  go_wp2
  go_ret
  exact⟨rfl,rfl⟩
theorem load_spot {W:World} {g:Nat} {x y:Value} (h:Var2 W g x y):(loadVar 39 ⟨g,0,none⟩).run Tryz.prog W= .ok (.agg #[x,y]) W:=by
 obtain⟨c0,c1,_,_,_⟩:=h
 go_simp
theorem sbehind_results {W:World} {g:Nat} {x y:Value} {tmps:Array Value} (h:Var2 W g x y) (h4:tmps.getD 4 undef= .pointer (some ⟨g,0,none⟩)):(results Tryz.f44 tmps).run Tryz.prog W= .ok (.agg #[x,y]) W:=by
 have e:(asAddr (Value.pointer (some ⟨g,0,none⟩))).run Tryz.prog W= .ok ⟨g,0,none⟩ W:=rfl
 have hr:Tryz.f44.results= #[.cell 4 39]:=rfl
 have q4:tmps[4]?.getD undef= .pointer (some ⟨g,0,none⟩):=by simpa using h4
 simp only[results,hr]
 simp[Sem.run_bind,Result.andThen,q4,e,load_spot h]
theorem Var2.hold {W W':World} {p:Nat} {x y:Value} (h:Var2 W p x y) (e:W'.heap[p]?=W.heap[p]?) (hs:W.heap.size≤W'.heap.size):Var2 W' p x y:=
 ⟨(World.cell?_of_block e).trans h.c0,(World.cell?_of_block e).trans h.c1,(World.frozen?_of_block e).trans h.q0,(World.frozen?_of_block e).trans h.q1,Nat.lt_of_lt_of_le h.s hs⟩
def spotTo (p:Int×Int) (l:List Int) (k:Nat):Int×Int:=(l.take k).foldl spotStep p
theorem spotTo_next {p:Int×Int} {l:List Int} {k:Nat} (h:k<l.length):spotTo p l (k+1)=spotStep (spotTo p l k) (l.getD k 0):=by
 unfold spotTo
 rw[take_snoc h,List.foldl_append];rfl
theorem spotTo_bd {p:Int×Int} {l:List Int} {M:Int} (h:1≤p.1∧p.1≤M∧1≤p.2∧p.2≤M): ∀k,k≤l.length→1≤(spotTo p l k).1∧(spotTo p l k).1≤M+k∧1≤(spotTo p l k).2∧(spotTo p l k).2≤M+k
 |0,_=>by
  have e:spotTo p l 0=p:=rfl
  rw[e];omega
 |k+1,hk=>by
  have ih:=spotTo_bd (l:=l) h k (by omega)
  rw[spotTo_next (by omega)]
  unfold spotStep
  split
  ·show 1≤(spotTo p l k).1+1∧(spotTo p l k).1+1≤_∧(1:Int)≤1∧(1:Int)≤_
   omega
  ·show 1≤(spotTo p l k).1∧(spotTo p l k).1≤_∧1≤(spotTo p l k).2+1∧(spotTo p l k).2+1≤_
   omega
theorem runes_le (zs:List Int):(runesOf zs).length≤zs.length:=by
 have key: ∀n i,zs.length-i≤n→(rfrom zs i).length≤zs.length-i:=by
  intro n
  induction n with
  |zero=>intro i hi;rw[rfrom_out (by omega)];exact Nat.zero_le _
  |succ n ih=>
   intro i hi
   by_cases h:i<zs.length
   ·have hw:=widA_pos zs i
    rw[rfrom_in h,List.length_cons]
    have:=ih (i+widA zs i) (by omega)
    omega
   ·rw[rfrom_out h];exact Nat.zero_le _
 exact key zs.length 0 (by omega)
theorem sbehind_any (s:ByteArray) (a b M:Int) (w:World) (hm:s.size≤1000000) (hp:1≤a∧a≤M∧1≤b∧b≤M) (hM:M≤1000000):
  Calls Tryz.prog 44 #[.string s, .agg #[.int .i64 a, .int .i64 b]] w fun e w'=>e= .returned (.agg #[.int .i64 ((runesOf (nums s)).foldl spotStep (a,b)).1, .int .i64 ((runesOf (nums s)).foldl spotStep (a,b)).2])∧Below w.heap.size w w':=by
 obtain⟨l,hl⟩: ∃l,runesOf (nums s)=l:=⟨_,rfl⟩
 have HL:=Lh hl
 have hll:l.length≤1000000:=by rw[←hl];have:=runes_le (nums s);rw[nums_length]at this;omega
 have HB:=Lh (fun k hk=>spotTo_bd (p:=(a,b)) (l:=l) (M:=M) hp k hk)
 obtain⟨R,hR⟩: ∃R,l.foldl spotStep (a,b)=R:=⟨_,rfl⟩
 have HR:Hid (spotTo (a,b) l l.length=R):=Lh (by rw[←hR];unfold spotTo;rw[List.take_length])
 rw[hl,hR]
 obtain⟨B,hB⟩: ∃B,w.heap.size=B:=⟨_,rfl⟩
 rw[hB]
 obtain⟨W0,hW0⟩: ∃W,w.alloc (.cells #[.int .i64 a, .int .i64 b] 39)=W:=⟨_,rfl⟩
 have V0:Var2 W0 B (.int .i64 a) (.int .i64 b):=by rw[←hW0];exact Var2.fresh w _ _ _ _ hB.symm
 have g0:Below B w W0:=by rw[←hW0,←hB];exact(Below.refl _ _).alloc (Nat.le_refl _) _
 have hs0:W0.heap.size=B+1:=by rw[←hW0];simp[hB]
 obtain⟨W1,hW1⟩: ∃W,W0.alloc (.cells #[.int .i64 0, .int .i64 0] 39)=W:=⟨_,rfl⟩
 have V1:Var2 W1 B (.int .i64 a) (.int .i64 b):=by rw[←hW1];exact V0.alloc _
 have U1:Var2 W1 (B+1) (.int .i64 0) (.int .i64 0):=by rw[←hW1];exact Var2.fresh W0 _ _ _ _ hs0.symm
 have g1:Below B w W1:=by rw[←hW1];exact g0.alloc (by omega) _
 have hs1:W1.heap.size=B+2:=by rw[←hW1];simp[hs0]
 obtain⟨W2,hW2⟩: ∃W,W1.iter s 0=W:=⟨_,rfl⟩
 have hi2:W2.heap[B+2]?=some (.stringIter s 0):=by rw[←hW2,←hs1];exact World.iter_heap W1 s 0
 have b2:Below (B+2) W1 W2:=by rw[←hW2,←hs1];exact iter_new W1 s 0
 have V2:Var2 W2 B (.int .i64 a) (.int .i64 b):=V1.after (by rw[hs1];exact b2)
 have U2:Var2 W2 (B+1) (.int .i64 0) (.int .i64 0):=U1.after (by rw[hs1];exact b2)
 have g2:Below B w W2:=g1.trans (b2.mono (by omega))
 have HV:=Lh V2
 have HU:=Lh U2
 have HG:=Lh g2
 have HI:=Lh hi2
 have hBw:=Lh hB
 clear V0 V1 U1 g0 g1 b2 V2 U2 g2 hi2 hl hR hp
 go_enter Tryz.func44,Tryz.ntmps44
 go_wp2
 clear hW0 hW1 hW2 hs0 hs1 hB
 go_loopw [6] (fun _ wr=> ∃k:Nat,k≤l.length∧wr.heap[B+2]?=some (.stringIter s (posOf (nums s) k))∧Var2 wr B (.int .i64 (spotTo (a,b) l k).1) (.int .i64 (spotTo (a,b) l k).2)∧Var2 wr (B+1) (.int .i64 0) (.int .i64 0)∧Below B w wr) (fun _ wr=>s.size-wr.iterPos (B+2))
 case atStart=>exact⟨0,Nat.zero_le _,HI.out,HV.out,HU.out,HG.out⟩
 case round=>
  obtain⟨k,hk,hit,hv,hu,hb⟩:=hrel
  have HIT:=Lh hit
  have bd:=HB.out k hk
  obtain⟨X,hX⟩: ∃X,(spotTo (a,b) l k).1=X:=⟨_,rfl⟩
  obtain⟨Y,hY⟩: ∃Y,(spotTo (a,b) l k).2=Y:=⟨_,rfl⟩
  have HXY:=Lh (show spotTo (a,b) l k=(X,Y) by rw[←hX,←hY])
  rw[hX,hY]at hv bd
  have hw1:IntKind.i64.wrap (Y+1)=Y+1:=by rw[IntKind.wrap_i64];omega
  have hw2:IntKind.i64.wrap (X+1)=X+1:=by rw[IntKind.wrap_i64];omega
  have VV:=Lh hv
  have UU:=Lh hu
  have GG:=Lh hb
  clear hX hY hb bd
  by_cases h1:posOf (nums s) k<s.size
  ·obtain⟨y,hnx,y0,y1,hi,ht,hlt,hle,_⟩:=rune_step_at wr (B+2) s k hit h1
   rw[HL.out]at hi ht
   have HI:=Lh hi
   have HLT:=Lh hlt
   have HLE:=Lh hle
   have T10:=Lh (told_is ht 10 (by omega) (by omega))
   have HNX:=Lh (spotTo_next (p:=(a,b)) hi)
   have hk2:=Lh (Lib.iterAt_heap wr (B+2) s (posOf (nums s) k) (posOf (nums s) (k+1)) hit)
   have hby:=Lib.below_iterAt (Below.refl (B+2) wr) (Nat.le_refl _) s (posOf (nums s) (k+1))
   have V3:=hv.hold (hby.block B (by omega)) hby.size
   have U3:=hu.hold (hby.block (B+1) (by omega)) hby.size
   have G3:=Lh (GG.out.trans (hby.mono (by omega)))
   obtain⟨P,hP⟩: ∃P,posOf (nums s) k=P:=⟨_,rfl⟩
   obtain⟨Q,hQ⟩: ∃Q,posOf (nums s) (k+1)=Q:=⟨_,rfl⟩
   rw[hP,hQ]at hnx HLT
   rw[hQ]at HLE hk2 V3 U3 G3
   rw[hP]at HIT
   have HQ:=Lh hQ
   obtain⟨W3,hW3⟩: ∃W,wr.iterAt (B+2) s Q=W:=⟨_,rfl⟩
   rw[hW3]at hnx hk2 V3 U3 G3
   have VV3:=Lh V3
   have UU3:=Lh U3
   have HB2:Hid (∀(i:Nat) (v:Value),(W3.setCell ⟨B,i,none⟩ v).heap[B+2]?=W3.heap[B+2]?):=Lh (fun i v=>sset_else _ _ _ _ _ (by omega))
   obtain⟨c0,c1,q0,q1,s1⟩:=V3
   clear hi ht hlt hle hby U3 hP hQ hW3 hit hv hu
   by_cases h10:y=10
   ·have hz:=T10.out.mp h10
    have HN:Hid (spotTo (a,b) l (k+1)=(X+1,1)):=Lh (by rw[HNX.out,HXY.out,hz];rfl)
    subst h10
    clear hz
    go_wp2
    go_roundw
    case rel=>
     refine⟨k+1,HI.out,?_,?_,?_,?_⟩
     ·rw[sset_else _ _ _ _ _ (by omega),sset_else _ _ _ _ _ (by omega),sset_else _ _ _ _ _ (by omega),hk2.out,HQ.out]
     ·rw[HN.out]
      exact(VV3.out.put1 (.int .i64 (Y+1))).put (.int .i64 (X+1)) (.int .i64 1)
     ·exact UU3.out.hold (by rw[sset_else _ _ _ _ _ (by omega),sset_else _ _ _ _ _ (by omega),sset_else _ _ _ _ _ (by omega)]) (by simp)
     ·exact below_put2 (G3.out.setCell (by show B≤B;omega) _) (Nat.le_refl _) _ _
    case measure=>
     have e1:=iterPos_of HIT.out
     have e2:((((W3.setCell ⟨B,1,none⟩ (.int .i64 (Y+1))).setCell ⟨B,0,none⟩ (.int .i64 (X+1))).setCell ⟨B,1,none⟩ (.int .i64 1))).iterPos (B+2)=Q:=iterPos_of (by rw[sset_else _ _ _ _ _ (by omega),sset_else _ _ _ _ _ (by omega),sset_else _ _ _ _ _ (by omega),hk2.out])
     have:=HLT.out
     have:=HLE.out
     rw[e1,e2];omega
   ·have hz:=fun e=>h10 (T10.out.mpr e)
    have HN:Hid (spotTo (a,b) l (k+1)=(X,Y+1)):=Lh (by rw[HNX.out,HXY.out];exact if_neg hz)
    have hb10:(y==10)=false:=by simpa using h10
    clear hz h10
    go_wp2
    go_roundw
    case rel=>
     refine⟨k+1,HI.out,?_,?_,?_,?_⟩
     ·rw[sset_else _ _ _ _ _ (by omega),hk2.out,HQ.out]
     ·rw[HN.out]
      exact VV3.out.put1 (.int .i64 (Y+1))
     ·exact UU3.out.hold (by rw[sset_else _ _ _ _ _ (by omega)]) (by simp)
     ·exact G3.out.setCell (by show B≤B;omega) _
    case measure=>
     have e1:=iterPos_of HIT.out
     have e2:(W3.setCell ⟨B,1,none⟩ (.int .i64 (Y+1))).iterPos (B+2)=Q:=iterPos_of (by rw[sset_else _ _ _ _ _ (by omega),hk2.out])
     have:=HLT.out
     have:=HLE.out
     rw[e1,e2];omega
  ·have hnx:=fun ty=>Lib.run_next_end_at (P:=Tryz.prog) wr (B+2) s (posOf (nums s) k) ty hit h1
   have hend:=rune_end h1
   rw[HL.out]at hend
   have HE:Hid (R=(X,Y)):=Lh (by rw[←HR.out,←HXY.out,show k=l.length by omega])
   obtain⟨c0,c1,q0,q1,s1⟩:=hv
   obtain⟨d0,d1,r0,r1,t1⟩:=hu
   clear hend hit h1
   go_wp2
   refine bodyPost_ret (sbehind_results (UU.out.put (.int .i64 X) (.int .i64 Y)) rfl) rfl ?_
   exact⟨by rw[HE.out],below_put2 GG.out (by omega) _ _⟩
end
section
def txT (k:Int) (s:ByteArray):List Int:=if k=1∨k=2 then nums s else []
def EndG (R:List Int):Prop:= ∀r t,R=r::t→withinB r=false
structure ReadsAs (pr:List Int) (t:TkV):Prop where
 some:0<pr.length
 gap:gapB (pr.getD 0 0)=false
 note:pr.getD 0 0≠35
 tok:tokP pr=(t,0)
 piece: ∀R,EndG R→pieceN (pr++R)=pr.length
theorem takeWhile_whole {p:Int→Bool} : ∀(a R:List Int),(∀z∈a,p z=true)→(∀r t,R=r::t→p r=false)→(a++R).takeWhile p=a
 | [],[],_,_=>rfl
 | [],r::t,_,h=>by rw[List.nil_append,List.takeWhile_cons_of_neg (by rw[h r t rfl];decide)]
 |z::a,R,ha,h=>by
  rw[List.cons_append,List.takeWhile_cons_of_pos (ha z (Jz ..)),takeWhile_whole a R (fun x hx=>ha x (Jy _ hx)) h]
theorem getD_app {a:List Int} (R:List Int) (h:0<a.length):(a++R).getD 0 0=a.getD 0 0:=by
 cases a with
 |nil=>cases h
 |cons z a=>rfl
theorem ReadsAs.word {pr:List Int} {t:TkV} (h0:0<pr.length) (hw: ∀z∈pr,withinB z=true) (hv:valF pr=(t,0)):ReadsAs pr t:=by
 have hf:withinB (pr.getD 0 0)=true:=by
  rw[List.getD_eq_getElem?_getD,List.getElem?_eq_getElem h0]
  exact hw _ (List.getElem_mem h0)
 have no: ∀c:Int,withinB c=false→pr.getD 0 0≠c:=fun c hc e=>by rw[e,hc]at hf;cases hf
 have n35:=no 35 (by decide)
 have n34:=no 34 (by decide)
 refine⟨h0,?_,n35,?_,fun R hR=>?_⟩
 ·have n1:=no 32 (by decide)
  have n2:=no 9 (by decide)
  have n3:=no 10 (by decide)
  generalize pr.getD 0 0=v at n1 n2 n3
  unfold gapB
  simp[n1,n2,n3]
 ·unfold tokP
  rw[if_neg (no 123 (by decide)),if_neg (no 125 (by decide)),if_neg (no 59 (by decide)),if_neg n34,hv]
 ·unfold pieceN
  rw[getD_app R h0,if_neg n35,if_neg n34,if_pos hf]
  unfold wordEnd
  rw[List.drop_zero,takeWhile_whole pr R hw hR,Nat.zero_add]
theorem text_ascii {l:List Int} (h: ∀z∈l,0≤z∧z<128):textR l=l:=by
 induction l with
 |nil=>rfl
 |cons z l ih=>
  have h1:=h z (Jz ..)
  have e:byteR z= [z]:=by unfold byteR encL;rw[if_neg (by omega),if_pos h1.2]
  show byteR z++textR l=_
  rw[e,ih (fun x hx=>h x (Jy _ hx))];rfl
theorem ReadsAs.num {pr:List Int} {k n:Nat} (h0:0<pr.length) (hl: ∀z∈pr,(48≤z∧z≤57)∨unitOf z≠0∨z=46∨z=37) (hv:valF pr=numT k (n,0)):ReadsAs pr ⟨k,[],n⟩:=
 ReadsAs.word h0 (fun z hz=>(within_ascii (hl z hz)).1) (by rw[hv];exact numT_fine rfl)
theorem text_letters {pr:List Int} (hl: ∀z∈pr,(48≤z∧z≤57)∨unitOf z≠0∨z=46∨z=37):textR pr=pr:=text_ascii (fun z hz=>(within_ascii (hl z hz)).2)
theorem digit_front {pr:List Int} (h0:0<pr.length) (h:48≤pr.getD 0 0∧pr.getD 0 0≤57): ¬(pr= []∨digitB (pr.getD 0 0)=false):=by
 rintro(rfl|h2)
 ·cases h0
 ·generalize pr.getD 0 0=v at h h2
  unfold digitB at h2
  simp[h]at h2
theorem dec_front (n:Nat):48≤(dec n).getD 0 0∧(dec n).getD 0 0≤57:=by
 have hp:=dec_pos n
 exact dec_byte n _ (getD_mem (by omega))
theorem not_allD {zs:List Int} {z:Int} (h:z∈zs) (hz: ¬(48≤z∧z≤57)): ¬AllD zs:=fun g=>hz (allD_digits g z h)
theorem tailD_bd {r:Nat} (h:r<100):(∀z∈tailD r,48≤z∧z≤57)∧(tailD r).length≤2:=by
 unfold tailD
 split
 ·exact⟨fun z hz=>(by cases hz),by simp⟩
 ·split
  ·refine⟨fun z hz=>?_,by simp⟩
   have:=List.mem_singleton.mp hz;omega
  ·refine⟨fun z hz=>?_,by simp⟩
   simp only[List.mem_cons,List.not_mem_nil,or_false]at hz
   omega
theorem t3_tail {m:Nat} (h:m<1000):t3 ([48+((m/100:Nat):Int)]++tailD (m%100))=m:=by
 unfold t3 tailD
 by_cases h1:m%100=0
 ·rw[if_pos h1]
  simp[numOf]
  omega
 ·rw[if_neg h1]
  by_cases h2:m%100%10=0
  ·rw[if_pos h2]
   simp[numOf]
   omega
  ·rw[if_neg h2]
   simp[numOf]
   omega
theorem head_tail {a b:List Int} (h: ∀z∈a,z≠46):headP (a++46::b)=a∧tailP (a++46::b)=b:=by
 unfold headP tailP
 induction a with
 |nil=>simp
 |cons z a ih=>
  have hz:=h z (Jz ..)
  obtain⟨i1,i2⟩:=ih (fun x hx=>h x (Jy _ hx))
  rw[List.cons_append,List.takeWhile_cons_of_pos (by simpa using hz),List.dropWhile_cons_of_pos (by simpa using hz),i1]
  exact⟨rfl,i2⟩
theorem facP_form (n:Nat):facP n=dec (n/1000)++46::([48+((n%1000/100:Nat):Int)]++tailD (n%100)):=by
 unfold facP;simp
theorem reads_factor {n:Nat} (h:n≤18446744073709551615):ReadsAs (facP n) ⟨4,[],n⟩:=by
 obtain⟨B,hB⟩: ∃B,[48+((n%1000/100:Nat):Int)]++tailD (n%100)=B:=⟨_,rfl⟩
 have hf:=facP_form n
 have ht:=tailD_bd (r:=n%100) (by omega)
 have hBd: ∀z∈B,48≤z∧z≤57:=fun z hz=>by
  rw[←hB]at hz
  rcases List.mem_append.mp hz with hz|hz
  ·have:=List.mem_singleton.mp hz;omega
  ·exact ht.1 z hz
 have hBl:1≤B.length∧B.length≤3:=by rw[←hB,Kq];have:=ht.2;simp;omega
 have h3:t3 B=n%1000:=by
  rw[←hB]
  have:=t3_tail (m:=n%1000) (by omega)
  rw[show n%1000%100=n%100 by omega]at this
  exact this
 rw[hB]at hf
 have hp:=dec_pos (n/1000)
 have hl: ∀z∈facP n,(48≤z∧z≤57)∨unitOf z≠0∨z=46∨z=37:=fun z hz=>by
  rw[hf]at hz
  rcases List.mem_append.mp hz with hz|hz
  ·exact My (dec_byte _ z hz)
  ·rcases List.mem_cons.mp hz with rfl|hz
   ·exact Mx (Mx (My rfl))
   ·exact My (hBd z hz)
 have h0:0<(facP n).length:=by rw[hf,Kq];omega
 refine ReadsAs.num h0 hl ?_
 have hfront:48≤(facP n).getD 0 0∧(facP n).getD 0 0≤57:=by rw[hf,getD_app _ hp];exact dec_front _
 have h46:(46:Int)∈facP n:=by rw[hf];simp
 have hlast: ¬(facP n).getD ((facP n).length-1) 0=37:=by
  have hm:(facP n).getD ((facP n).length-1) 0∈B:=by
   rw[hf]
   have e:(dec (n/1000)++46::B).length-1=(dec (n/1000)++ [46]).length+(B.length-1):=by simp;omega
   have e2:dec (n/1000)++46::B=(dec (n/1000)++ [46])++B:=by simp
   rw[e,e2,getD_right]
   exact getD_mem (by omega)
  have:=hBd _ hm
  omega
 obtain⟨hh,htl⟩:=head_tail (a:=dec (n/1000)) (b:=B) (fun z hz=>by have:=dec_byte _ z hz;omega)
 rw[valF_factor (digit_front h0 hfront) (by rw[text_letters hl];exact not_allD h46 (by omega)) (by rw[text_letters hl];exact hlast) (by rw[text_letters hl];exact h46),text_letters hl,hf,hh,htl]
 congr 1
 have hA:AllD B:=⟨fun e=>(by rw[e]at hBl;simp at hBl),fun i hi=>hBd _ (getD_mem hi)⟩
 unfold facF
 rw[if_pos ⟨hA,hBl.2⟩,numF_fine (dec_dg _) (by rw[numOf_dec];omega),numOf_dec,if_pos rfl,h3,if_neg (by omega)]
 congr 1
 omega
theorem share_print {n:Nat} (h:n≤1000000):shareF (pct n)=(n,0):=by
 obtain⟨ys,A,B,d,e1,e2,e3,e4⟩:=pct_halves n
 unfold shareF
 have hx: ∃p:List Int×List Int,∃ys d,pct n=ys++ [37]∧Halves ys p.1 p.2 d∧Written p.1 p.2 d:=⟨(A,B),ys,d,e1,e2,e3⟩
 rw[dif_pos hx]
 obtain⟨ys',d',f1,f2,f3⟩:=hx.choose_spec
 have hy:ys'=ys:=List.append_cancel_right (f1.symm.trans e1)
 subst hy
 obtain⟨q1,q2,_⟩:=Halves.unique f2 e2
 rw[q1,q2,e4,if_neg (by omega)]
theorem pct_letters (n:Nat): ∀z∈pct n,(48≤z∧z≤57)∨unitOf z≠0∨z=46∨z=37:=fun z hz=>by
 unfold pct tailOf at hz
 rcases List.mem_append.mp hz with hz|hz
 ·exact My (dec_byte _ z hz)
 ·rcases List.mem_append.mp hz with hz|hz
  ·split at hz
   ·cases hz
   ·rcases List.mem_cons.mp hz with rfl|hz
    ·exact Mx (Mx (My rfl))
    ·exact My (fr_byte 4 _ (by omega) z hz)
  ·exact Mx (Mx (Mx (List.mem_singleton.mp hz)))
theorem reads_share {n:Nat} (h:n≤1000000):ReadsAs (pct n) ⟨5,[],n⟩:=by
 have hl:=pct_letters n
 have hp:=dec_pos (n/10000)
 have h0:0<(pct n).length:=by unfold pct;rw[Kq];omega
 refine ReadsAs.num h0 hl ?_
 have hfront:48≤(pct n).getD 0 0∧(pct n).getD 0 0≤57:=by unfold pct;rw[getD_app _ hp];exact dec_front _
 have h37:(37:Int)∈pct n:=by unfold pct;simp
 have hlast:(pct n).getD ((pct n).length-1) 0=37:=by
  unfold pct
  rw[←List.append_assoc]
  have e:((dec (n/10000)++tailOf (n%10000))++ [37]).length-1=(dec (n/10000)++tailOf (n%10000)).length+0:=by simp
  rw[e,getD_right];rfl
 rw[valF_share (digit_front h0 hfront) (by rw[text_letters hl];exact not_allD h37 (by omega)) (by rw[text_letters hl];exact hlast),text_letters hl,share_print h]
theorem span_print {n:Nat} (h:n≤253402300799):spanF (spn n)=(n,0):=by
 have hx: ∃N,Tells (spn n) N:=⟨n,spn_tells n⟩
 unfold spanF
 rw[dif_pos hx,Tells.unique hx.choose_spec (spn_tells n),if_pos h]
theorem reads_span {n:Nat} (h:n≤253402300799):ReadsAs (spn n) ⟨6,[],n⟩:=by
 obtain⟨hne,l,hr⟩:=spn_tells n
 have hl0:=runs_letters _ _ _ hr
 have hl: ∀z∈spn n,(48≤z∧z≤57)∨unitOf z≠0∨z=46∨z=37:=fun z hz=>by
  rcases hl0 z hz with h|h
  ·exact My h
  ·exact Mx (My h)
 have h0:0<(spn n).length:=List.length_pos_iff.mpr hne
 obtain⟨hla,hl1,_⟩:=Tells.last hne hr
 refine ReadsAs.num h0 hl ?_
 have hfront:48≤(spn n).getD 0 0∧(spn n).getD 0 0≤57:=by
  refine Classical.byContradiction fun hn=>?_
  have hd:=runs_dead (s:=St0) (zs:=spn n) (k:=0) h0 (t:=St0) (by rfl) (by exact stp_bare hn)
  rw[hd]at hr;cases hr
 have hlast:unitOf ((spn n).getD ((spn n).length-1) 0)≠0:=by rw[←hla];exact hl1
 have hmem:(spn n).getD ((spn n).length-1) 0∈spn n:=getD_mem (by omega)
 have h46: ¬(46:Int)∈spn n:=fun hm=>by
  rcases hl0 46 hm with h|h
  ·omega
  ·exact h rfl
 rw[valF_span (digit_front h0 hfront) (by rw[text_letters hl];exact not_allD hmem (unitOf_letter hlast)) (by rw[text_letters hl];exact fun e=>hlast (by rw[e];rfl)) (by rw[text_letters hl];exact h46),text_letters hl,span_print h]
theorem reads_mark {c:Int} {k:Nat} (h:(c=123∧k=7)∨(c=125∧k=8)∨(c=59∧k=9)):ReadsAs [c] ⟨k,[],0⟩:=by
 rcases h with⟨rfl,rfl⟩|⟨rfl,rfl⟩|⟨rfl,rfl⟩
 all_goals
  refine⟨by decide,by decide,by decide,rfl,fun R _=>?_⟩
  unfold pieceN
  rw[getD_app R (by decide)]
  rfl
theorem name_within {l:List Int} (h:NameL l): ∀z∈l,withinB z=true:=fun z hz=>by
 obtain⟨i,hi,rfl⟩:=List.mem_iff_getElem.mp hz
 have:=h.2.2.2 i hi
 unfold nameOk at this
 rw[List.getD_eq_getElem?_getD,List.getElem?_eq_getElem hi]at this
 simp only[Option.getD_some]at this
 unfold withinB
 revert this
 cases letterB l[i]<;>cases digitB l[i]<;>simp
 intro _ h2
 rcases h2 with h2|h2<;>simp[h2]
theorem name_front {l:List Int} (h:NameL l):digitB (l.getD 0 0)=false:=by
 have h3:=h.2.2.1
 cases hx:digitB (l.getD 0 0)with
 |false=>rfl
 |true=>
  unfold letterB at h3
  unfold digitB at hx
  simp only[Bool.and_eq_true,Bool.or_eq_true,decide_eq_true_eq]at h3 hx
  omega
theorem reads_name {zs:List Int} (hb: ∀z∈zs,0≤z∧z≤255) (h:NameL (runesOf zs)):ReadsAs (runesOf zs) ⟨1,zs,0⟩:=by
 have hw:=name_within h
 refine ReadsAs.word h.1 hw ?_
 rw[valF_name (Mx (name_front h)) h,text_runes hb (fun r hr=>within_low (hw r hr))]
end
section
open Go.RowKit
def TP (p n q L r:Nat):Nat→Value→World→Prop
 |0,v,_=>v= .pointer (some ⟨p,2,none⟩)
 |1,v,_=>v= .int .u64 (n:Int)
 |2,v,_=>v= .int .u64 (q:Int)
 |3,v,_=>v= .string (strOfNums (dec q))
 |4,v,_=>v= .string (strOfNums (dec q++ [46]))
 |5,v,_=>v= .int .u64 (L:Int)
 |6,v,_=>v= .int .u64 (r:Int)
 |7,v,_=>v= .int .u8 (r:Int)
 |8,v,_=>v= .int .u8 (48+(r:Int))
 |9,v,W=> ∃g,v= .slice (some ⟨g,0,none⟩) 1 1∧g<W.heap.size∧W.cell? ⟨g,0,none⟩=some (.int .u8 (48+(r:Int)))
 |10,v,_=>v= .string (strOfNums [48+(r:Int)])
 |11,v,_=>v= .string (strOfNums (dec q++ [46,48+(r:Int)]))
 |_,_,_=>True
end
section
open Go.RowKit
end
end Go.Proofs.YtalcagmhdppdjaaGreatDoor
