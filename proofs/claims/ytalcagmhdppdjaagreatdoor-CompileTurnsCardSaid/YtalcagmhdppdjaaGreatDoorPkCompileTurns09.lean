/-
  Variables of so many cells, as a list; what changes and what stays.
-/
import Derived.Test.YtalcagmhdppdjaaGreatDoorPkCompileTurns08
import Derived.Maps.OwnOps
import Derived.OwnWalk
set_option maxRecDepth 100000
set_option maxHeartbeats 8000000
namespace Go.Proofs.YtalcagmhdppdjaaGreatDoor
open Lib renaming hid→Lh
open Or renaming inr→Mx,inl→My
open Nat renaming le_refl→Mz
open List renaming getElem?_eq_getElem→Kh,mem_cons_of_mem→Jy,mem_cons_self→Jz
section
open Go.RowKit
def FPs (n q:Nat) (x y z:Int) (tl pa pb pc:List Int):Nat→Value→World→Prop
 |0,v,_=>v= .int .u64 (n:Int)
 |1,v,_=>v= .int .u64 (q:Int)
 |2,v,_=>v= .string (strOfNums (dec q))
 |3,v,_=>v= .string (strOfNums pa)
 |4,v,_=>v= .string (strOfNums [x,y,z])
 |5,v,_=>v= .string (strOfNums [x])
 |6,v,_=>v= .string (strOfNums pb)
 |7,v,_=>v= .string (strOfNums [x,y,z])
 |8,v,_=>v= .string (strOfNums [y,z])
 |9,v,_=>v= .string (strOfNums tl)
 |10,v,_=>v= .string (strOfNums pc)
 |_,_,_=>True
theorem pright_any (k:Int) (s:ByteArray) (n a b:Int) (w:World) (env:Env w) (hm:s.size≤4294967296):
  Calls Tryz.prog 89 #[.agg #[.int .i64 k, .string s, .int .u64 n, .int .i64 a, .int .i64 b]] w (GivesQ (RightT k s n) w):=by
 obtain⟨W0,hW0⟩: ∃W,w.alloc (.cells #[.int .i64 k, .string s, .int .u64 n, .int .i64 a, .int .i64 b] 78)=W:=⟨_,rfl⟩
 have V0:Var5 W0 w.heap.size (.int .i64 k) (.string s) (.int .u64 n) (.int .i64 a) (.int .i64 b):=by rw[←hW0];exact Var5.fresh _ _ _ _ _ _ _ _ rfl
 have g0:Below w.heap.size w W0:=by rw[←hW0];exact(Below.refl _ _).alloc (Mz _) _
 have HG:=Lh g0
 have HV:=Lh V0
 have HNA:=Lh (tname_plain s W0 hm)
 have HGO:=Lh (tgood_any s W0 (env.step g0) hm)
 have HCO:=Lh (fun W=>tcount_big s W (by omega))
 obtain⟨c0,c1,c2,_,_,_,_⟩:=V0
 clear g0 env
 by_cases h1:k=1
 ·subst h1
  have hp:RightT 1 s n↔NameL (runesOf (nums s))∧n=0:=by unfold RightT;simp
  by_cases hn:n=0
  ·by_cases hN:NameL (runesOf (nums s))
   ·have HN:=Lh hN
    have HP:=Lh (hp.mpr ⟨hN,hn⟩)
    subst hn
    clear hN
    clear hp
    go_enter Tryz.func89,Tryz.ntmps89
    go_wp2_with (go_at_call 53;(with_reducible refine(HNA.out).mono ?_);rintro e w2 ⟨q,rfl,hq,h2⟩;obtain rfl:q=true:=hq.mpr HN.out;have G2:=Lh (below_step HG.out h2);clear hq h2)
    go_ret
    exact GivesQ.yes HP.out G2.out
   ·have HN:=Lh hN
    have HP:=Lh (fun h=>hN (hp.mp h).1)
    subst hn
    clear hN
    clear hp
    go_enter Tryz.func89,Tryz.ntmps89
    go_wp2_with (go_at_call 53;(with_reducible refine(HNA.out).mono ?_);rintro e w2 ⟨q,rfl,hq,h2⟩;obtain rfl:q=false:=(by cases q with|false=>rfl|true=>exact(HN.out (hq.mp rfl)).elim);have G2:=Lh (below_step HG.out h2);clear hq h2)
    go_ret
    exact GivesQ.no HP.out G2.out
  ·have HP:=Lh (fun h=>hn (hp.mp h).2)
   have hb:(n==0)=false:=by simpa using hn
   clear hp
   go_enter Tryz.func89,Tryz.ntmps89
   go_wp2
   go_ret
   exact GivesQ.no HP.out HG.out
 by_cases h2:k=2
 ·subst h2
  have hp:RightT 2 s n↔GoodL (runesOf (nums s))∧(runesOf (nums s)).length≤120∧n=0:=by unfold RightT;simp
  by_cases hn:n=0
  ·by_cases hN:GoodL (runesOf (nums s))
   ·have HN:=Lh hN
    by_cases hl:(runesOf (nums s)).length≤120
    ·have hl':((runesOf (nums s)).length:Int)≤120:=by omega
     have HP:=Lh (hp.mpr ⟨hN,hl,hn⟩)
     subst hn
     clear hN
     clear hp
     go_enter Tryz.func89,Tryz.ntmps89
     go_wp2_with (first|(go_at_call 119;(with_reducible refine(HGO.out).mono ?_);rintro e w2 ⟨q,rfl,hq,h2⟩;obtain rfl:q=true:=hq.mpr HN.out;have V2:=Lh (HV.out.after h2);have G2:=Lh (below_step HG.out h2);have e1:=V2.out.c1;clear hq h2)|(go_at_call 120;(with_reducible refine(HCO.out _).mono ?_);rintro e w3 ⟨rfl,h3⟩;have G3:=Lh (below_step G2.out h3);clear h3))
     go_ret
     exact GivesQ.yes HP.out G3.out
    ·have hl':decide (((runesOf (nums s)).length:Int)≤120)=false:=by simp;omega
     have HP:=Lh (fun h=>hl (hp.mp h).2.1)
     subst hn
     clear hN
     clear hp
     go_enter Tryz.func89,Tryz.ntmps89
     go_wp2_with (first|(go_at_call 119;(with_reducible refine(HGO.out).mono ?_);rintro e w2 ⟨q,rfl,hq,h2⟩;obtain rfl:q=true:=hq.mpr HN.out;have V2:=Lh (HV.out.after h2);have G2:=Lh (below_step HG.out h2);have e1:=V2.out.c1;clear hq h2)|(go_at_call 120;(with_reducible refine(HCO.out _).mono ?_);rintro e w3 ⟨rfl,h3⟩;have G3:=Lh (below_step G2.out h3);clear h3))
     go_ret
     exact GivesQ.no HP.out G3.out
   ·have HN:=Lh hN
    have HP:=Lh (fun h=>hN (hp.mp h).1)
    subst hn
    clear hN
    clear hp
    go_enter Tryz.func89,Tryz.ntmps89
    go_wp2_with (go_at_call 119;(with_reducible refine(HGO.out).mono ?_);rintro e w2 ⟨q,rfl,hq,h2⟩;obtain rfl:q=false:=(by cases q with|false=>rfl|true=>exact(HN.out (hq.mp rfl)).elim);have V2:=Lh (HV.out.after h2);have G2:=Lh (below_step HG.out h2);have e1:=V2.out.c1;clear hq h2)
    go_ret
    exact GivesQ.no HP.out G2.out
  ·have HP:=Lh (fun h=>hn (hp.mp h).2.2)
   have hb:(n==0)=false:=by simpa using hn
   clear hp
   go_enter Tryz.func89,Tryz.ntmps89
   go_wp2
   go_ret
   exact GivesQ.no HP.out HG.out
 by_cases h3:k=3
 ·subst h3
  have hp:RightT 3 s n↔s=⟨#[]⟩:=by unfold RightT;simp
  by_cases hs:s=⟨#[]⟩
  ·subst hs
   have HP:=Lh (hp.mpr rfl)
   clear hp
   go_enter Tryz.func89,Tryz.ntmps89
   go_wp2
   go_ret
   exact GivesQ.yes HP.out HG.out
  ·have HP:=Lh (fun h=>hs (hp.mp h))
   obtain⟨hsb,hsc⟩:=toList_empty (s:=s) (Nat.pos_of_ne_zero fun e=>hs (ByteArray.ext (Array.eq_empty_of_size_eq_zero e)))
   clear hp
   go_enter Tryz.func89,Tryz.ntmps89
   go_wp2
   go_ret
   exact GivesQ.no HP.out HG.out
 by_cases h4:k=4
 ·subst h4
  have hp:RightT 4 s n↔s=⟨#[]⟩:=by unfold RightT;simp
  by_cases hs:s=⟨#[]⟩
  ·subst hs
   have HP:=Lh (hp.mpr rfl)
   clear hp
   go_enter Tryz.func89,Tryz.ntmps89
   go_wp2
   go_ret
   exact GivesQ.yes HP.out HG.out
  ·have HP:=Lh (fun h=>hs (hp.mp h))
   obtain⟨hsb,hsc⟩:=toList_empty (s:=s) (Nat.pos_of_ne_zero fun e=>hs (ByteArray.ext (Array.eq_empty_of_size_eq_zero e)))
   clear hp
   go_enter Tryz.func89,Tryz.ntmps89
   go_wp2
   go_ret
   exact GivesQ.no HP.out HG.out
 by_cases h5:k=5
 ·subst h5
  have hp:RightT 5 s n↔s=⟨#[]⟩∧n≤1000000:=by unfold RightT;simp
  by_cases hs:s=⟨#[]⟩
  ·subst hs
   by_cases hn:n≤1000000
   ·have HP:=Lh (hp.mpr ⟨rfl,hn⟩)
    clear hp
    go_enter Tryz.func89,Tryz.ntmps89
    go_wp2
    go_ret
    exact GivesQ.yes HP.out HG.out
   ·have HP:=Lh (fun h=>hn (hp.mp h).2)
    clear hp
    go_enter Tryz.func89,Tryz.ntmps89
    go_wp2
    go_ret
    exact GivesQ.no HP.out HG.out
  ·have HP:=Lh (fun h=>hs (hp.mp h).1)
   obtain⟨hsb,hsc⟩:=toList_empty (s:=s) (Nat.pos_of_ne_zero fun e=>hs (ByteArray.ext (Array.eq_empty_of_size_eq_zero e)))
   clear hp
   go_enter Tryz.func89,Tryz.ntmps89
   go_wp2
   go_ret
   exact GivesQ.no HP.out HG.out
 by_cases h6:k=6
 ·subst h6
  have hp:RightT 6 s n↔s=⟨#[]⟩∧n≤253402300799:=by unfold RightT;simp
  by_cases hs:s=⟨#[]⟩
  ·subst hs
   by_cases hn:n≤253402300799
   ·have HP:=Lh (hp.mpr ⟨rfl,hn⟩)
    clear hp
    go_enter Tryz.func89,Tryz.ntmps89
    go_wp2
    go_ret
    exact GivesQ.yes HP.out HG.out
   ·have HP:=Lh (fun h=>hn (hp.mp h).2)
    clear hp
    go_enter Tryz.func89,Tryz.ntmps89
    go_wp2
    go_ret
    exact GivesQ.no HP.out HG.out
  ·have HP:=Lh (fun h=>hs (hp.mp h).1)
   obtain⟨hsb,hsc⟩:=toList_empty (s:=s) (Nat.pos_of_ne_zero fun e=>hs (ByteArray.ext (Array.eq_empty_of_size_eq_zero e)))
   clear hp
   go_enter Tryz.func89,Tryz.ntmps89
   go_wp2
   go_ret
   exact GivesQ.no HP.out HG.out
 by_cases h0:k=0
 ·subst h0
  have hp:RightT 0 s n↔s=⟨#[]⟩∧n=0:=by unfold RightT;simp
  by_cases hs:s=⟨#[]⟩
  ·subst hs
   by_cases hn:n=0
   ·have HP:=Lh (hp.mpr ⟨rfl,hn⟩)
    subst hn
    clear hp
    go_enter Tryz.func89,Tryz.ntmps89
    go_wp2
    go_ret
    exact GivesQ.yes HP.out HG.out
   ·have HP:=Lh (fun h=>hn (hp.mp h).2)
    have hb:(n==0)=false:=by simpa using hn
    clear hp
    go_enter Tryz.func89,Tryz.ntmps89
    go_wp2
    go_ret
    exact GivesQ.no HP.out HG.out
  ·have HP:=Lh (fun h=>hs (hp.mp h).1)
   obtain⟨hsb,hsc⟩:=toList_empty (s:=s) (Nat.pos_of_ne_zero fun e=>hs (ByteArray.ext (Array.eq_empty_of_size_eq_zero e)))
   clear hp
   go_enter Tryz.func89,Tryz.ntmps89
   go_wp2
   go_ret
   exact GivesQ.no HP.out HG.out
 by_cases h7:k=7
 ·subst h7
  have hp:RightT 7 s n↔s=⟨#[]⟩∧n=0:=by unfold RightT;simp
  by_cases hs:s=⟨#[]⟩
  ·subst hs
   by_cases hn:n=0
   ·have HP:=Lh (hp.mpr ⟨rfl,hn⟩)
    subst hn
    clear hp
    go_enter Tryz.func89,Tryz.ntmps89
    go_wp2
    go_ret
    exact GivesQ.yes HP.out HG.out
   ·have HP:=Lh (fun h=>hn (hp.mp h).2)
    have hb:(n==0)=false:=by simpa using hn
    clear hp
    go_enter Tryz.func89,Tryz.ntmps89
    go_wp2
    go_ret
    exact GivesQ.no HP.out HG.out
  ·have HP:=Lh (fun h=>hs (hp.mp h).1)
   obtain⟨hsb,hsc⟩:=toList_empty (s:=s) (Nat.pos_of_ne_zero fun e=>hs (ByteArray.ext (Array.eq_empty_of_size_eq_zero e)))
   clear hp
   go_enter Tryz.func89,Tryz.ntmps89
   go_wp2
   go_ret
   exact GivesQ.no HP.out HG.out
 by_cases h8:k=8
 ·subst h8
  have hp:RightT 8 s n↔s=⟨#[]⟩∧n=0:=by unfold RightT;simp
  by_cases hs:s=⟨#[]⟩
  ·subst hs
   by_cases hn:n=0
   ·have HP:=Lh (hp.mpr ⟨rfl,hn⟩)
    subst hn
    clear hp
    go_enter Tryz.func89,Tryz.ntmps89
    go_wp2
    go_ret
    exact GivesQ.yes HP.out HG.out
   ·have HP:=Lh (fun h=>hn (hp.mp h).2)
    have hb:(n==0)=false:=by simpa using hn
    clear hp
    go_enter Tryz.func89,Tryz.ntmps89
    go_wp2
    go_ret
    exact GivesQ.no HP.out HG.out
  ·have HP:=Lh (fun h=>hs (hp.mp h).1)
   obtain⟨hsb,hsc⟩:=toList_empty (s:=s) (Nat.pos_of_ne_zero fun e=>hs (ByteArray.ext (Array.eq_empty_of_size_eq_zero e)))
   clear hp
   go_enter Tryz.func89,Tryz.ntmps89
   go_wp2
   go_ret
   exact GivesQ.no HP.out HG.out
 by_cases h9:k=9
 ·subst h9
  have hp:RightT 9 s n↔s=⟨#[]⟩∧n=0:=by unfold RightT;simp
  by_cases hs:s=⟨#[]⟩
  ·subst hs
   by_cases hn:n=0
   ·have HP:=Lh (hp.mpr ⟨rfl,hn⟩)
    subst hn
    clear hp
    go_enter Tryz.func89,Tryz.ntmps89
    go_wp2
    go_ret
    exact GivesQ.yes HP.out HG.out
   ·have HP:=Lh (fun h=>hn (hp.mp h).2)
    have hb:(n==0)=false:=by simpa using hn
    clear hp
    go_enter Tryz.func89,Tryz.ntmps89
    go_wp2
    go_ret
    exact GivesQ.no HP.out HG.out
  ·have HP:=Lh (fun h=>hs (hp.mp h).1)
   obtain⟨hsb,hsc⟩:=toList_empty (s:=s) (Nat.pos_of_ne_zero fun e=>hs (ByteArray.ext (Array.eq_empty_of_size_eq_zero e)))
   clear hp
   go_enter Tryz.func89,Tryz.ntmps89
   go_wp2
   go_ret
   exact GivesQ.no HP.out HG.out
 have HP:Hid (¬RightT k s n):=Lh (by unfold RightT;omega)
 have b0:(k==0)=false:=by simpa using h0
 have b1:(k==1)=false:=by simpa using h1
 have b2:(k==2)=false:=by simpa using h2
 have b3:(k==3)=false:=by simpa using h3
 have b4:(k==4)=false:=by simpa using h4
 have b5:(k==5)=false:=by simpa using h5
 have b6:(k==6)=false:=by simpa using h6
 have b7:(k==7)=false:=by simpa using h7
 have b8:(k==8)=false:=by simpa using h8
 have b9:(k==9)=false:=by simpa using h9
 clear h0 h1 h2 h3 h4 h5 h6 h7 h8 h9
 go_enter Tryz.func89,Tryz.ntmps89
 go_wp2
 go_ret
 exact GivesQ.no HP.out HG.out
end
section
abbrev nObjective:ByteArray:=⟨#[111,98,106,101,99,116,105,118,101]⟩
abbrev nNotify:ByteArray:=⟨#[110,111,116,105,102,121]⟩
abbrev nTarget:ByteArray:=⟨#[116,97,114,103,101,116]⟩
abbrev nGrain:ByteArray:=⟨#[103,114,97,105,110]⟩
abbrev nLate:ByteArray:=⟨#[108,97,116,101]⟩
abbrev nRolling:ByteArray:=⟨#[114,111,108,108,105,110,103]⟩
abbrev nCalendar:ByteArray:=⟨#[99,97,108,101,110,100,97,114]⟩
abbrev nLabel:ByteArray:=⟨#[108,97,98,101,108]⟩
abbrev nRule:ByteArray:=⟨#[114,117,108,101]⟩
abbrev nLong:ByteArray:=⟨#[108,111,110,103]⟩
abbrev nShort:ByteArray:=⟨#[115,104,111,114,116]⟩
abbrev nFactor:ByteArray:=⟨#[102,97,99,116,111,114]⟩
abbrev nFor:ByteArray:=⟨#[102,111,114]⟩
abbrev nKeep:ByteArray:=⟨#[107,101,101,112]⟩
abbrev nRoom:ByteArray:=⟨#[114,111,111,109]⟩
abbrev nReserve:ByteArray:=⟨#[114,101,115,101,114,118,101]⟩
abbrev nFirst:ByteArray:=⟨#[102,105,114,115,116]⟩
abbrev nCap:ByteArray:=⟨#[99,97,112]⟩
abbrev nRepeat:ByteArray:=⟨#[114,101,112,101,97,116]⟩
abbrev nMonth:ByteArray:=⟨#[109,111,110,116,104]⟩
abbrev nQuarter:ByteArray:=⟨#[113,117,97,114,116,101,114]⟩
abbrev nPage:ByteArray:=⟨#[112,97,103,101]⟩
abbrev nTicket:ByteArray:=⟨#[116,105,99,107,101,116]⟩
structure Spc where
 name:ByteArray
 kinds:List Int
 block:Bool
 most:Nat
 lo:Int
 hi:Int
def specsL:Nat→List Spc
 |0=> [⟨nObjective,[1],true,6,0,0⟩,⟨nNotify,[],true,1,0,0⟩]
 |1=> [⟨nTarget,[5],false,1,1,999999⟩,⟨nGrain,[6],false,1,1,86400⟩,⟨nLate,[6],false,1,0,86400⟩,⟨nRolling,[6],false,1,1,34560000⟩,⟨nCalendar,[1],false,1,0,0⟩,⟨nLabel,[1,2],false,4,0,0⟩,⟨nRule,[1,1],true,4,0,0⟩]
 |2=> [⟨nLong,[6],false,1,1,34560000⟩,⟨nShort,[6],false,1,1,34560000⟩,⟨nFactor,[4],false,1,1,1000000⟩,⟨nFor,[6],false,1,0,604800⟩,⟨nKeep,[6],false,1,0,604800⟩]
 |_=> [⟨nRoom,[3],false,1,1,64⟩,⟨nReserve,[3],false,1,0,64⟩,⟨nFirst,[6],false,1,1,86400⟩,⟨nCap,[6],false,1,1,604800⟩,⟨nRepeat,[6],false,1,0,2592000⟩]
def findS (wh:Nat) (n:ByteArray):Option Spc:=(specsL wh).find? (fun p=>p.name=n)
def It.w0 (x:It):Tk3:=x.words.getD 0 {}
def It.w1 (x:It):Tk3:=x.words.getD 1 {}
def kindsS (n:ByteArray):List Int→List Tk3→Prop
 | [],[]=>True
 |k::ks,t::ts=>(t.k=k∨(n=nFactor∧t.k=3))∧kindsS n ks ts
 |_,_=>False
instance kindsS.dec (n:ByteArray): ∀(ks:List Int) (ts:List Tk3),Decidable (kindsS n ks ts)
 | [],[]=>isTrue trivial
 |k::ks,t::ts=>by unfold kindsS;exact @instDecidableAnd _ _ _ (kindsS.dec n ks ts)
 | [],_::_=>isFalse (fun h=>h)
 |_::_,[]=>isFalse (fun h=>h)
def FormS (p:Spc) (x:It):Prop:=
 x.block=p.block∧kindsS p.name p.kinds x.words∧(p.name=nCalendar→x.w0.s=nMonth∨x.w0.s=nQuarter)∧(p.name=nRule→x.w1.s=nPage∨x.w1.s=nTicket)
instance (p:Spc) (x:It):Decidable (FormS p x):=by unfold FormS;infer_instance
def numS (x:It):Int:=if x.words.length=0 then 0 else if x.name=nFactor∧x.w0.k=3 then(if 1000000<x.w0.n then x.w0.n else 1000*x.w0.n)else x.w0.n
def KnownS (p:Spc) (cs:List It) (x:It):Prop:= ∃c∈cs,c.name=x.name∧(p.most=1∨c.w0.s=x.w0.s)
instance (p:Spc) (cs:List It) (x:It):Decidable (KnownS p cs x):=by unfold KnownS;infer_instance
def manyS (cs:List It) (n:ByteArray):Nat:=(cs.filter (fun c=>c.name=n)).length
def codeS (wh:Nat) (cs:List It) (x:It):Int:=
 match findS wh x.name with
 |none=>7
 |some p=>if¬FormS p x then 6 else if KnownS p cs x then 18 else if p.most≤manyS cs x.name then 9 else if p.most=1∧(numS x<p.lo∨p.hi<numS x)then 8 else 0
abbrev Flt:=Int×Int×Int
def stepS (wh:Nat) (sub:It→List Flt) (r:List It×List Flt) (x:It):List It×List Flt:=
 if codeS wh r.1 x=0 then(r.1++ [x],r.2++sub x)else(r.1,r.2++ [(codeS wh r.1 x,x.a,x.b)])
def lookS (wh:Nat) (sub:It→List Flt) (l:List It):List It×List Flt:=l.foldl (stepS wh sub) ([],[])
theorem lookS_nil (wh:Nat) (sub:It→List Flt):lookS wh sub []=([],[]):=rfl
theorem lookS_snoc (wh:Nat) (sub:It→List Flt) (l:List It) (x:It):lookS wh sub (l++ [x])=stepS wh sub (lookS wh sub l) x:=by
 unfold lookS;rw[List.foldl_append];rfl
def getS:List It→ByteArray→Int→Int
 | [],_,o=>o
 |c::cs,n,o=>if c.name=n then numS c else getS cs n o
def hasS:List It→ByteArray→Bool
 | [],_=>false
 |c::cs,n=>if c.name=n then true else hasS cs n
def sub2:It→List Flt:=fun _=> []
def ruleK (x:It):List It:=(lookS 2 sub2 x.kids).1
def wholeR (x:It) (k:List It):List Flt:=
 if hasS k nLong=false∨hasS k nShort=false∨hasS k nFactor=false then [(6,x.a,x.b)]else if getS k nLong 0<getS k nShort 0 then [(8,x.a,x.b)]else []
def subG (x:It):List Flt:=if x.name=nRule then(lookS 2 sub2 x.kids).2++wholeR x (ruleK x)else []
def goalK (x:It):List It:=(lookS 1 subG x.kids).1
def OffS (grain:Int) (x:It):Prop:=getS (ruleK x) nLong 0%grain≠0∨getS (ruleK x) nShort 0%grain≠0
instance (grain:Int) (x:It):Decidable (OffS grain x):=by unfold OffS;infer_instance
def offsS (grain:Int):List It→List Flt
 | []=> []
 |x::k=>(if x.name=nRule∧OffS grain x then [(8,x.a,x.b)]else [])++offsS grain k
def wholeG (x:It) (k:List It):List Flt:=
 (if hasS k nTarget=false∨hasS k nRule=false then [(6,x.a,x.b)]else [])++(offsS (getS k nGrain 60) k++(if getS k nRolling 0%getS k nGrain 60≠0 then [(8,x.a,x.b)]else []))
def notK (x:It):List It:=(lookS 3 sub2 x.kids).1
def wholeN (x:It) (k:List It):List Flt:=if getS k nRoom 16<getS k nReserve 0∨getS k nCap 300<getS k nFirst 10 then [(8,x.a,x.b)]else []
def subT (x:It):List Flt:=
 if x.name=nObjective then(lookS 1 subG x.kids).2++wholeG x (goalK x)else if x.name=nNotify then(lookS 3 sub2 x.kids).2++wholeN x (notK x)else []
structure RlC where
 name:ByteArray
 page:Bool
 long:Int
 short:Int
 factor:Int
 hold:Int
 keep:Int
structure GlC where
 name:ByteArray
 target:Int
 grain:Int
 late:Int
 rolling:Int
 cal:Int
 labels:List (ByteArray×ByteArray)
 rules:List RlC
structure CfC where
 goals:List GlC
 room:Int
 reserve:Int
 first:Int
 cap:Int
 again:Int
def ruleB (x:It) (k:List It):RlC:=⟨x.w0.s,decide (x.w1.s=nPage),getS k nLong 0,getS k nShort 0,getS k nFactor 0,getS k nFor 0,getS k nKeep 0⟩
def ruleC (x:It):RlC:=ruleB x (ruleK x)
def calC:List It→Int→Int
 | [],c=>c
 |x::k,c=>calC k (if x.name=nCalendar then(if x.w0.s=nMonth then 1 else 2)else c)
def labC:List It→List (ByteArray×ByteArray)
 | []=> []
 |x::k=>(if x.name=nLabel then [(x.w0.s,x.w1.s)]else [])++labC k
def rulC:List It→List RlC
 | []=> []
 |x::k=>(if x.name=nRule then [ruleC x]else [])++rulC k
def goalB (name:ByteArray) (k:List It):GlC:=⟨name,getS k nTarget 0,getS k nGrain 60,getS k nLate 0,getS k nRolling 0,calC k 0,labC k,rulC k⟩
def goalC (x:It):GlC:=goalB x.w0.s (goalK x)
def golC:List It→List GlC
 | []=> []
 |x::k=>(if x.name=nObjective then [goalC x]else [])++golC k
def notC:List It→List It→List It
 | [],n=>n
 |x::k,n=>notC k (if x.name=nObjective then n else notK x)
def confB (gs:List GlC) (n:List It):CfC:=⟨gs,getS n nRoom 16,getS n nReserve 0,getS n nFirst 10,getS n nCap 300,getS n nRepeat 0⟩
def confC (L:List It):CfC:=confB (golC (lookS 0 subT L).1) (notC (lookS 0 subT L).1 [])
theorem getS_ne {x:It} {n:ByteArray} (h:x.name≠n) (o:Int): ∀cs:List It,getS (cs++ [x]) n o=getS cs n o
 | []=>by simp[getS,h]
 |c::cs=>by simp only[List.cons_append,getS,getS_ne h o cs]
theorem getS_new {x:It} {n:ByteArray} (h:x.name=n) (o:Int): ∀ {cs:List It},(∀c∈cs,c.name≠n)→getS (cs++ [x]) n o=numS x
 | [],_=>by simp[getS,h]
 |c::cs,hc=>by
  rw[List.cons_append,getS,if_neg (hc c (Jz ..)),getS_new h o (fun y hy=>hc y (Jy _ hy))]
theorem getS_none {n:ByteArray} (o:Int): ∀ {cs:List It},(∀c∈cs,c.name≠n)→getS cs n o=o
 | [],_=>rfl
 |c::cs,hc=>by rw[getS,if_neg (hc c (Jz ..)),getS_none o (fun y hy=>hc y (Jy _ hy))]
theorem getS_cases (n:ByteArray) (o:Int): ∀cs:List It,getS cs n o=o∨∃c∈cs,c.name=n∧getS cs n o=numS c
 | []=>My rfl
 |c::cs=>by
  rw[getS]
  by_cases h:c.name=n
  ·rw[if_pos h];exact Mx ⟨c,Jz ..,h,rfl⟩
  ·rw[if_neg h]
   rcases getS_cases n o cs with e|⟨d,hd,h1,h2⟩
   ·exact My e
   ·exact Mx ⟨d,Jy _ hd,h1,h2⟩
theorem hasS_iff {n:ByteArray} : ∀ {cs:List It},hasS cs n=true↔∃c∈cs,c.name=n
 | []=>by simp[hasS]
 |c::cs=>by
  rw[hasS]
  by_cases h:c.name=n
  ·simp[h]
  ·rw[if_neg h,hasS_iff];simp[h]
theorem hasS_none {n:ByteArray} {cs:List It} :hasS cs n=false↔∀c∈cs,c.name≠n:=by
 constructor
 ·intro h c hc e
  have:=hasS_iff.mpr ⟨c,hc,e⟩
  rw[h]at this;cases this
 ·intro h
  cases hx:hasS cs n with
  |false=>rfl
  |true=>obtain⟨c,hc,e⟩:=hasS_iff.mp hx;exact absurd e (h c hc)
theorem offsS_app (g:Int): ∀k l:List It,offsS g (k++l)=offsS g k++offsS g l
 | [],_=>rfl
 |x::k,l=>by rw[List.cons_append,offsS,offsS_app g k l,offsS,List.append_assoc]
theorem calC_app: ∀(k l:List It) (c:Int),calC (k++l) c=calC l (calC k c)
 | [],_,_=>rfl
 |x::k,l,c=>by rw[List.cons_append,calC,calC_app k l,calC]
theorem labC_app: ∀k l:List It,labC (k++l)=labC k++labC l
 | [],_=>rfl
 |x::k,l=>by rw[List.cons_append,labC,labC_app k l,labC,List.append_assoc]
theorem rulC_app: ∀k l:List It,rulC (k++l)=rulC k++rulC l
 | [],_=>rfl
 |x::k,l=>by rw[List.cons_append,rulC,rulC_app k l,rulC,List.append_assoc]
theorem golC_app: ∀k l:List It,golC (k++l)=golC k++golC l
 | [],_=>rfl
 |x::k,l=>by rw[List.cons_append,golC,golC_app k l,golC,List.append_assoc]
theorem notC_app: ∀(k l:List It) (c:List It),notC (k++l) c=notC l (notC k c)
 | [],_,_=>rfl
 |x::k,l,c=>by rw[List.cons_append,notC,notC_app k l,notC]
theorem codeS_zero {wh:Nat} {cs:List It} {x:It} (h:codeS wh cs x=0): ∃p,findS wh x.name=some p∧FormS p x∧¬KnownS p cs x∧manyS cs x.name<p.most∧(p.most=1→p.lo≤numS x∧numS x≤p.hi):=by
 unfold codeS at h
 split at h
 ·cases h
 ·rename_i p hp
  split at h
  ·cases h
  rename_i h1
  split at h
  ·cases h
  rename_i h2
  split at h
  ·cases h
  rename_i h3
  split at h
  ·cases h
  rename_i h4
  exact⟨p,hp,Decidable.of_not_not h1,h2,Nat.lt_of_not_le h3,fun e=>⟨by rcases Int.lt_or_le (numS x) p.lo with h|h;exact absurd ⟨e,My h⟩ h4;exact h,by rcases Int.lt_or_le p.hi (numS x)with h|h;exact absurd ⟨e,Mx h⟩ h4;exact h⟩⟩
theorem codeS_none {wh:Nat} {cs:List It} {x:It} (h:findS wh x.name=none):codeS wh cs x=7:=by unfold codeS;rw[h]
theorem codeS_some {wh:Nat} {cs:List It} {x:It} {p:Spc} (h:findS wh x.name=some p):
  codeS wh cs x=if¬FormS p x then 6 else if KnownS p cs x then 18 else if p.most≤manyS cs x.name then 9 else if p.most=1∧(numS x<p.lo∨p.hi<numS x)then 8 else 0:=by
 unfold codeS;rw[h]
theorem findS_name {wh:Nat} {n:ByteArray} {p:Spc} (h:findS wh n=some p):p.name=n∧p∈specsL wh:=by
 unfold findS at h
 exact⟨by simpa using List.find?_some h,List.mem_of_find?_eq_some h⟩
theorem code_one {wh:Nat} {cs:List It} {x:It} {p:Spc} (h:codeS wh cs x=0) (hp:findS wh x.name=some p) (h1:p.most=1): ∀c∈cs,c.name≠x.name:=by
 obtain⟨q,hq,_,hk,_,_⟩:=codeS_zero h
 rw[hp]at hq
 injection hq with hq
 subst hq
 exact fun c hc e=>hk ⟨c,hc,e,My h1⟩
theorem code_get {wh:Nat} {cs:List It} {x:It} {p:Spc} (h:codeS wh cs x=0) (hp:findS wh x.name=some p) (h1:p.most=1) (o:Int):getS (cs++ [x]) x.name o=numS x:=
 getS_new rfl o (code_one h hp h1)
theorem snoc_ind {P:List It→Prop} (h0:P []) (h1: ∀l x,P l→P (l++ [x])) (l:List It):P l:=by
 have h: ∀m:List It,P m.reverse:=fun m=>by
  induction m with
  |nil=>exact h0
  |cons x m ih=>rw[List.reverse_cons];exact h1 _ _ ih
 have:=h l.reverse
 rwa [List.reverse_reverse]at this
theorem lookS_mem (wh:Nat) (sub:It→List Flt): ∀(l:List It) (x:It),x∈(lookS wh sub l).1→x∈l∧∃cs,codeS wh cs x=0:=by
 intro l
 refine snoc_ind (P:=fun l=> ∀x,x∈(lookS wh sub l).1→x∈l∧∃cs,codeS wh cs x=0) (fun x hx=>by cases hx) (fun l y ih x hx=>?_) l
 rw[lookS_snoc]at hx
 unfold stepS at hx
 split at hx
 ·rename_i h0
  rcases List.mem_append.mp hx with hx|hx
  ·exact⟨List.mem_append_left _ (ih x hx).1,(ih x hx).2⟩
  ·rw[List.mem_singleton.mp hx];exact⟨by simp,_,h0⟩
 ·exact⟨List.mem_append_left _ (ih x hx).1,(ih x hx).2⟩
theorem getS_between {wh:Nat} {sub:It→List Flt} {l:List It} {n:ByteArray} {p:Spc} (hp:findS wh n=some p) (h1:p.most=1) (o:Int):
  getS (lookS wh sub l).1 n o=o∨p.lo≤getS (lookS wh sub l).1 n o∧getS (lookS wh sub l).1 n o≤p.hi:=by
 rcases getS_cases n o (lookS wh sub l).1 with e|⟨c,hc,h2,h3⟩
 ·exact My e
 ·obtain⟨_,cs,h0⟩:=lookS_mem wh sub l c hc
  obtain⟨q,hq,_,_,_,hb⟩:=codeS_zero h0
  rw[h2,hp]at hq
  injection hq with hq
  subst hq
  rw[h3]
  exact Mx (hb h1)
end
section
open Go.RowKit Go.MapKept Go.ChangeMaps
theorem ba_beq (a b:ByteArray):(a==b)=decide (a=b):=by
 rw[beq_toListBytes,ByteArray.toList_eq,ByteArray.toList_eq]
 obtain⟨⟨a⟩⟩:=a
 obtain⟨⟨b⟩⟩:=b
 by_cases h:a=b<;>simp[h]
def hitS (s:ByteArray) (e:MapEntry):Bool:=match e.key with
 | .string t=>s==t
 |_=>false
def HIs (w:World) (b:Nat) (h:ByteArray→Option Value):Prop:=
 ∃es clock,w.heap[b]?=some (.map es clock)∧(∀e∈es.toList,∃s,e.key= .string s)∧∀s,h s=(es.toList.find? (hitS s)).map (·.val)
theorem findNow_str (s:ByteArray): ∀(es:List MapEntry) (i:Nat),(∀e∈es,∃t,e.key= .string t)→
  (es.find? (hitS s)=none∧Instr.findNow .string (.string s) es i=some none)∨∃j e,es.find? (hitS s)=some e∧Instr.findNow .string (.string s) es i=some (some (j,e.val))
 | [],i,_=>My ⟨rfl,rfl⟩
 |e::es,i,h=>by
  obtain⟨t,ht⟩:=h e (Jz ..)
  have ih:=findNow_str s es (i+1) (fun x hx=>h x (Jy _ hx))
  have hh:hitS s e=(s==t):=by unfold hitS;rw[ht]
  have hs:Instr.sameNow .string (.string s) e.key=some (s==t):=by rw[ht];rfl
  rw[Instr.findNow,hs]
  cases hx:(s==t)with
  |true=>exact Mx ⟨i,e,by rw[List.find?_cons,hh,hx],rfl⟩
  |false=>
   rw[List.find?_cons,hh,hx]
   exact ih
theorem HIs.keep {w w':World} {b:Nat} {h:ByteArray→Option Value} (H:HIs w b h) (e:w'.heap[b]?=w.heap[b]?):HIs w' b h:=by
 obtain⟨es,clock,h1,h2,h3⟩:=H
 exact⟨es,clock,e.trans h1,h2,h3⟩
theorem HIs.lt {w:World} {b:Nat} {h:ByteArray→Option Value} (H:HIs w b h):b<w.heap.size:=by
 obtain⟨es,clock,h1,_⟩:=H
 exact(Array.getElem?_eq_some_iff.1 h1).1
theorem HIs.made (w:World):HIs (w.alloc (.map #[] 0)) w.heap.size (fun _=>none):=⟨#[],0,(MapKept.heap_alloc w _).1,by simp,fun _=>rfl⟩
theorem h_underlying:Tryz.prog.underlying 89=some (.map 9 87):=by kernel_rfl
theorem str_underlying:Tryz.prog.underlying 9=some .string:=by kernel_rfl
theorem HIs.look {w:World} {b:Nat} {h:ByteArray→Option Value} (H:HIs w b h) (s:ByteArray):
  (Instr.lookup 89 (.map (some b)) (.string s) false).run Tryz.prog w= .ok ((h s).getD .nilFunc) w:=by
 obtain⟨es,clock,h1,h2,h3⟩:=H
 have hc:(Instr.checkKey es.isEmpty 10000 9 (.string s)).run Tryz.prog w= .ok () w:=run_checkKey str_underlying (by simp[IsKey]) _ 9999
 rcases findNow_str s es.toList 0 h2 with⟨e1,e2⟩|⟨j,e,e1,e2⟩
 ·have hf:=run_findKey (P:=Tryz.prog) (w:=w) str_underlying e2
  rw[h3,e1]
  simp[Instr.lookup,run_underlying h_underlying,MapKept.run_getObj_map h1,hc,hf,Result.andThen]
 ·have hf:=run_findKey (P:=Tryz.prog) (w:=w) str_underlying e2
  rw[h3,e1]
  simp[Instr.lookup,run_underlying h_underlying,MapKept.run_getObj_map h1,hc,hf,Result.andThen]
theorem HIs.insert {w:World} {b:Nat} {h:ByteArray→Option Value} (H:HIs w b h) {s:ByteArray} (hs:h s=none) (v:Value):
  ∃w',(Instr.mapUpdate 89 (.map (some b)) (.string s) v).run Tryz.prog w= .ok () w'∧HIs w' b (fun t=>if t=s then some v else h t)∧w.grownBy w' (some b):=by
 obtain⟨es,clock,h1,h2,h3⟩:=H
 have hc:(Instr.checkKey false 10000 9 (.string s)).run Tryz.prog w= .ok () w:=run_checkKey str_underlying (by simp[IsKey]) _ 9999
 rcases findNow_str s es.toList 0 h2 with⟨e1,e2⟩|⟨j,e,e1,e2⟩
 ·have hf:=run_findKey (P:=Tryz.prog) (w:=w) str_underlying e2
  refine⟨setBlock w b (.map (es.push ⟨.string s,v,clock⟩) (clock+1)),?_,⟨_,_,heap_setBlock_same h1 _,fun e he=>?_,fun t=>?_⟩,⟨rfl,rfl,rfl,by simp[setBlock],fun i _ hi=>heap_setBlock_other h1 _ (fun e=>hi (by rw[e]))⟩⟩
  ·simp[Instr.mapUpdate,run_underlying h_underlying,MapKept.run_getObj_map h1,hc,hf,MapKept.run_setObj_map _ h1,Result.andThen,setBlock]
  ·simp only[Array.toList_push,List.mem_append,List.mem_singleton]at he
   rcases he with he|rfl
   ·exact h2 e he
   ·exact⟨s,rfl⟩
  ·show(if t=s then some v else h t)=_
   rw[Array.toList_push,List.find?_append,h3]
   by_cases ht:t=s
   ·subst ht
    rw[if_pos rfl,e1]
    simp[hitS,ba_beq]
   ·rw[if_neg ht]
    have:hitS t ⟨.string s,v,clock⟩=false:=by simpa [hitS,ba_beq] using ht
    simp[this]
 ·rw[h3,e1]at hs;cases hs
theorem c_underlying:Tryz.prog.underlying 112=some (.map 148 3):=by kernel_rfl
def keyV (p q:ByteArray):Value:= .agg #[.string p, .string q]
theorem keyV_inj {p q p' q':ByteArray} (h:keyV p q=keyV p' q'):p=p'∧q=q':=by
 unfold keyV at h
 simp only[Value.agg.injEq,Array.mk.injEq,List.cons.injEq,Value.string.injEq,and_true]at h
 exact h
theorem key_same (p q p' q':ByteArray) (w:World):(Op.equal 148 (keyV p q) (keyV p' q')).run Tryz.prog w= .ok (decide (p=p'∧q=q')) w:=by
 unfold keyV
 have e1: ∀a b:ByteArray,(a.toList==b.toList)=decide (a=b):=fun a b=>by
  rw[ByteArray.toList_eq,ByteArray.toList_eq]
  obtain⟨⟨a⟩⟩:=a
  obtain⟨⟨b⟩⟩:=b
  by_cases h:a=b<;>simp[h]
 simp[Op.equal,Op.maxDepth,go_sem,e1,Result.andThen]
 by_cases h1:p=p'<;>by_cases h2:q=q'<;>simp[h1,h2]
theorem key_check (p q:ByteArray) (em:Bool) (w:World):(Instr.checkKey em 10000 148 (keyV p q)).run Tryz.prog w= .ok () w:=by
 unfold keyV
 cases em<;>kernel_rfl
theorem key_stays (p q:ByteArray) (w:World):(Instr.keyThatStays (keyV p q) (keyV p q)).run Tryz.prog w= .ok (keyV p q) w:=by
 have h:Instr.sameBits 10000 (keyV p q) (keyV p q)=true:=by
  unfold keyV
  simp[Instr.sameBits,ba_beq]
 unfold Instr.keyThatStays
 rw[if_pos h];rfl
def CntIs (w:World) (b:Nat) (f:ByteArray→ByteArray→Nat):Prop:=
 ∃es clock,w.heap[b]?=some (.map es clock)∧Stamped es clock∧(∀e∈es.toList,∃p q,e.key=keyV p q∧e.val= .int .i64 (f p q:Int))∧∀p q,(∀e∈es.toList,e.key≠keyV p q)→f p q=0
theorem CntIs.keep {w w':World} {b:Nat} {f:ByteArray→ByteArray→Nat} (H:CntIs w b f) (e:w'.heap[b]?=w.heap[b]?):CntIs w' b f:=by
 obtain⟨es,clock,h1,h2⟩:=H
 exact⟨es,clock,e.trans h1,h2⟩
theorem CntIs.lt {w:World} {b:Nat} {f:ByteArray→ByteArray→Nat} (H:CntIs w b f):b<w.heap.size:=by
 obtain⟨es,clock,h1,_⟩:=H
 exact(Array.getElem?_eq_some_iff.1 h1).1
theorem CntIs.made (w:World):CntIs (w.alloc (.map #[] 0)) w.heap.size (fun _ _=>0):=⟨#[],0,(MapKept.heap_alloc w _).1,stamped_empty 0,by simp,fun _ _ _=>rfl⟩
theorem find_key (w:World) (p q:ByteArray): ∀(es:List MapEntry) (i:Nat),(∀e∈es,∃p q,e.key=keyV p q)→
  ((∀e∈es,e.key≠keyV p q)∧(Instr.findAsking 148 (keyV p q) es i).run Tryz.prog w= .ok none w)∨∃j e,es[j]?=some e∧e.key=keyV p q∧(Instr.findAsking 148 (keyV p q) es i).run Tryz.prog w= .ok (some (i+j,e.val)) w
 | [],i,_=>My ⟨(fun e he=>by cases he),rfl⟩
 |e::es,i,h=>by
  obtain⟨p2,q2,hk⟩:=h e (Jz ..)
  have hs:=key_same p q p2 q2 w
  by_cases hx:p=p2∧q=q2
  ·obtain⟨rfl,rfl⟩:=hx
   refine Mx ⟨0,e,rfl,hk,?_⟩
   simp[Instr.findAsking,hk,hs,Result.andThen]
  ·have hne:e.key≠keyV p q:=fun e'=>by rw[hk]at e';have:=keyV_inj e';exact hx ⟨this.1.symm,this.2.symm⟩
   rcases find_key w p q es (i+1) (fun x hx=>h x (Jy _ hx))with⟨h1,h2⟩|⟨j,e',h1,h2,h3⟩
   ·refine My ⟨fun y hy=>?_,?_⟩
    ·rcases List.mem_cons.mp hy with rfl|hy
     ·exact hne
     ·exact h1 y hy
    ·simp[Instr.findAsking,hk,hs,hx,Result.andThen,h2]
   ·refine Mx ⟨j+1,e',by simpa using h1,h2,?_⟩
    simp[Instr.findAsking,hk,hs,hx,Result.andThen,h3]
    omega
theorem run_find (w:World) (p q:ByteArray) {es:Array MapEntry} (h: ∀e∈es.toList,∃p q,e.key=keyV p q):
  ((∀e∈es.toList,e.key≠keyV p q)∧(Instr.findKey 148 (keyV p q) es.toList).run Tryz.prog w= .ok none w)∨∃j e,es[j]?=some e∧e.key=keyV p q∧(Instr.findKey 148 (keyV p q) es.toList).run Tryz.prog w= .ok (some (j,e.val)) w:=by
 rw[run_findKey_eq w (by kernel_rfl)]
 rcases find_key w p q es.toList 0 h with h|⟨j,e,h1,h2,h3⟩
 ·exact My h
 ·exact Mx ⟨j,e,by simpa using h1,h2,by simpa using h3⟩
theorem CntIs.look {w:World} {b:Nat} {f:ByteArray→ByteArray→Nat} (H:CntIs w b f) (p q:ByteArray):
  (Instr.lookup 112 (.map (some b)) (keyV p q) false).run Tryz.prog w= .ok (.int .i64 (f p q:Int)) w:=by
 obtain⟨es,clock,h1,_,h3,h4⟩:=H
 rcases run_find w p q (es:=es) (fun e he=>by obtain⟨a,b,h,_⟩:=h3 e he;exact⟨a,b,h⟩)with⟨e1,e2⟩|⟨j,e,e1,e2,e3⟩
 ·rw[h4 p q e1]
  simp[Instr.lookup,run_underlying c_underlying,MapKept.run_getObj_map h1,key_check,e2,Result.andThen]
 ·obtain⟨a,c,k1,k2⟩:=h3 e (List.mem_of_getElem? (by simpa using e1))
  obtain⟨rfl,rfl⟩:=keyV_inj (k1.symm.trans e2)
  simp[Instr.lookup,run_underlying c_underlying,MapKept.run_getObj_map h1,key_check,e3,k2,Result.andThen]
def upd2 (f:ByteArray→ByteArray→Nat) (p q:ByteArray) (n:Nat):ByteArray→ByteArray→Nat:=fun a b=>if a=p∧b=q then n else f a b
theorem run_entryStore {W:World} {b:Nat} {es:Array MapEntry} {clock:Nat} (g1:W.heap[b]?=some (.map es clock)) {st:Int} {i:Nat} (hidx:es.findIdx? (fun e=>(e.born:Int)==st)=some i) (v:Value):
  (Instr.entryStore 112 (.map (some b)) (.int .i64 st) v).run Tryz.prog W= .ok () (setBlock W b (.map (es.modify i fun e=> { e with val:=v }) clock)):=by
 simp[Instr.entryStore,MapKept.run_getObj_map g1,asInt,asIntOf,hidx,MapKept.run_setObj_map _ g1,Result.andThen,setBlock]
def EntIs (w:World) (b:Nat) (f:ByteArray→ByteArray→Nat) (p q:ByteArray) (st:Int):Prop:=
 ∃(es:Array MapEntry) (clock j:Nat) (e:MapEntry),w.heap[b]?=some (.map es clock)∧Stamped es clock∧(∀e∈es.toList,∃p q,e.key=keyV p q∧e.val= .int .i64 (f p q:Int))∧(∀p q,(∀e∈es.toList,e.key≠keyV p q)→f p q=0)∧es[j]?=some e∧e.key=keyV p q∧(e.born:Int)=st
theorem EntIs.cnt {w:World} {b:Nat} {f:ByteArray→ByteArray→Nat} {p q:ByteArray} {st:Int} (h:EntIs w b f p q st):CntIs w b f:=by
 obtain⟨es,clock,_,_,h1,h2,h3,h4,_⟩:=h
 exact⟨es,clock,h1,h2,h3,h4⟩
theorem CntIs.entry {w:World} {b:Nat} {f:ByteArray→ByteArray→Nat} (H:CntIs w b f) (p q:ByteArray):
  ∃v st w1,(Instr.mapEntry 112 (.map (some b)) (keyV p q)).run Tryz.prog w= .ok (.tuple #[v, .int .i64 st]) w1∧EntIs w1 b f p q st∧w.grownBy w1 (some b):=by
 obtain⟨es,clock,h1,h2,h3,h4⟩:=H
 rcases run_find w p q (es:=es) (fun e he=>by obtain⟨a,b,h,_⟩:=h3 e he;exact⟨a,b,h⟩)with⟨e1,e2⟩|⟨j,e,e1,e2,e3⟩
 ·have hst:=stamped_push h2 (key:=keyV p q) (val:= .int .i64 0) e1
  refine⟨.int .i64 0,(clock:Int),setBlock w b (.map (es.push ⟨keyV p q, .int .i64 0,clock⟩) (clock+1)),?_,⟨_,_,es.size,⟨keyV p q, .int .i64 0,clock⟩,heap_setBlock_same h1 _,hst,?_,?_,by simp,rfl,rfl⟩,⟨rfl,rfl,rfl,by simp[setBlock],fun i _ hi=>heap_setBlock_other h1 _ (fun e=>hi (by rw[e]))⟩⟩
  ·simp[Instr.mapEntry,run_underlying c_underlying,MapKept.run_getObj_map h1,key_check,e2,MapKept.run_setObj_map _ h1,Result.andThen,setBlock,goInt]
  ·intro y hy
   simp only[Array.toList_push,List.mem_append,List.mem_singleton]at hy
   rcases hy with hy|rfl
   ·exact h3 y hy
   ·exact⟨p,q,rfl,by rw[h4 p q e1];rfl⟩
  ·intro a c hall
   exact h4 a c (fun y hy=>hall y (by simp[hy]))
 ·have hmod:es.modify j (fun x=> { x with key:=keyV p q })=es:=by
   apply Array.ext_getElem?
   intro i
   rw[Array.getElem?_modify]
   by_cases hij:j=i
   ·subst hij
    rw[if_pos rfl,e1]
    simp only[Option.map_some]
    rw[←e2]
   ·rw[if_neg hij]
  refine⟨e.val,(e.born:Int),setBlock w b (.map es clock),?_,⟨es,clock,j,e,heap_setBlock_same h1 _,h2,h3,h4,e1,e2,rfl⟩,⟨rfl,rfl,rfl,by simp[setBlock],fun i _ hi=>heap_setBlock_other h1 _ (fun e=>hi (by rw[e]))⟩⟩
  simp[Instr.mapEntry,run_underlying c_underlying,MapKept.run_getObj_map h1,key_check,e3,e1,e2,key_stays,hmod,MapKept.run_setObj_map _ h1,Result.andThen,setBlock,goInt]
theorem EntIs.store {w:World} {b:Nat} {f:ByteArray→ByteArray→Nat} {p q:ByteArray} {st:Int} (H:EntIs w b f p q st) (n:Nat):
  ∃w2,(Instr.entryStore 112 (.map (some b)) (.int .i64 st) (.int .i64 (n:Int))).run Tryz.prog w= .ok () w2∧CntIs w2 b (upd2 f p q n)∧w.grownBy w2 (some b):=by
 obtain⟨es,clock,j,e,h1,h2,h3,h4,e1,e2,rfl⟩:=H
 have hj:j<es.size:=(Array.getElem?_eq_some_iff.1 e1).1
 have hjl:es.toList[j]?=some e:=by simpa using e1
 have hm:e∈es.toList:=List.mem_of_getElem? hjl
 have hidx:es.findIdx? (fun x=>(x.born:Int)==(e.born:Int))=some j:=by
  rw[Array.findIdx?_eq_some_iff_getElem]
  have ej:es[j]=e:=by rw[Array.getElem?_eq_getElem hj]at e1;injection e1
  refine⟨hj,by rw[ej];simp,fun k hk=>?_⟩
  have hnd:=h2.2.1
  simp only[beq_iff_eq]
  intro hb
  have hk2:k<es.size:=Nat.lt_trans hk hj
  have:(es.toList.map (·.born))[k]'(by simpa using hk2)=(es.toList.map (·.born))[j]'(by simpa using hj):=by
   simp only[List.getElem_map,Array.getElem_toList]
   rw[ej];exact Int.ofNat.inj hb
  exact List.pairwise_iff_getElem.mp hnd k j (by simpa using hk2) (by simpa using hj) hk this
 refine⟨setBlock w b (.map (es.modify j fun x=> { x with val:= .int .i64 (n:Int) }) clock),run_entryStore h1 hidx _,⟨_,_,heap_setBlock_same h1 _,?_,?_,?_⟩,⟨rfl,rfl,rfl,by simp[setBlock],fun i _ hi=>heap_setBlock_other h1 _ (fun e=>hi (by rw[e]))⟩⟩
 ·exact stamped_modify h2 _ _ (fun _ _=>rfl) (fun _ _ _=>rfl)
 ·intro y hy
  rw[Array.toList_modify]at hy
  obtain⟨i,hi,ey⟩:=List.getElem_of_mem hy
  rw[List.getElem_modify]at ey
  simp only[List.length_modify,Array.length_toList]at hi
  by_cases hin:j=i
  ·subst hin
   rw[if_pos rfl]at ey
   have:es.toList[j]=e:=by rw[Kh (by simpa using hj)]at hjl;injection hjl
   rw[this]at ey
   subst ey
   exact⟨p,q,e2,by unfold upd2;rw[if_pos ⟨rfl,rfl⟩]⟩
  ·rw[if_neg hin]at ey
   have hy2:y∈es.toList:=by rw[←ey];exact List.getElem_mem _
   obtain⟨a,c,k1,k2⟩:=h3 y hy2
   refine⟨a,c,k1,?_⟩
   unfold upd2
   rw[if_neg (fun e'=>?_),k2]
   have hnd:=h2.2.2
   have hk:(es.toList.map (·.key))[i]'(by simpa using hi)=(es.toList.map (·.key))[j]'(by simpa using hj):=by
    simp only[List.getElem_map]
    have e5:es.toList[j]=e:=by rw[Kh (by simpa using hj)]at hjl;injection hjl
    rw[ey,e5,k1,e2,e'.1,e'.2]
   rcases Nat.lt_or_gt_of_ne hin with hlt|hlt
   ·exact absurd hk.symm (List.pairwise_iff_getElem.mp hnd j i (by simpa using hj) (by simpa using hi) hlt)
   ·exact absurd hk (List.pairwise_iff_getElem.mp hnd i j (by simpa using hi) (by simpa using hj) hlt)
 ·intro a c hall
  have hin: ∀y∈es.toList,∃z∈(es.modify j fun x=> { x with val:= .int .i64 (n:Int) }).toList,z.key=y.key:=fun y hy=>by
   obtain⟨i,hi,ey⟩:=List.getElem_of_mem hy
   refine⟨(es.modify j fun x=> { x with val:= .int .i64 (n:Int) }).toList[i]'(by simpa using hi),List.getElem_mem _,?_⟩
   simp only[Array.toList_modify,List.getElem_modify]
   split<;>rw[ey]
  unfold upd2
  have hne: ¬(a=p∧c=q):=fun e'=>by
   obtain⟨z,hz,ez⟩:=hin e hm
   exact hall z hz (by rw[ez,e2,e'.1,e'.2])
  rw[if_neg hne]
  refine h4 a c fun y hy e'=>?_
  obtain⟨z,hz,ez⟩:=hin y hy
  exact hall z hz (ez.trans e')
end
section
open Go.RowKit
structure VarL (w:World) (p:Nat) (l:List Value):Prop where
 at': ∀i v,l[i]?=some v→w.cell? ⟨p,i,none⟩=some v∧w.frozen? ⟨p,i,none⟩=false
 s:p<w.heap.size
theorem VarL.c {w:World} {p:Nat} {l:List Value} (h:VarL w p l) (i:Nat) {v:Value} (e:l[i]?=some v):w.cell? ⟨p,i,none⟩=some v:=(h.at' i v e).1
theorem VarL.q {w:World} {p:Nat} {l:List Value} (h:VarL w p l) (i:Nat) {v:Value} (e:l[i]?=some v):w.frozen? ⟨p,i,none⟩=false:=(h.at' i v e).2
theorem VarL.stay {w w':World} {p:Nat} {l:List Value} (h:VarL w p l) (e:w'.heap[p]?=w.heap[p]?):VarL w' p l:=
 ⟨fun i v hi=>⟨(World.cell?_of_block (a:=⟨p,i,none⟩) e).trans (h.c i hi),(World.frozen?_of_block (a:=⟨p,i,none⟩) e).trans (h.q i hi)⟩,by
  have h1:=(Array.getElem?_eq_some_iff (xs:=w.heap) (i:=p) (b:=w.heap[p]'h.s)).mpr ⟨h.s,rfl⟩
  rw[←e]at h1
  exact(Array.getElem?_eq_some_iff.1 h1).1⟩
theorem VarL.after {w w':World} {p:Nat} {l:List Value} (h:VarL w p l) (hb:Below w.heap.size w w'):VarL w' p l:=h.stay (hb.block p h.s)
theorem lset_else (w:World) (p:Nat) (i:Nat) (v:Value) (b:Nat) (h:b≠p):(w.setCell ⟨p,i,none⟩ v).heap[b]?=w.heap[b]?:=RowKit.Below.heap_setCell w ⟨p,i,none⟩ v b (fun e=>h e)
theorem VarL.set {w:World} {p:Nat} {l:List Value} (h:VarL w p l) (i:Nat) (x:Value) (hi:i<l.length):VarL (w.setCell ⟨p,i,none⟩ x) p (l.set i x):=by
 refine⟨fun j v hj=>?_,by simpa using h.s⟩
 rw[World.frozen?_setCell]
 by_cases hij:i=j
 ·subst hij
  rw[List.getElem?_set_self hi]at hj
  injection hj with hj
  subst hj
  have e:=h.c i (Kh hi)
  exact⟨World.cell?_setCell_same' _ _ _ (by rw[e];rfl),h.q i (Kh hi)⟩
 ·rw[List.getElem?_set_ne hij]at hj
  refine⟨?_,h.q j hj⟩
  have hne:(⟨p,i,none⟩:Addr)≠⟨p,j,none⟩:=fun e=>hij (by injection e)
  exact(World.cell?_setCell_other w _ _ _ hne).trans (h.c j hj)
theorem VarL.fresh (w:World) (l:List Value) (t:TypeId):VarL (w.alloc (.cells l.toArray t)) w.heap.size l:=by
 refine⟨fun i v hi=>⟨?_,by simp[go_sem]⟩,by simp⟩
 rw[World.cell?_alloc_new]
 simpa using hi
def putL (p:Nat):Nat→List Value→World→World
 |_,[],w=>w
 |i,x::xs,w=>putL p (i+1) xs (w.setCell ⟨p,i,none⟩ x)
theorem putL_else (p:Nat): ∀(xs:List Value) (i:Nat) (w:World) (b:Nat),b≠p→(putL p i xs w).heap[b]?=w.heap[b]?
 | [],_,_,_,_=>rfl
 |x::xs,i,w,b,h=>by rw[putL,putL_else p xs _ _ b h,lset_else _ _ _ _ _ h]
theorem putL_size (p:Nat): ∀(xs:List Value) (i:Nat) (w:World),(putL p i xs w).heap.size=w.heap.size
 | [],_,_=>rfl
 |x::xs,i,w=>by rw[putL,putL_size p xs];simp
theorem putL_below (p:Nat) {n:Nat} (hn:n≤p): ∀(xs:List Value) (i:Nat) {w w':World},Below n w w'→Below n w (putL p i xs w')
 | [],_,_,_,h=>h
 |x::xs,i,_,_,h=>putL_below p hn xs (i+1) (h.setCell (p:=⟨p,i,none⟩) hn x)
theorem putL_var {p:Nat} : ∀(xs ys zs:List Value) (w:World),VarL w p (ys++zs)→zs.length=xs.length→VarL (putL p ys.length xs w) p (ys++xs)
 | [],ys,zs,w,h,hl=>by
  obtain rfl:zs= []:=List.eq_nil_of_length_eq_zero (by simpa using hl)
  exact h
 |x::xs,ys,z::zs,w,h,hl=>by
  rw[putL]
  have h1:=h.set ys.length x (by simp)
  have e:(ys++z::zs).set ys.length x=(ys++ [x])++zs:=by rw[List.set_append_right _ _ (Mz _)];simp
  rw[e]at h1
  have:=putL_var xs (ys++ [x]) zs _ h1 (by simpa using hl)
  rw[List.length_append,List.length_singleton,List.append_assoc]at this
  exact this
 |_::_,_,[],_,_,hl=>by cases hl
theorem freshL (w:World) (zs xs:List Value) (t:TypeId) (hl:zs.length=xs.length): ∃g W0 W1,w.heap.size=g∧w.alloc (.cells zs.toArray t)=W0∧putL g 0 xs W0=W1∧VarL W0 g zs∧VarL W1 g xs∧Below w.heap.size w W1∧W1.heap.size=g+1:=by
 refine⟨w.heap.size,_,_,rfl,rfl,rfl,VarL.fresh w zs t,putL_var xs [] zs _ (VarL.fresh w zs t) hl,putL_below _ (Mz _) xs 0 ((Below.refl _ _).alloc (Mz _) _),by rw[putL_size];simp⟩
theorem boxL (w:World) (xs:List Value) (t:TypeId): ∃g W,w.heap.size=g∧w.alloc (.cells xs.toArray t)=W∧VarL W g xs∧Below w.heap.size w W∧W.heap.size=g+1:=
 ⟨w.heap.size,_,rfl,rfl,VarL.fresh w xs t,(Below.refl _ _).alloc (Mz _) _,by simp⟩
structure Frm (O:Foot) (w w':World):Prop where
 os:w'.os=w.os
 tape:w'.tape=w.tape
 output:w'.output=w.output
 size:w.heap.size≤w'.heap.size
 keep: ∀i,i<w.heap.size→¬O i→w'.heap[i]?=w.heap[i]?
theorem Frm.refl (O:Foot) (w:World):Frm O w w:=⟨rfl,rfl,rfl,Mz _,fun _ _ _=>rfl⟩
theorem Frm.of {O:Foot} {w w':World} (h:Below w.heap.size w w'):Frm O w w':=⟨h.os,h.tape,h.output,h.size,fun i hi _=>h.block i hi⟩
theorem Frm.only {base:Nat} {O:Foot} {w w':World} (h:OnlyO base O w w'):Frm O w w':=⟨h.bel.os,h.bel.tape,h.bel.output,h.bel.size,fun i hi hne=>h.keep i hi hne⟩
theorem Frm.trans {O O':Foot} {a b c:World} (h:Frm O a b) (g:Frm O' b c) (hg:Grown O O' a.heap.size):Frm O a c:=
 ⟨g.os.trans h.os,g.tape.trans h.tape,g.output.trans h.output,Nat.le_trans h.size g.size,fun i hi hne=>(g.keep i (Nat.lt_of_lt_of_le hi h.size) (fun ho=>by rcases hg i ho with ho|ho;exact hne ho;omega)).trans (h.keep i hi hne)⟩
theorem Frm.wider {O O':Foot} {a b:World} (h:Frm O a b) (hO: ∀i,O i→O' i):Frm O' a b:=⟨h.os,h.tape,h.output,h.size,fun i hi hne=>h.keep i hi (fun e=>hne (hO i e))⟩
theorem Frm.set {O:Foot} {a b:World} (h:Frm O a b) {r:Nat} (hr:O r) (i:Nat) (v:Value):Frm O a (b.setCell ⟨r,i,none⟩ v):=
 ⟨h.os,h.tape,h.output,by simpa using h.size,fun j hj hne=>(lset_else b r i v j (fun e=>by subst e;exact hne hr)).trans (h.keep j hj hne)⟩
theorem Frm.grown {w w':World} {b:Nat} (h:w.grownBy w' (some b)):Frm (fun i=>i=b) w w':=⟨h.os,h.tape,h.output,h.size,fun i hi hne=>h.block i hi (fun e=>hne (by injection e))⟩
theorem Frm.var {O:Foot} {a b:World} (h:Frm O a b) {p:Nat} {l:List Value} (V:VarL a p l) (hp: ¬O p):VarL b p l:=V.stay (h.keep p V.s hp)
end
end Go.Proofs.YtalcagmhdppdjaaGreatDoor
