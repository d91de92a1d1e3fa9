/-
  Texts by their runes: how many the library counts, and which texts it calls valid: plain arithmetic.
-/
import Derived.Test.YtgmfkbamfnkbgaaDoorPkChangeWindows01
import Derived.WalkLawsBesides
import Derived.Lib.OthersKept
import Derived.Test.YtgmfkbamfnkbgaaDoorChecked
import Derived.Lib.AppendIntMem
import Derived.Lib.LaidTab
import Derived.Stop.LaidErr
import Derived.Deep.QuietTactic
import Derived.BigQuiet
import Derived.Deep.RegionHeld3
import Derived.Lib.SlicesCompact
import Derived.Test.YtgmfkbamfnkbgaaDoorPkChangeWindows02
import Derived.Laws.ResultCell
import Derived.Lib.RuneBytes
import Derived.Lib.RuneCount
import Derived.Lib.ValidLaws
namespace Go.Proofs.YtgmfkbamfnkbgaaDoor
open List renaming getD_eq_getElem?_getD→Mk,getElem?_eq_getElem→Kh,length_cons→Jq,mem_cons_of_mem→Jx,mem_cons_self→Jy
section
abbrev nObjective:ByteArray:=⟨#[111,98,106,101,99,116,105,118,101]⟩
abbrev nNotify:ByteArray:=⟨#[110,111,116,105,102,121]⟩
abbrev nTarget:ByteArray:=⟨#[116,97,114,103,101,116]⟩
abbrev nGrain:ByteArray:=⟨#[103,114,97,105,110]⟩
abbrev nLate:ByteArray:=⟨#[108,97,116,101]⟩
abbrev nRolling:ByteArray:=⟨#[114,111,108,108,105,110,103]⟩
abbrev nCalendar:ByteArray:=⟨#[99,97,108,101,110,100,97,114]⟩
abbrev nLabel:ByteArray:=⟨#[108,97,98,101,108]⟩
abbrev nRule:ByteArray:=⟨#[114,117,108,101]⟩
abbrev nLong:ByteArray:=⟨#[108,111,110,103]⟩
abbrev nShort:ByteArray:=⟨#[115,104,111,114,116]⟩
abbrev nFactor:ByteArray:=⟨#[102,97,99,116,111,114]⟩
abbrev nFor:ByteArray:=⟨#[102,111,114]⟩
abbrev nKeep:ByteArray:=⟨#[107,101,101,112]⟩
abbrev nRoom:ByteArray:=⟨#[114,111,111,109]⟩
abbrev nReserve:ByteArray:=⟨#[114,101,115,101,114,118,101]⟩
abbrev nFirst:ByteArray:=⟨#[102,105,114,115,116]⟩
abbrev nCap:ByteArray:=⟨#[99,97,112]⟩
abbrev nRepeat:ByteArray:=⟨#[114,101,112,101,97,116]⟩
abbrev nMonth:ByteArray:=⟨#[109,111,110,116,104]⟩
abbrev nQuarter:ByteArray:=⟨#[113,117,97,114,116,101,114]⟩
abbrev nPage:ByteArray:=⟨#[112,97,103,101]⟩
abbrev nTicket:ByteArray:=⟨#[116,105,99,107,101,116]⟩
structure Spc where
 name:ByteArray
 kinds:List Int
 block:Bool
 most:Nat
 lo:Int
 hi:Int
def specsL:Nat→List Spc
 |0=> [⟨nObjective,[1],true,6,0,0⟩,⟨nNotify,[],true,1,0,0⟩]
 |1=> [⟨nTarget,[5],false,1,1,999999⟩,⟨nGrain,[6],false,1,1,86400⟩,⟨nLate,[6],false,1,0,86400⟩,⟨nRolling,[6],false,1,1,34560000⟩,⟨nCalendar,[1],false,1,0,0⟩,⟨nLabel,[1,2],false,4,0,0⟩,⟨nRule,[1,1],true,4,0,0⟩]
 |2=> [⟨nLong,[6],false,1,1,34560000⟩,⟨nShort,[6],false,1,1,34560000⟩,⟨nFactor,[4],false,1,1,1000000⟩,⟨nFor,[6],false,1,0,604800⟩,⟨nKeep,[6],false,1,0,604800⟩]
 |_=> [⟨nRoom,[3],false,1,1,64⟩,⟨nReserve,[3],false,1,0,64⟩,⟨nFirst,[6],false,1,1,86400⟩,⟨nCap,[6],false,1,1,604800⟩,⟨nRepeat,[6],false,1,0,2592000⟩]
def findS (wh:Nat) (n:ByteArray):Option Spc:=(specsL wh).find? (fun p=>p.name=n)
def It.w0 (x:It):Tk3:=x.words.getD 0 {}
def It.w1 (x:It):Tk3:=x.words.getD 1 {}
def kindsS (n:ByteArray):List Int→List Tk3→Prop
 | [],[]=>True
 |k::ks,t::ts=>(t.k=k∨(n=nFactor∧t.k=3))∧kindsS n ks ts
 |_,_=>False
instance kindsS.dec (n:ByteArray): ∀(ks:List Int) (ts:List Tk3),Decidable (kindsS n ks ts)
 | [],[]=>isTrue trivial
 |k::ks,t::ts=>by unfold kindsS;exact @instDecidableAnd _ _ _ (kindsS.dec n ks ts)
 | [],_::_=>isFalse (fun h=>h)
 |_::_,[]=>isFalse (fun h=>h)
def FormS (p:Spc) (x:It):Prop:=
 x.block=p.block∧kindsS p.name p.kinds x.words∧(p.name=nCalendar→x.w0.s=nMonth∨x.w0.s=nQuarter)∧(p.name=nRule→x.w1.s=nPage∨x.w1.s=nTicket)
instance (p:Spc) (x:It):Decidable (FormS p x):=by unfold FormS;infer_instance
def numS (x:It):Int:=if x.words.length=0 then 0 else if x.name=nFactor∧x.w0.k=3 then(if 1000000<x.w0.n then x.w0.n else 1000*x.w0.n)else x.w0.n
def KnownS (p:Spc) (cs:List It) (x:It):Prop:= ∃c∈cs,c.name=x.name∧(p.most=1∨c.w0.s=x.w0.s)
instance (p:Spc) (cs:List It) (x:It):Decidable (KnownS p cs x):=by unfold KnownS;infer_instance
def manyS (cs:List It) (n:ByteArray):Nat:=(cs.filter (fun c=>c.name=n)).length
def codeS (wh:Nat) (cs:List It) (x:It):Int:=
 match findS wh x.name with
 |none=>7
 |some p=>if¬FormS p x then 6 else if KnownS p cs x then 18 else if p.most≤manyS cs x.name then 9 else if p.most=1∧(numS x<p.lo∨p.hi<numS x)then 8 else 0
abbrev Flt:=Int×Int×Int
def stepS (wh:Nat) (sub:It→List Flt) (r:List It×List Flt) (x:It):List It×List Flt:=
 if codeS wh r.1 x=0 then(r.1++ [x],r.2++sub x)else(r.1,r.2++ [(codeS wh r.1 x,x.a,x.b)])
def lookS (wh:Nat) (sub:It→List Flt) (l:List It):List It×List Flt:=l.foldl (stepS wh sub) ([],[])
def getS:List It→ByteArray→Int→Int
 | [],_,o=>o
 |c::cs,n,o=>if c.name=n then numS c else getS cs n o
def hasS:List It→ByteArray→Bool
 | [],_=>false
 |c::cs,n=>if c.name=n then true else hasS cs n
def sub2:It→List Flt:=fun _=> []
def ruleK (x:It):List It:=(lookS 2 sub2 x.kids).1
def wholeR (x:It) (k:List It):List Flt:=
 if hasS k nLong=false∨hasS k nShort=false∨hasS k nFactor=false then [(6,x.a,x.b)]else if getS k nLong 0<getS k nShort 0 then [(8,x.a,x.b)]else []
def subG (x:It):List Flt:=if x.name=nRule then(lookS 2 sub2 x.kids).2++wholeR x (ruleK x)else []
def goalK (x:It):List It:=(lookS 1 subG x.kids).1
def OffS (grain:Int) (x:It):Prop:=getS (ruleK x) nLong 0%grain≠0∨getS (ruleK x) nShort 0%grain≠0
instance (grain:Int) (x:It):Decidable (OffS grain x):=by unfold OffS;infer_instance
def offsS (grain:Int):List It→List Flt
 | []=> []
 |x::k=>(if x.name=nRule∧OffS grain x then [(8,x.a,x.b)]else [])++offsS grain k
def wholeG (x:It) (k:List It):List Flt:=
 (if hasS k nTarget=false∨hasS k nRule=false then [(6,x.a,x.b)]else [])++(offsS (getS k nGrain 60) k++(if getS k nRolling 0%getS k nGrain 60≠0 then [(8,x.a,x.b)]else []))
def notK (x:It):List It:=(lookS 3 sub2 x.kids).1
def wholeN (x:It) (k:List It):List Flt:=if getS k nRoom 16<getS k nReserve 0∨getS k nCap 300<getS k nFirst 10 then [(8,x.a,x.b)]else []
def subT (x:It):List Flt:=
 if x.name=nObjective then(lookS 1 subG x.kids).2++wholeG x (goalK x)else if x.name=nNotify then(lookS 3 sub2 x.kids).2++wholeN x (notK x)else []
structure RlC where
 name:ByteArray
 page:Bool
 long:Int
 short:Int
 factor:Int
 hold:Int
 keep:Int
structure GlC where
 name:ByteArray
 target:Int
 grain:Int
 late:Int
 rolling:Int
 cal:Int
 labels:List (ByteArray×ByteArray)
 rules:List RlC
structure CfC where
 goals:List GlC
 room:Int
 reserve:Int
 first:Int
 cap:Int
 again:Int
def ruleB (x:It) (k:List It):RlC:=⟨x.w0.s,decide (x.w1.s=nPage),getS k nLong 0,getS k nShort 0,getS k nFactor 0,getS k nFor 0,getS k nKeep 0⟩
def ruleC (x:It):RlC:=ruleB x (ruleK x)
def calC:List It→Int→Int
 | [],c=>c
 |x::k,c=>calC k (if x.name=nCalendar then(if x.w0.s=nMonth then 1 else 2)else c)
def labC:List It→List (ByteArray×ByteArray)
 | []=> []
 |x::k=>(if x.name=nLabel then [(x.w0.s,x.w1.s)]else [])++labC k
def rulC:List It→List RlC
 | []=> []
 |x::k=>(if x.name=nRule then [ruleC x]else [])++rulC k
def goalB (name:ByteArray) (k:List It):GlC:=⟨name,getS k nTarget 0,getS k nGrain 60,getS k nLate 0,getS k nRolling 0,calC k 0,labC k,rulC k⟩
def goalC (x:It):GlC:=goalB x.w0.s (goalK x)
def golC:List It→List GlC
 | []=> []
 |x::k=>(if x.name=nObjective then [goalC x]else [])++golC k
def notC:List It→List It→List It
 | [],n=>n
 |x::k,n=>notC k (if x.name=nObjective then n else notK x)
def confB (gs:List GlC) (n:List It):CfC:=⟨gs,getS n nRoom 16,getS n nReserve 0,getS n nFirst 10,getS n nCap 300,getS n nRepeat 0⟩
def confC (L:List It):CfC:=confB (golC (lookS 0 subT L).1) (notC (lookS 0 subT L).1 [])
end
section
open Go.RowKit
structure RunesAt (zs:List Int) (i:Nat) (l:List Int):Prop where
 all:runesOf zs=l++rfrom zs i
 len:l.length≤i
def bdC:Nat→Int
 |0=>31
 |k+1=>64*bdC k+63
structure InR (zs:List Int) (i k:Nat) (c:Int):Prop where
 all:allB zs i k=true
 ec:c=cAt zs i k
 c0:0≤c
 c1:c≤bdC k
def GivesRunes (l:List Int) (w:World) (e:Ending) (w':World):Prop:= ∃v,e= .returned v∧Ints .i32 w' v l∧Below w.heap.size w w'∧∀b,v.ownBlock=some b→w.heap.size≤b
end
section
open Go.RowKit
end
section
open Go.RowKit
def Tab (w:World):Prop:=Lib.TabBelow Tryd.prog w.heap.size w "internal/strconv.uint64pow10" .u64 Lib.pow10Tab
end
section
open Go.RowKit
def deTab:List Int:= [0,1,56,2,57,49,28,3,61,58,42,50,38,29,17,4,62,47,59,36,45,43,51,22,53,39,33,30,24,18,12,5,63,55,48,27,60,41,37,16,46,35,44,21,52,32,23,11,54,26,40,15,34,20,31,10,25,14,19,9,13,8,7,6]
def DeB (w:World):Prop:=Lib.TabBelow Tryd.prog w.heap.size w "math/bits.deBruijn64tab" .u8 deTab
def Utf (w:World):Prop:=Lib.Utf8Tabs 0 1 w
theorem Utf.step {w w':World} (h:Utf w) (hb:Below w.heap.size w w'):Utf w':=Utf8Tabs_below h hb
theorem utf_of_laid {laid:List (String×DataW Unit)} {W:World} (h:laidMet Tryd.prog laid W) (h3:("unicode/utf8.first",Lib.firstData)∈laid) (h4:("unicode/utf8.acceptRanges",Lib.acceptData)∈laid):Utf W:=
 Tryd.utf8_tabs (Lib.laidMet.reads h h3) (Lib.laidMet.reads h h4)
def Env (w:World):Prop:=Utf w
theorem Env.step {w w':World} (h:Env w) (hb:Below w.heap.size w w'):Env w':=Utf.step h hb
theorem Env.utf {w:World} (h:Env w):Utf w:=h
def EnvQ (w:World):Prop:=DeB w∧Utf w∧Tab w
end
section
def AllU {α:Type} (P:α→Prop) (nm:α→ByteArray) (l:List α) (n:Nat):Prop:= ∀(j:Nat) (x:α),j<n→l[j]?=some x→P x∧∀(k:Nat) (y:α),k<j→l[k]?=some y→nm y≠nm x
section
variable {α:Type} {P:α→Prop} {nm:α→ByteArray} {l:List α} {n:Nat}
end
structure RuleOk (g:Int) (r:RlC):Prop where
 nm:NameL (runesOf (nums r.name))
 l1:1≤r.long
 l2:r.long≤34560000
 g1:1≤g
 lg:r.long%g=0
 s1:1≤r.short
 s2:r.short≤r.long
 sg:r.short%g=0
 f1:1≤r.factor
 f2:r.factor≤1000000
 h1:0≤r.hold
 h2:r.hold≤604800
 k1:0≤r.keep
 k2:r.keep≤604800
def LabOk (l:ByteArray×ByteArray):Prop:=NameL (runesOf (nums l.1))∧GoodL (runesOf (nums l.2))∧(runesOf (nums l.2)).length≤120
structure GoalOk (g:GlC):Prop where
 nm:NameL (runesOf (nums g.name))
 t1:1≤g.target
 t2:g.target≤999999
 g1:1≤g.grain
 g2:g.grain≤86400
 l1:0≤g.late
 l2:g.late≤86400
 r1:0≤g.rolling
 r2:g.rolling≤34560000
 rg:g.rolling%g.grain=0
 c1:0≤g.cal
 c2:g.cal≤2
 n1:g.labels.length≤4
 la:AllU LabOk (·.1) g.labels g.labels.length
 m1:1≤g.rules.length
 m2:g.rules.length≤4
 ru:AllU (RuleOk g.grain) (·.name) g.rules g.rules.length
structure ConfOk (c:CfC):Prop where
 n1:c.goals.length≤6
 go:AllU GoalOk (·.name) c.goals c.goals.length
 r1:1≤c.room
 r2:c.room≤64
 v1:0≤c.reserve
 v2:c.reserve≤c.room
 f1:1≤c.first
 f2:c.first≤86400
 c1:c.first≤c.cap
 c2:c.cap≤604800
 a1:0≤c.again
 a2:c.again≤2592000
end
section
def labV (l:ByteArray×ByteArray):List Value:= [.string l.1, .string l.2]
def rulV (r:RlC):List Value:= [.string r.name, .bool r.page, .int .i64 r.long, .int .i64 r.short, .int .u64 r.factor, .int .i64 r.hold, .int .i64 r.keep]
def golL (g:GlC) (lv rv:Value):List Value:= [.string g.name, .int .u32 g.target, .int .i64 g.grain, .int .i64 g.late, .int .i64 g.rolling, .int .i64 g.cal,lv,rv]
end
section
open Go.RowKit
def GivesQ (A:Prop) (w:World) (e:Ending) (w':World):Prop:= ∃q:Bool,e= .returned (.bool q)∧(q=true↔A)∧Below w.heap.size w w'
theorem GivesQ.yes {A:Prop} {w w':World} (h:A) (hb:Below w.heap.size w w'):GivesQ A w (.returned (.bool true)) w':=⟨true,rfl,⟨fun _=>h,fun _=>rfl⟩,hb⟩
theorem GivesQ.no {A:Prop} {w w':World} (h: ¬A) (hb:Below w.heap.size w w'):GivesQ A w (.returned (.bool false)) w':=⟨false,rfl,⟨fun e=>Bool.noConfusion e,fun e=>(h e).elim⟩,hb⟩
end
section
open Go.RowKit
end
section
open Go.RowKit
end
section
open Go.RowKit
end
section
def Rises (l all:List Int):Prop:=l.Pairwise (· < ·)∧∀x,x∈l↔x∈all
theorem rises_unique: ∀ {l m:List Int},l.Pairwise (· < ·)→m.Pairwise (· < ·)→(∀x,x∈l↔x∈m)→l=m
 | [],[],_,_,_=>rfl
 | [],y::m,_,_,h=>by have:=(h y).mpr (Jy ..);cases this
 |x::l,[],_,_,h=>by have:=(h x).mp (Jy ..);cases this
 |x::l,y::m,h1,h2,h=>by
  obtain⟨a1,a2⟩:=List.pairwise_cons.mp h1
  obtain⟨b1,b2⟩:=List.pairwise_cons.mp h2
  have e:x=y:=by
   rcases List.mem_cons.mp ((h x).mp (Jy ..))with e|e
   ·exact e
   ·rcases List.mem_cons.mp ((h y).mpr (Jy ..))with e2|e2
    ·exact e2.symm
    ·have:=b1 x e;have:=a1 y e2;omega
  subst e
  rw[rises_unique a2 b2 (fun z=>⟨fun hz=>?_,fun hz=>?_⟩)]
  ·rcases List.mem_cons.mp ((h z).mp (Jx _ hz))with e|e
   ·have:=a1 z hz;omega
   ·exact e
  ·rcases List.mem_cons.mp ((h z).mpr (Jx _ hz))with e|e
   ·have:=b1 z hz;omega
   ·exact e
def insW (x:Int):List Int→List Int
 | []=> [x]
 |y::l=>if x<y then x::y::l else if x=y then y::l else y::insW x l
theorem insW_mem (x z:Int): ∀l:List Int,z∈insW x l↔z=x∨z∈l
 | []=>by simp[insW]
 |y::l=>by
  rw[insW]
  split
  ·simp
  ·split
   ·rename_i h;subst h;simp
   ·rw[List.mem_cons,insW_mem x z l,List.mem_cons]
    exact⟨fun h=>by rcases h with h|h|h<;>simp[h],fun h=>by rcases h with h|h|h<;>simp[h]⟩
theorem insW_asc (x:Int): ∀ {l:List Int},l.Pairwise (· < ·)→(insW x l).Pairwise (· < ·)
 | [],_=>by simp[insW]
 |y::l,h=>by
  obtain⟨a,b⟩:=List.pairwise_cons.mp h
  rw[insW]
  split
  ·refine List.pairwise_cons.mpr ⟨fun z hz=>?_,h⟩
   rcases List.mem_cons.mp hz with rfl|hz
   ·assumption
   ·have:=a z hz;omega
  ·split
   ·exact h
   ·refine List.pairwise_cons.mpr ⟨fun z hz=>?_,insW_asc x b⟩
    rcases(insW_mem x z l).mp hz with rfl|hz
    ·omega
    ·exact a z hz
def allW (g:GlC):List Int:=g.rules.flatMap (fun r=> [r.long,r.short])++(if g.rolling≠0 then [g.rolling]else [])
def winS (g:GlC):List Int:=(allW g).foldr insW []
theorem fold_rises: ∀l:List Int,Rises (l.foldr insW []) l
 | []=>⟨by simp,by simp⟩
 |x::l=>by
  have:=fold_rises l
  refine⟨insW_asc x this.1,fun z=>?_⟩
  rw[List.foldr_cons,insW_mem,this.2,List.mem_cons]
theorem win_rises (g:GlC):Rises (winS g) (allW g):=fold_rises _
theorem win_is {g:GlC} {l:List Int} (h:Rises l (allW g)):l=winS g:=rises_unique h.1 (win_rises g).1 (fun x=>(h.2 x).trans ((win_rises g).2 x).symm)
structure TrC where
 goal:ByteArray
 rule:ByteArray
 kind:Int
abbrev nNone:ByteArray:=⟨#[]⟩
def getG (gs:List GlC) (n:ByteArray):Option GlC:=gs.find? (fun g=>decide (g.name=n))
def getR (rs:List RlC) (n:ByteArray):Option RlC:=rs.find? (fun r=>decide (r.name=n))
def StaysS (a b:GlC):Prop:=a.grain=b.grain∧a.cal=b.cal∧winS a=winS b
instance (a b:GlC):Decidable (StaysS a b):=by unfold StaysS;infer_instance
def SameRl (a b:RlC):Prop:=a.name=b.name∧a.page=b.page∧a.long=b.long∧a.short=b.short∧a.factor=b.factor∧a.hold=b.hold∧a.keep=b.keep
instance (a b:RlC):Decidable (SameRl a b):=by unfold SameRl;infer_instance
def kindG (was g:GlC):Int:=if StaysS was g then 2 else 3
def kindR (was g:GlC) (r:RlC):Int:=match getR was.rules r.name with
 |none=>1
 |some had=>if StaysS was g∧SameRl had r then 2 else 3
def goneR (was g:GlC):List TrC:=(was.rules.filter (fun r=>(getR g.rules r.name).isNone)).map (fun r=>⟨g.name,r.name,4⟩)
def bothT (was g:GlC):List TrC:=⟨g.name,nNone,kindG was g⟩::(g.rules.map (fun r=>⟨g.name,r.name,kindR was g r⟩)++goneR was g)
def newT (g:GlC) (k:Int):List TrC:=⟨g.name,nNone,k⟩::g.rules.map (fun r=>⟨g.name,r.name,k⟩)
def goalT (old:List GlC) (g:GlC):List TrC:=match getG old g.name with
 |none=>newT g 1
 |some was=>bothT was g
def goneT (new:List GlC) (g:GlC):List TrC:=match getG new g.name with
 |none=>newT g 4
 |some _=> []
def planS (old new:List GlC):List TrC:=new.flatMap (goalT old)++old.flatMap (goneT new)
def findT:List TrC→ByteArray→ByteArray→Int
 | [],_,_=>0
 |t::l,g,r=>if t.goal=g∧t.rule=r then t.kind else findT l g r
end
section
open Go.RowKit
def InK (sz:Nat) (w:World) (v:Value) (vs:List (List Value)):Prop:=
 ∃a cap,v= .slice a vs.length cap∧vs.length≤cap∧∀(i:Nat) (u:List Value),vs[i]?=some u→∃b off,a=some ⟨b,off,none⟩∧b<w.heap.size∧∀(j:Nat) (y:Value),u[j]?=some y→w.cell? ⟨b,off+i*sz+j,none⟩=some y
theorem InK.below {sz:Nat} {w w':World} {v:Value} {vs:List (List Value)} (h:InK sz w v vs) (hb:Below w.heap.size w w'):InK sz w' v vs:=by
 obtain⟨a,cap,e,hc,hi⟩:=h
 refine⟨a,cap,e,hc,fun i u hu=>?_⟩
 obtain⟨b,off,ea,hlt,hy⟩:=hi i u hu
 exact⟨b,off,ea,Nat.lt_of_lt_of_le hlt hb.size,fun j y hj=>(hb.cell (p:=⟨b,off+i*sz+j,none⟩) hlt).trans (hy j y hj)⟩
theorem InK.size {sz:Nat} {w:World} {v:Value} {vs:List (List Value)} (h:InK sz w v vs): ∃a cap,v= .slice a vs.length cap∧vs.length≤cap:=by
 obtain⟨a,cap,e,hc,_⟩:=h
 exact⟨a,cap,e,hc⟩
theorem InK.take {sz:Nat} {w:World} {a:Option Addr} {n cap:Nat} {vs:List (List Value)} (h:InK sz w (.slice a n cap) vs) (i:Nat) (hi:i≤vs.length):InK sz w (.slice a i cap) (vs.take i):=by
 obtain⟨a',cap',e,hc,h2⟩:=h
 injection e with e1 e2 e3
 subst e1 e2 e3
 refine⟨a,cap,by rw[List.length_take,Nat.min_eq_left hi],by rw[List.length_take];omega,fun k u hu=>?_⟩
 by_cases hk:k<i
 ·rw[List.getElem?_take_of_lt hk]at hu
  exact h2 k u hu
 ·rw[List.getElem?_take_eq_none (by omega)]at hu
  cases hu
theorem InK.at {sz:Nat} {w:World} {a:Option Addr} {n cap:Nat} {vs:List (List Value)} (h:InK sz w (.slice a n cap) vs) (i:Nat) (u:List Value) (hu:vs[i]?=some u): ∃b off,a=some ⟨b,off,none⟩∧b<w.heap.size∧∀(j:Nat) (y:Value),u[j]?=some y→w.cell? ⟨b,off+i*sz+j,none⟩=some y:=by
 obtain⟨a',cap',e,hc,h2⟩:=h
 injection e with e1 e2 e3
 subst e1 e2 e3
 exact h2 i u hu
def GolI (w:World) (u:List Value) (g:GlC):Prop:= ∃lv rv,u=golL g lv rv∧InK 2 w lv (g.labels.map labV)∧InK 7 w rv (g.rules.map rulV)
theorem GolI.below {w w':World} {u:List Value} {g:GlC} (h:GolI w u g) (hb:Below w.heap.size w w'):GolI w' u g:=by
 obtain⟨lv,rv,e,h1,h2⟩:=h
 exact⟨lv,rv,e,h1.below hb,h2.below hb⟩
def GolsI (w:World) (v:Value) (gs:List GlC):Prop:= ∃us,InK 8 w v us∧us.length=gs.length∧∀(i:Nat) u g,us[i]?=some u→gs[i]?=some g→GolI w u g
theorem GolsI.below {w w':World} {v:Value} {gs:List GlC} (h:GolsI w v gs) (hb:Below w.heap.size w w'):GolsI w' v gs:=by
 obtain⟨us,h1,h2,h3⟩:=h
 exact⟨us,h1.below hb,h2,fun i u g hu hg=>(h3 i u g hu hg).below hb⟩
end
section
open Go.RowKit
def GivesUnq (l:List Int) (w:World) (e:Ending) (w':World):Prop:= ∃t c,e= .returned (.tuple #[.string (strOfNums t), .int .i64 c])∧UnqL l t c∧Below w.heap.size w w'
def bdH:Nat→Int
 |0=>0
 |k+1=>16*bdH k+15
end
section
open Go.Lib
theorem keeps_get (zs:List Int) (j:Nat) (hj:j<zs.length):keeps zs.toArray j=decide (j=0∨zs.getD j 0≠zs.getD (j-1) 0):=by
 unfold keeps
 congr 1
 have h1:zs.toArray[j]! =zs.getD j 0:=by simp[Mk,hj]
 have h2:zs.toArray[j-1]! =zs.getD (j-1) 0:=by simp[Mk,show j-1<zs.length by omega]
 rw[h1,h2]
theorem upto_rises (zs:List Int) (hp:zs.Pairwise (· ≤ ·)): ∀m,m≤zs.length→Rises (compactUpTo zs.toArray m) (zs.take m)
 |0,_=>by simp[compactUpTo,Rises]
 |m+1,h=>by
  have ih:=upto_rises zs hp m (by omega)
  have ht:zs.take (m+1)=zs.take m++ [zs.getD m 0]:=by
   rw[List.take_add_one,Kh (by omega)]
   simp[Mk,show m<zs.length by omega]
  have he:zs.toArray[m]! =zs.getD m 0:=by simp[Mk,show m<zs.length by omega]
  rw[compactUpTo_succ,keeps_get _ _ (by omega),he,ht]
  have hlast: ∀y∈zs.take m,y≤zs.getD m 0:=fun y hy=>by
   rw[←List.take_append_drop m zs]at hp
   refine(List.pairwise_append.mp hp).2.2 y hy _ ?_
   rw[List.mem_iff_getElem?]
   exact⟨0,by simp[Mk,show m<zs.length by omega]⟩
  by_cases hk:m=0∨zs.getD m 0≠zs.getD (m-1) 0
  ·rw[decide_eq_true hk,if_pos rfl]
   refine⟨List.pairwise_append.mpr ⟨ih.1,by simp,fun y hy z hz=>?_⟩,fun x=>by rw[List.mem_append,List.mem_append,ih.2]⟩
   rw[List.mem_singleton.mp hz]
   have hy2:=(ih.2 y).mp hy
   rcases hk with rfl|hk
   ·simp at hy2
   ·by_cases hm:m=0
    ·subst hm;simp at hy2
    have h1:=hlast y hy2
    have h2:zs.getD (m-1) 0∈zs.take m:=by
     rw[List.mem_take_iff_getElem]
     exact⟨m-1,by omega,by simp[Mk,show m-1<zs.length by omega]⟩
    have h3:=hlast _ h2
    have h4:y≤zs.getD (m-1) 0:=by
     obtain⟨i,hi,rfl⟩:=List.mem_take_iff_getElem.mp hy2
     by_cases e:i=m-1
     ·subst e;simp[Mk,show m-1<zs.length by omega]
     ·have:=List.pairwise_iff_getElem.mp hp i (m-1) (by omega) (by omega) (by omega)
      simpa [Mk,show m-1<zs.length by omega] using this
    omega
  ·rw[decide_eq_false hk,if_neg (by simp),List.append_nil]
   refine⟨ih.1,fun x=>⟨fun hx=>List.mem_append_left _ ((ih.2 x).mp hx),fun hx=>?_⟩⟩
   rcases List.mem_append.mp hx with hx|hx
   ·exact(ih.2 x).mpr hx
   ·have e:zs.getD m 0=zs.getD (m-1) 0:=by
     by_cases e:zs.getD m 0=zs.getD (m-1) 0
     ·exact e
     ·exact(hk (Or.inr e)).elim
    rw[List.mem_singleton.mp hx,e]
    refine(ih.2 _).mpr ?_
    rw[List.mem_take_iff_getElem]
    have:m≠0:=fun e=>hk (Or.inl e)
    exact⟨m-1,by omega,by simp[Mk,show m-1<zs.length by omega]⟩
theorem compact_rises (zs:List Int):Rises (compact (zs.mergeSort fun x y=>decide (x≤y))) zs:=by
 have hp:(zs.mergeSort fun x y=>decide (x≤y)).Pairwise (· ≤ ·):=by
  have:=List.pairwise_mergeSort (le:=fun x y:Int=>decide (x≤y)) (by intro a b c h1 h2;simp at*;omega) (by intro a b;simp;omega) zs
  simpa using this
 have h:=upto_rises _ hp _ (Nat.le_refl _)
 rw[List.take_length]at h
 exact⟨h.1,fun x=>(h.2 x).trans (List.mem_mergeSort)⟩
theorem win_of (g:GlC):compact ((allW g).mergeSort fun x y=>decide (x≤y))=winS g:=win_is (compact_rises _)
theorem compact_len (zs:List Int):(compact zs).length≤zs.length:=by
 unfold compact compactUpTo
 rw[List.length_map]
 exact Nat.le_trans (List.length_filter_le ..) (by rw[List.length_range];exact Nat.le_refl _)
end
section
open Go.RowKit
theorem str_eqb (a b:ByteArray):(a.toList==b.toList)=decide (a=b):=by
 rw[ByteArray.toList_eq,ByteArray.toList_eq]
 obtain⟨⟨a⟩⟩:=a
 obtain⟨⟨b⟩⟩:=b
 by_cases h:a=b<;>simp[h]
def Keyed {κ:Type} (Q:κ→List Value→Prop) (us:List (List Value)) (ks:List κ):Prop:=us.length=ks.length∧∀(i:Nat) (u:List Value) (s:κ),us[i]?=some u→ks[i]?=some s→Q s u
theorem Keyed.row {κ:Type} {Q:κ→List Value→Prop} {us:List (List Value)} {ks:List κ} (h:Keyed Q us ks) {i:Nat} (hi:i<us.length): ∃s u,us[i]?=some u∧ks[i]?=some s∧Q s u:=by
 have h1:us[i]?=some us[i]:=Kh hi
 have h2:ks[i]?=some (ks[i]'(by rw[←h.1];exact hi)):=Kh _
 exact⟨_,_,h1,h2,h.2 i _ _ h1 h2⟩
def FirstK {κ:Type} (ks:List κ) (s:κ) (k:Nat):Prop:=ks[k]?=some s∧∀(j:Nat) y,j<k→ks[j]?=some y→y≠s
def GivesOne {κ:Type} (us:List (List Value)) (ks:List κ) (t:κ) (z:Array Value) (w:World) (e:Ending) (w':World):Prop:=
 ∃cs bb,e= .returned (.tuple #[.agg cs, .bool bb])∧((bb=true∧∃k u,us[k]?=some u∧FirstK ks t k∧cs=u.toArray)∨(bb=false∧cs=z∧∀(k:Nat) y,ks[k]?=some y→y≠t))∧Below w.heap.size w w'
theorem first_find {α κ:Type} [DecidableEq κ] (f:α→κ) (s:κ): ∀(l:List α) (k:Nat) (x:α),FirstK (l.map f) s k→l[k]?=some x→l.find? (fun y=>decide (f y=s))=some x
 | [],k,x,_,h=>by cases h
 |y::l,0,x,h,e=>by
  rw[List.getElem?_cons_zero]at e
  injection e with e
  subst e
  have h0:=h.1
  rw[List.map_cons,List.getElem?_cons_zero]at h0
  injection h0 with h0
  rw[List.find?_cons,decide_eq_true h0]
 |y::l,k+1,x,h,e=>by
  have h1:=h.2 0 (f y) (by omega) (by rw[List.map_cons,List.getElem?_cons_zero])
  rw[List.find?_cons,decide_eq_false h1]
  refine first_find f s l k x ⟨?_,fun j z hj hz=>h.2 (j+1) z (by omega) ?_⟩ ?_
  ·have:=h.1;rwa [List.map_cons,List.getElem?_cons_succ]at this
  ·rw[List.map_cons,List.getElem?_cons_succ];exact hz
  ·rwa [List.getElem?_cons_succ]at e
theorem none_find {α κ:Type} [DecidableEq κ] (f:α→κ) (s:κ) (l:List α) (h: ∀(k:Nat) y,(l.map f)[k]?=some y→y≠s):l.find? (fun y=>decide (f y=s))=none:=by
 rw[List.find?_eq_none]
 intro x hx
 obtain⟨k,hk,e⟩:=List.getElem_of_mem hx
 have:=h k (f x) (by rw[List.getElem?_map,Kh hk,e];rfl)
 simpa using this
theorem cell_tmp {fn:Func} {p u:Tmp} {ty:TypeId} (h:fn.results= #[.cell p ty, .tmp u]) {tmps:Array Value} {W:World} {g:Nat} {x y:Value} (hl:(loadVar ty ⟨g,0,none⟩).run Tryd.prog W= .ok x W)
  (h2:tmps.getD p undef= .pointer (some ⟨g,0,none⟩)) (h3:tmps.getD u undef=y):(results fn tmps).run Tryd.prog W= .ok (.tuple #[x,y]) W:=by
 have e:(asAddr (Value.pointer (some ⟨g,0,none⟩))).run Tryd.prog W= .ok ⟨g,0,none⟩ W:=rfl
 rw[results_cell_tmp h,h2,h3,e]
 simp only[Result.andThen,hl]
theorem goal_load {W:World} {g:Nat} {x0 x1 x2 x3 x4 x5 x6 x7:Value} (h:VarL W g [x0,x1,x2,x3,x4,x5,x6,x7]):(loadVar 44 ⟨g,0,none⟩).run Tryd.prog W= .ok (.agg #[x0,x1,x2,x3,x4,x5,x6,x7]) W:=by
 have c0:=h.c 0 rfl
 have c1:=h.c 1 rfl
 have c2:=h.c 2 rfl
 have c3:=h.c 3 rfl
 have c4:=h.c 4 rfl
 have c5:=h.c 5 rfl
 have c6:=h.c 6 rfl
 have c7:=h.c 7 rfl
 clear h
 go_simp
theorem rule_load {W:World} {g:Nat} {x0 x1 x2 x3 x4 x5 x6:Value} (h:VarL W g [x0,x1,x2,x3,x4,x5,x6]):(loadVar 52 ⟨g,0,none⟩).run Tryd.prog W= .ok (.agg #[x0,x1,x2,x3,x4,x5,x6]) W:=by
 have c0:=h.c 0 rfl
 have c1:=h.c 1 rfl
 have c2:=h.c 2 rfl
 have c3:=h.c 3 rfl
 have c4:=h.c 4 rfl
 have c5:=h.c 5 rfl
 have c6:=h.c 6 rfl
 clear h
 go_simp
end
section
def AboveW (out:List Int) (x:Int):Prop:= ∀l,out.getLast?=some l→l<x
structure WinAt (all out:List Int):Prop where
 asc:out.Pairwise (· < ·)
 sub: ∀x∈out,x∈all
 low: ∀x∈all,¬AboveW out x→x∈out
theorem WinAt.start (all:List Int):WinAt all []:=⟨by simp,fun x hx=>(by cases hx),fun x _ h=>(h (fun l hl=>(by cases hl))).elim⟩
theorem above_all {out:List Int} (h:out.Pairwise (· < ·)) {x:Int} (hx:AboveW out x): ∀y∈out,y<x:=by
 rcases List.eq_nil_or_concat out with rfl|⟨l,z,rfl⟩
 ·intro y hy;cases hy
 ·rw[List.concat_eq_append]at h hx ⊢
  have hz:z<x:=hx z (by simp)
  intro y hy
  rcases List.mem_append.mp hy with hy|hy
  ·have:=(List.pairwise_append.mp h).2.2 y hy z (List.mem_singleton.mpr rfl);omega
  ·rw[List.mem_singleton.mp hy];exact hz
theorem WinAt.next {all out:List Int} (h:WinAt all out) {x:Int} (hx:x∈all) (ha:AboveW out x) (hl: ∀y∈all,AboveW out y→x≤y):WinAt all (out++ [x]):=by
 refine⟨List.pairwise_append.mpr ⟨h.asc,by simp,fun y hy z hz=>by rw[List.mem_singleton.mp hz];exact above_all h.asc ha y hy⟩,fun y hy=>?_,fun y hy hn=>?_⟩
 ·rcases List.mem_append.mp hy with hy|hy
  ·exact h.sub y hy
  ·rw[List.mem_singleton.mp hy];exact hx
 ·by_cases hy2:AboveW out y
  ·have h1:=hl y hy hy2
   by_cases e:y=x
   ·rw[e];simp
   ·exact(hn (fun l hl=>by simp at hl;omega)).elim
  ·exact List.mem_append_left _ (h.low y hy hy2)
theorem WinAt.done {all out:List Int} (h:WinAt all out) (hn: ∀y∈all,¬AboveW out y):Rises out all:=⟨h.asc,fun x=>⟨h.sub x,fun hx=>h.low x hx (hn x hx)⟩⟩
theorem asc_len: ∀ {l all:List Int},l.Pairwise (· < ·)→(∀x∈l,x∈all)→l.length≤all.length
 | [],_,_,_=>Nat.zero_le _
 |x::l,all,h,hm=>by
  obtain⟨a,b⟩:=List.pairwise_cons.mp h
  have h1:=hm x (Jy ..)
  have h2:=asc_len (all:=all.erase x) b (fun y hy=>(List.mem_erase_of_ne (fun e=>by have:=a y hy;omega)).mpr (hm y (Jx _ hy)))
  rw[List.length_erase_of_mem h1]at h2
  have:0<all.length:=List.length_pos_of_mem h1
  rw[Jq];omega
structure BestW (all out:List Int) (j:Nat) (b:Int):Prop where
 none:b<0→b= -1∧∀i,i<j→¬AboveW out (all.getD i 0)
 some:0≤b→b<j∧AboveW out (all.getD b.toNat 0)∧∀i,i<j→AboveW out (all.getD i 0)→all.getD b.toNat 0≤all.getD i 0
theorem BestW.start (all out:List Int):BestW all out 0 (-1):=⟨fun _=>⟨rfl,fun i hi=>by omega⟩,fun h=>by omega⟩
theorem BestW.pass {all out:List Int} {j:Nat} {b:Int} (h:BestW all out j b) (hn:AboveW out (all.getD j 0)→0≤b∧all.getD b.toNat 0≤all.getD j 0):BestW all out (j+1) b:=by
 refine⟨fun hb=>⟨(h.none hb).1,fun i hi ha=>?_⟩,fun hb=>⟨by have:=(h.some hb).1;omega,(h.some hb).2.1,fun i hi ha=>?_⟩⟩
 ·by_cases e:i=j
  ·subst e;have:=(hn ha).1;omega
  ·exact(h.none hb).2 i (by omega) ha
 ·by_cases e:i=j
  ·subst e;exact(hn ha).2
  ·exact(h.some hb).2.2 i (by omega) ha
theorem BestW.take {all out:List Int} {j:Nat} {b:Int} (h:BestW all out j b) (ha:AboveW out (all.getD j 0)) (hb:b<0∨all.getD j 0<all.getD b.toNat 0):BestW all out (j+1) (j:Int):=by
 refine⟨fun h=>by omega,fun _=>⟨by omega,by simpa using ha,fun i hi hi2=>?_⟩⟩
 rw[Int.toNat_natCast]
 by_cases e:i=j
 ·subst e;exact Int.le_refl _
 ·rcases hb with hb|hb
  ·exact((h.none hb).2 i (by omega) hi2).elim
  ·by_cases h0:0≤b
   ·have:=(h.some h0).2.2 i (by omega) hi2;omega
   ·exact((h.none (by omega)).2 i (by omega) hi2).elim
end
section
theorem decode_wid (s:ByteArray) (pos:Nat) (h:pos<s.size):(Utf8.decode s pos).2=widA (nums s) pos:=by
 rcases decode_rune s pos h with⟨_,h2,h3⟩|⟨_,h3⟩
 ·rw[h3,h2]
 ·rw[h3]
theorem count_runes (s:ByteArray):Lib.runeCount s=(runesOf (nums s)).length:=by
 have key: ∀fuel pos,s.size-pos≤fuel→Lib.runeCountFrom s fuel pos=(rfrom (nums s) pos).length:=by
  intro fuel
  induction fuel with
  |zero=>intro pos h;rw[rfrom_out (by rw[nums_length];omega)];rfl
  |succ n ih=>
   intro pos h
   by_cases hp:pos<s.size
   ·have hw:=widA_pos (nums s) pos
    rw[rfrom_in (by rw[nums_length];exact hp),Jq,←ih (pos+widA (nums s) pos) (by omega)]
    simp only[Lib.runeCountFrom,if_pos hp,decode_wid s pos hp]
    omega
   ·rw[rfrom_out (by rw[nums_length];exact hp),Lib.runeCountFrom_end s _ pos hp];rfl
 exact key s.size 0 (by omega)
theorem good_cons {z:Int} {l:List Int} :GoodL (z::l)↔0≤z∧GoodL l:=by
 constructor
 ·intro h
  exact⟨h 0 (by simp),fun i hi=>h (i+1) (by simpa using hi)⟩
 ·rintro⟨h0,h⟩ i hi
  match i,hi with
  |0,_=>exact h0
  |i+1,hi=>exact h i (by simpa using hi)
theorem good_nil:GoodL []:=fun i hi=>by cases hi
theorem valid_good (s:ByteArray):(Lib.validD s.data.toList=true)↔GoodL (runesOf (nums s)):=by
 have key: ∀n pos,s.size-pos≤n→(Lib.validD (s.data.toList.drop pos)=true↔GoodL (rfrom (nums s) pos)):=by
  intro n
  induction n with
  |zero=>
   intro pos h
   rw[rfrom_out (by rw[nums_length];omega),List.drop_eq_nil_of_le (by rw[Array.length_toList];show s.size≤pos;omega),Lib.validD_nil]
   exact⟨fun _=>good_nil,fun _=>rfl⟩
  |succ n ih=>
   intro pos h
   by_cases hp:pos<s.size
   ·have hw:=widA_pos (nums s) pos
    have hne:s.data.toList.drop pos≠ []:=fun e=>by
     have:=congrArg List.length e
     rw[List.length_drop,Array.length_toList]at this
     have:s.size-pos=0:=this
     omega
    rw[Lib.validD_step _ hne,Lib.decodeL_drop,rfrom_in (by rw[nums_length];exact hp),good_cons]
    rcases decode_rune s pos hp with⟨h1,h2,h3⟩|⟨h1,h3⟩
    ·rw[h3,h1];simp
    ·rw[h3]
     have hnot: ¬((runeA (nums s) pos).toNat=65533∧widA (nums s) pos=1):=by
      rintro⟨ha,hb⟩
      by_cases k0:(nums s).getD pos 0<128
      ·have:=(runeA_low k0).1;omega
      ·cases hq:wholeB (nums s) pos with
       |true=>
        have h5:=(runeA_good k0 hq).2
        have h6:0<clsN ((nums s).getD pos 0):=by
         unfold wholeB at hq
         simp only[Bool.and_eq_true,decide_eq_true_eq]at hq
         exact hq.1.1.1.1
        omega
       |false=>have:=(runeA_bad k0 hq).1;omega
     rw[if_neg hnot,List.drop_drop,ih (pos+widA (nums s) pos) (by omega)]
     exact⟨fun g=>⟨h1,g⟩,fun g=>g.2⟩
   ·rw[rfrom_out (by rw[nums_length];exact hp),List.drop_eq_nil_of_le (by rw[Array.length_toList];show s.size≤pos;omega),Lib.validD_nil]
    exact⟨fun _=>good_nil,fun _=>rfl⟩
 have:=key s.size 0 (by omega)
 rwa [List.drop_zero]at this
end
end Go.Proofs.YtgmfkbamfnkbgaaDoor
