/-
  The document's HeavyGoal: walked.
-/
import Derived.Test.YtgmfkbamfnkbgaaDoorPkChangeWindows12
set_option maxRecDepth 100000
set_option maxHeartbeats 8000000
namespace Go.Proofs.YtgmfkbamfnkbgaaDoor
open Lib renaming hid→Lh
open List renaming getElem?_eq_getElem→Kh,length_map→Ky
section
open Go.RowKit
def LightG (g:GlC):Prop:=g.name.size≤2000∧g.labels.length≤10∧g.rules.length≤10∧(∀l∈g.labels,l.1.size≤2000∧l.2.size≤2000)∧∀r∈g.rules,r.name.size≤2000
def GivesH (A:Prop) (w:World) (e:Ending) (w':World):Prop:=(∃q,e= .returned (.bool q)∧(q=false→A))∧Below w.heap.size w w'
theorem GivesH.yes {A:Prop} {w w':World} (h:Below w.heap.size w w'):GivesH A w (.returned (.bool true)) w':=⟨⟨_,rfl,fun h=>by cases h⟩,h⟩
theorem GivesH.no {A:Prop} {w w':World} (a:A) (h:Below w.heap.size w w'):GivesH A w (.returned (.bool false)) w':=⟨⟨_,rfl,fun _=>a⟩,h⟩
theorem rhg_any (g:GlC) (u:List Value) (w:World) (hu:GolI w u g):Calls Tryd.prog 14 #[.agg u.toArray] w (GivesH (LightG g) w):=by
 obtain⟨lv,rv,rfl,hl,hr⟩:=hu
 obtain⟨nm,tg,gr,la,ro,ca,L,R⟩:=g
 simp only at hl hr
 obtain⟨la1,lc1,rfl,_⟩:=hl.size
 obtain⟨ra1,rc1,rfl,_⟩:=hr.size
 rw[Ky]at hl hr ⊢
 rw[Ky]
 obtain⟨n,hn⟩: ∃n,L.length=n:=⟨_,rfl⟩
 obtain⟨m,hmm⟩: ∃n,R.length=n:=⟨_,rfl⟩
 rw[hn]at hl ⊢
 rw[hmm]at hr ⊢
 obtain⟨gb,W1,hg,hW1,V1,b1,z1⟩:=boxL w [.string nm, .int .u32 tg, .int .i64 gr, .int .i64 la, .int .i64 ro, .int .i64 ca, .slice la1 n lc1, .slice ra1 m rc1] 44
 have HLL:=Lh hl
 have HRL:=Lh hr
 have HN1:=Lh hn
 have HM1:=Lh hmm
 have HB:=Lh b1
 have HV:=Lh V1
 have c0:=V1.c 0 rfl
 have c6:=V1.c 6 rfl
 have c7:=V1.c 7 rfl
 clear hl hr hn hmm b1 z1 V1
 show Calls Tryd.prog 14 #[.agg #[.string nm, .int .u32 tg, .int .i64 gr, .int .i64 la, .int .i64 ro, .int .i64 ca, .slice la1 n lc1, .slice ra1 m rc1]] w _
 rcases(Decidable.em ((2000:Int)<(nm.size:Int)))with h1|h1
 ·go_enter Tryd.func14,Tryd.ntmps14
  go_wp2
  go_ret
  exact GivesH.yes HB.out
 have HS:Hid (nm.size≤2000):=Lh (by omega)
 rcases(Decidable.em ((10:Int)<(n:Int)))with h2|h2
 ·go_enter Tryd.func14,Tryd.ntmps14
  go_wp2
  go_ret
  exact GivesH.yes HB.out
 have HS2:Hid (n≤10):=Lh (by omega)
 rcases(Decidable.em ((10:Int)<(m:Int)))with h3|h3
 ·go_enter Tryd.func14,Tryd.ntmps14
  go_wp2
  go_ret
  exact GivesH.yes HB.out
 have HS3:Hid (m≤10):=Lh (by omega)
 go_enter Tryd.func14,Tryd.ntmps14
 go_wp2
 clear h1 h2 h3 c0
 go_loopw [3] (fun v3 wr=> ∃i:Nat,i≤n∧v3= .int .i64 (i:Int)∧wr=W1∧∀(j:Nat) y,j<i→L[j]?=some y→y.1.size≤2000∧y.2.size≤2000) (fun v3 _=>n-(intOf v3).toNat)
 case atStart=>exact⟨0,Nat.zero_le _,rfl,rfl,fun j y hj=>by omega⟩
 case round=>
  obtain⟨i,hi,rfl,rfl,hU⟩:=hrel
  have HU:=Lh hU
  clear hU
  by_cases hin:i<n
  ·obtain⟨x,hx⟩: ∃x,L[i]?=some x:=⟨_,Kh (by rw[HN1.out];exact hin)⟩
   have HX:=Lh hx
   obtain⟨b,off,rfl,hlt,hcell⟩:=HLL.out.at i (labV x) (by rw[List.getElem?_map,hx];rfl)
   obtain⟨s,t⟩:=x
   have f0:wr.cell? ⟨b,off+i*2,none⟩=some (.string s):=(HB.out.cell (p:=⟨b,off+i*2,none⟩) hlt).trans (hcell 0 _ rfl)
   have f1:wr.cell? ⟨b,off+i*2+1,none⟩=some (.string t):=(HB.out.cell (p:=⟨b,off+i*2+1,none⟩) hlt).trans (hcell 1 _ rfl)
   have hi1:IntKind.i64.wrap ((i:Int)+1)=((i+1:Nat):Int):=by rw[IntKind.wrap_i64];have:=HS2.out;omega
   clear hx hlt hcell
   rcases(Decidable.em ((2000:Int)<(s.size:Int)))with h1|h1
   ·go_wp2
    go_ret
    exact GivesH.yes HB.out
   rcases(Decidable.em ((2000:Int)<(t.size:Int)))with h2|h2
   ·go_wp2
    go_ret
    exact GivesH.yes HB.out
   have HST:Hid (s.size≤2000∧t.size≤2000):=Lh ⟨by omega,by omega⟩
   go_wp2
   go_roundw
   case rel=>exact⟨i+1,by omega,by go_num,by first|rfl|trivial,fun j y hj hy=>by
    rcases Nat.lt_or_ge j i with hx|hx
    ·exact HU.out j y hx hy
    ·obtain rfl:j=i:=by omega
     rw[HX.out]at hy
     injection hy with hy
     subst hy
     exact HST.out⟩
   case measure=>simp[intOf];omega
  ·have en:n=i:=by omega
   subst en
   have HUL:=Lh HU.out
   go_wp2
   clear hin c6
   go_loopw [4] (fun v4 wx=> ∃i:Nat,i≤m∧v4= .int .i64 (i:Int)∧wx=wr∧∀(j:Nat) y,j<i→R[j]?=some y→y.name.size≤2000) (fun v4 _=>m-(intOf v4).toNat)
   case atStart=>exact⟨0,Nat.zero_le _,rfl,rfl,fun j y hj=>by omega⟩
   case round=>
    clear HU
    obtain⟨i,hi,rfl,hwx,hU⟩:=hrel
    subst hwx
    have HU:=Lh hU
    clear hU
    by_cases hin:i<m
    ·obtain⟨x,hx⟩: ∃x,R[i]?=some x:=⟨_,Kh (by rw[HM1.out];exact hin)⟩
     have HX:=Lh hx
     obtain⟨b,off,rfl,hlt,hcell⟩:=HRL.out.at i (rulV x) (by rw[List.getElem?_map,hx];rfl)
     have f0:=(HB.out.cell (p:=⟨b,off+i*7,none⟩) hlt).trans (hcell 0 _ rfl)
     have hi1:IntKind.i64.wrap ((i:Int)+1)=((i+1:Nat):Int):=by rw[IntKind.wrap_i64];have:=HS3.out;omega
     clear hx hlt hcell
     rcases(Decidable.em ((2000:Int)<(x.name.size:Int)))with h1|h1
     ·go_wp2
      go_ret
      exact GivesH.yes HB.out
     have HST:Hid (x.name.size≤2000):=Lh (by omega)
     go_wp2
     go_roundw
     case rel=>exact⟨i+1,by omega,by go_num,by first|rfl|trivial,fun j y hj hy=>by
      rcases Nat.lt_or_ge j i with hx|hx
      ·exact HU.out j y hx hy
      ·obtain rfl:j=i:=by omega
       rw[HX.out]at hy
       injection hy with hy
       subst hy
       exact HST.out⟩
     case measure=>simp[intOf];omega
    ·have en:m=i:=by omega
     subst en
     go_wp2
     go_ret
     refine GivesH.no ⟨HS.out,by have:=HN1.out;have:=HS2.out;simp only;omega,by have:=HM1.out;have:=HS3.out;simp only;omega,fun l hl=>?_,fun r hr=>?_⟩ HB.out
     ·obtain⟨j,hj,rfl⟩:=List.getElem_of_mem hl
      exact HUL.out j _ (by have:=HN1.out;simp only at hj;omega) (Kh hj)
     ·obtain⟨j,hj,rfl⟩:=List.getElem_of_mem hr
      exact HU.out j _ (by have:=HM1.out;simp only at hj;omega) (Kh hj)
end
end Go.Proofs.YtgmfkbamfnkbgaaDoor
