/-
  Package layout's Right: walked.
-/
import Derived.Test.YtiapmjkaappcfaaGreatDoorPkShowGoals08
set_option maxRecDepth 100000
set_option maxHeartbeats 8000000
namespace Go.Proofs.YtiapmjkaappcfaaGreatDoor
open Lib renaming hid→Lh
open List renaming setIfInBounds_toArray→Lq,set_cons_zero→Lj,set_cons_succ→Lk,getD_eq_getElem?_getD→Mk,getElem?_eq_getElem→Kh,take_succ_cons→Kj,take_zero→Jh,mem_cons_of_mem→Jy,mem_cons_self→Jz
open Nat renaming reduceAdd→Lx,zero_add→Ly,le_refl→Mz
open Act renaming put→Mq
open Go.RowKit.Below renaming refl→Mj
open World renaming cell?_of_block→Kk
section
open Go.RowKit
def goalQ (s:ByteArray) (u:List Value):Prop:= ∃(y1 y2 y3 y4 y5:Int) (yp:Option Addr) (yq yr:Nat) (ys:Option Addr) (yt yu:Nat),u= [.string s, .int .u32 y1, .int .i64 y2, .int .i64 y3, .int .i64 y4, .int .i64 y5, .slice yp yq yr, .slice ys yt yu]
theorem goal_name (s:ByteArray) (y1 y2 y3 y4 y5:Int) (yp:Option Addr) (yq yr:Nat) (ys:Option Addr) (yt yu:Nat) (w:World):Calls Tryz.prog 53 #[.agg #[.string s, .int .u32 y1, .int .i64 y2, .int .i64 y3, .int .i64 y4, .int .i64 y5, .slice yp yq yr, .slice ys yt yu]] w fun e w'=>e= .returned (.string s)∧Below w.heap.size w w':=by
 obtain⟨yb,W1,hyb,hW1,V1,b1,z1⟩:=boxL w [.string s, .int .u32 y1, .int .i64 y2, .int .i64 y3, .int .i64 y4, .int .i64 y5, .slice yp yq yr, .slice ys yt yu] 54
 have c0:=V1.c 0 rfl
 have HB:=Lh b1
 clear b1 V1 z1
 go_enter Tryz.func53,Tryz.ntmps53
 go_wp2
 go_ret
 exact⟨rfl,HB.out⟩
theorem goal_same (s t:ByteArray) (y1 y2 y3 y4 y5:Int) (yp:Option Addr) (yq yr:Nat) (ys:Option Addr) (yt yu:Nat) (x1 x2 x3 x4 x5:Int) (xp:Option Addr) (xq xr:Nat) (xs:Option Addr) (xt xu:Nat) (nb xb:Nat) (w:World) (hn:VarL w nb [.func (.func 53) #[] #[]]) (hx:VarL w xb [.string t, .int .u32 x1, .int .i64 x2, .int .i64 x3, .int .i64 x4, .int .i64 x5, .slice xp xq xr, .slice xs xt xu]):
  Calls Tryz.prog 106 #[.agg #[.string s, .int .u32 y1, .int .i64 y2, .int .i64 y3, .int .i64 y4, .int .i64 y5, .slice yp yq yr, .slice ys yt yu], .pointer (some ⟨nb,0,none⟩), .pointer (some ⟨xb,0,none⟩)] w fun e w'=>e= .returned (.bool (decide (s=t)))∧Below w.heap.size w w':=by
 obtain⟨yb,W1,hyb,hW1,V1,b1,z1⟩:=boxL w [.string s, .int .u32 y1, .int .i64 y2, .int .i64 y3, .int .i64 y4, .int .i64 y5, .slice yp yq yr, .slice ys yt yu] 54
 have HB:=Lh b1
 have HC:Hid (∀W,Below W1.heap.size W1 W→W.cell? ⟨nb,0,none⟩=some (.func (.func 53) #[] #[])∧(W.cell? ⟨yb,0,none⟩=some (.string s)∧W.cell? ⟨yb,1,none⟩=some (.int .u32 y1)∧W.cell? ⟨yb,2,none⟩=some (.int .i64 y2)∧W.cell? ⟨yb,3,none⟩=some (.int .i64 y3)∧W.cell? ⟨yb,4,none⟩=some (.int .i64 y4)∧W.cell? ⟨yb,5,none⟩=some (.int .i64 y5)∧W.cell? ⟨yb,6,none⟩=some (.slice yp yq yr)∧W.cell? ⟨yb,7,none⟩=some (.slice ys yt yu))∧W.cell? ⟨xb,0,none⟩=some (.string t)∧W.cell? ⟨xb,1,none⟩=some (.int .u32 x1)∧W.cell? ⟨xb,2,none⟩=some (.int .i64 x2)∧W.cell? ⟨xb,3,none⟩=some (.int .i64 x3)∧W.cell? ⟨xb,4,none⟩=some (.int .i64 x4)∧W.cell? ⟨xb,5,none⟩=some (.int .i64 x5)∧W.cell? ⟨xb,6,none⟩=some (.slice xp xq xr)∧W.cell? ⟨xb,7,none⟩=some (.slice xs xt xu)):=Lh (fun W b=>
  ⟨((hn.after b1).after b).c 0 rfl,⟨(V1.after b).c 0 rfl,(V1.after b).c 1 rfl,(V1.after b).c 2 rfl,(V1.after b).c 3 rfl,(V1.after b).c 4 rfl,(V1.after b).c 5 rfl,(V1.after b).c 6 rfl,(V1.after b).c 7 rfl⟩,((hx.after b1).after b).c 0 rfl,((hx.after b1).after b).c 1 rfl,((hx.after b1).after b).c 2 rfl,((hx.after b1).after b).c 3 rfl,((hx.after b1).after b).c 4 rfl,((hx.after b1).after b).c 5 rfl,((hx.after b1).after b).c 6 rfl,((hx.after b1).after b).c 7 rfl⟩)
 have HNY:=Lh (fun W=>goal_name s y1 y2 y3 y4 y5 yp yq yr ys yt yu W)
 have HNX:=Lh (fun W=>goal_name t x1 x2 x3 x4 x5 xp xq xr xs xt xu W)
 obtain⟨q,hq⟩: ∃q,decide (s=t)=q:=⟨_,rfl⟩
 have HE:Hid ((s.toList==t.toList)=q):=Lh ((str_same s t).trans hq)
 rw[hq]
 clear b1 V1 z1 hn hx hq
 go_enter Tryz.func106,Tryz.ntmps106
 go_wp2
 refine wp_region_mix 6 (TVs [.func (.func 53) #[] #[], .agg #[.string s, .int .u32 y1, .int .i64 y2, .int .i64 y3, .int .i64 y4, .int .i64 y5, .slice yp yq yr, .slice ys yt yu], .string s, .func (.func 53) #[] #[], .agg #[.string t, .int .u32 x1, .int .i64 x2, .int .i64 x3, .int .i64 x4, .int .i64 x5, .slice xp xq xr, .slice xs xt xu], .string t]) (fun _=>false) (by kernel_rfl) (by kernel_rfl) (TVs.keep _) (fun _ _ _ h=>by cases h) ?_ ?_
 ·refine⟨?_,?_,?_,?_,?_,?_,trivial⟩
  ·intro u W hb hd
   obtain⟨n0,_⟩:=HC.out W hb
   simp only[Kj,Jh,putAll,Mq,Lq,Lk,Lj,Ly,Lx]
   go_wp2
   first|exact⟨rfl,Mj _ _⟩|exact⟨_,rfl,rfl,Mj _ _⟩|exact⟨_,rfl,rfl,Mj _ _,fun h=>by simp at h⟩
  ·intro u W hb hd
   obtain⟨_,⟨y00,y01,y02,y03,y04,y05,y06,y07⟩,_⟩:=HC.out W hb
   simp only[Kj,Jh,putAll,Mq,Lq,Lk,Lj,Ly,Lx]
   go_wp2
   first|exact⟨rfl,Mj _ _⟩|exact⟨_,rfl,rfl,Mj _ _⟩|exact⟨_,rfl,rfl,Mj _ _,fun h=>by simp at h⟩
  ·intro u W hb hd
   have e0:u 0= .func (.func 53) #[] #[]:=hd.1 rfl (by decide)
   have e1:u 1= .agg #[.string s, .int .u32 y1, .int .i64 y2, .int .i64 y3, .int .i64 y4, .int .i64 y5, .slice yp yq yr, .slice ys yt yu]:=hd.2.1 rfl (by decide)
   simp only[Kj,Jh,putAll,Mq,Lq,Lk,Lj,Ly,Lx]
   rw[e0,e1]
   go_wp2_with (go_at_call 53;(with_reducible refine(HNY.out _).mono ?_);rintro e W2 ⟨rfl,g⟩)
   first|exact⟨rfl,g⟩|exact⟨_,rfl,rfl,g⟩|exact⟨_,rfl,rfl,g,fun h=>by simp at h⟩
  ·intro u W hb hd
   obtain⟨n0,_⟩:=HC.out W hb
   simp only[Kj,Jh,putAll,Mq,Lq,Lk,Lj,Ly,Lx]
   go_wp2
   first|exact⟨rfl,Mj _ _⟩|exact⟨_,rfl,rfl,Mj _ _⟩|exact⟨_,rfl,rfl,Mj _ _,fun h=>by simp at h⟩
  ·intro u W hb hd
   obtain⟨_,_,x00,x01,x02,x03,x04,x05,x06,x07⟩:=HC.out W hb
   simp only[Kj,Jh,putAll,Mq,Lq,Lk,Lj,Ly,Lx]
   go_wp2
   first|exact⟨rfl,Mj _ _⟩|exact⟨_,rfl,rfl,Mj _ _⟩|exact⟨_,rfl,rfl,Mj _ _,fun h=>by simp at h⟩
  ·intro u W hb hd
   have e0:u 3= .func (.func 53) #[] #[]:=hd.1 rfl (by decide)
   have e1:u 4= .agg #[.string t, .int .u32 x1, .int .i64 x2, .int .i64 x3, .int .i64 x4, .int .i64 x5, .slice xp xq xr, .slice xs xt xu]:=hd.2.1 rfl (by decide)
   simp only[Kj,Jh,putAll,Mq,Lq,Lk,Lj,Ly,Lx]
   rw[e0,e1]
   go_wp2_with (go_at_call 53;(with_reducible refine(HNX.out _).mono ?_);rintro e W2 ⟨rfl,g⟩)
   first|exact⟨rfl,g⟩|exact⟨_,rfl,rfl,g⟩|exact⟨_,rfl,rfl,g,fun h=>by simp at h⟩
 ·intro u W hb hT _
  have e2:u 2= .string s:=hT 2 (by decide)
  have e5:u 5= .string t:=hT 5 (by decide)
  have HB2:=Lh (below_step HB.out hb)
  have he:=HE.out
  clear hb hT
  simp only[Kj,Jh,List.drop_succ_cons,List.drop_zero,putAll,Mq,Lq,Lk,Lj,Ly,Lx]
  rw[e2,e5]
  go_wp2
  go_ret
  exact⟨rfl,HB2.out⟩
theorem goal_index (t:ByteArray) (x1 x2 x3 x4 x5:Int) (xp:Option Addr) (xq xr:Nat) (xs:Option Addr) (xt xu:Nat) (nb xb:Nat) (us:List (List Value)) (ns:List ByteArray) (v:Value) (w:World) (hv:InK 8 w v us) (hN:NamedK goalQ us ns) (hl:us.length≤1000000) (hn:VarL w nb [.func (.func 53) #[] #[]]) (hx:VarL w xb [.string t, .int .u32 x1, .int .i64 x2, .int .i64 x3, .int .i64 x4, .int .i64 x5, .slice xp xq xr, .slice xs xt xu]):
  Calls Tryz.prog 161 #[v, .func (.func 106) #[] #[.pointer (some ⟨nb,0,none⟩), .pointer (some ⟨xb,0,none⟩)]] w fun e w'=>(∃i:Int,e= .returned (.int .i64 i)∧((0≤i∧∃k,k<us.length∧ns[k]?=some t)∨(i= -1∧∀(k:Nat) y,k<us.length→ns[k]?=some y→y≠t)))∧Below w.heap.size w w':=by
 obtain⟨a,cap,rfl,hc⟩:=hv.size
 obtain⟨n,hnn⟩: ∃n,us.length=n:=⟨_,rfl⟩
 rw[hnn]at hv hl ⊢
 have HV:=Lh hv
 have HNM:=Lh hN
 have HNB:=Lh hn
 have HXB:=Lh hx
 have HL:=Lh hnn
 clear hv hN hn hx hc hnn
 go_enter Tryz.func161,Tryz.ntmps161
 go_wp2
 go_loopw [8] (fun v8 wr=> ∃i:Nat,i≤n∧v8= .int .i64 (i:Int)∧Below w.heap.size w wr∧∀(k:Nat) y,k<i→ns[k]?=some y→y≠t) (fun v8 _=>n-(intOf v8).toNat)
 case atStart=>exact⟨0,Nat.zero_le _,rfl,Mj _ _,fun k y hk=>by omega⟩
 case round=>
  obtain⟨i,hi,rfl,hb,hW⟩:=hrel
  have HB:=Lh hb
  have HW:=Lh hW
  clear hW
  by_cases hin:i<n
  ·obtain⟨s,r,hu,hs,hr⟩:=HNM.out.row (i:=i) (by rw[HL.out];exact hin)
   obtain⟨y1,y2,y3,y4,y5,yp,yq,yr,ys,yt,yu,rfl⟩:=hr
   obtain⟨b,off,rfl,hlt,hcell⟩:=HV.out.at i _ hu
   have f0:wr.cell? ⟨b,off+i*8,none⟩=some (.string s):=(hb.cell (p:=⟨b,off+i*8,none⟩) hlt).trans (hcell 0 _ rfl)
   have f1:wr.cell? ⟨b,off+i*8+1,none⟩=some (.int .u32 y1):=(hb.cell (p:=⟨b,off+i*8+1,none⟩) hlt).trans (hcell 1 _ rfl)
   have f2:wr.cell? ⟨b,off+i*8+2,none⟩=some (.int .i64 y2):=(hb.cell (p:=⟨b,off+i*8+2,none⟩) hlt).trans (hcell 2 _ rfl)
   have f3:wr.cell? ⟨b,off+i*8+3,none⟩=some (.int .i64 y3):=(hb.cell (p:=⟨b,off+i*8+3,none⟩) hlt).trans (hcell 3 _ rfl)
   have f4:wr.cell? ⟨b,off+i*8+4,none⟩=some (.int .i64 y4):=(hb.cell (p:=⟨b,off+i*8+4,none⟩) hlt).trans (hcell 4 _ rfl)
   have f5:wr.cell? ⟨b,off+i*8+5,none⟩=some (.int .i64 y5):=(hb.cell (p:=⟨b,off+i*8+5,none⟩) hlt).trans (hcell 5 _ rfl)
   have f6:wr.cell? ⟨b,off+i*8+6,none⟩=some (.slice yp yq yr):=(hb.cell (p:=⟨b,off+i*8+6,none⟩) hlt).trans (hcell 6 _ rfl)
   have f7:wr.cell? ⟨b,off+i*8+7,none⟩=some (.slice ys yt yu):=(hb.cell (p:=⟨b,off+i*8+7,none⟩) hlt).trans (hcell 7 _ rfl)
   have HS:=Lh (goal_same s t y1 y2 y3 y4 y5 yp yq yr ys yt yu x1 x2 x3 x4 x5 xp xq xr xs xt xu nb xb wr (HNB.out.after hb) (HXB.out.after hb))
   have HSN:=Lh hs
   have hi1:IntKind.i64.wrap ((i:Int)+1)=((i+1:Nat):Int):=by rw[IntKind.wrap_i64];omega
   clear hu hs hlt hcell hb
   by_cases he:s=t
   ·subst he
    rw[decide_eq_true rfl]at HS
    have HI:Hid ((0:Int)≤(i:Int)∧i<n):=Lh ⟨by omega,hin⟩
    go_wp2_with (go_at_call 106;(with_reducible refine(HS.out).mono ?_);rintro e w2 ⟨rfl,h2⟩;have G2:=Lh (below_step HB.out h2);clear h2)
    go_ret
    exact⟨⟨_,rfl,Or.inl ⟨HI.out.1,i,HI.out.2,HSN.out⟩⟩,G2.out⟩
   ·have HNE:=Lh he
    rw[decide_eq_false he]at HS
    clear he
    go_wp2_with (go_at_call 106;(with_reducible refine(HS.out).mono ?_);rintro e w2 ⟨rfl,h2⟩;have G2:=Lh (below_step HB.out h2);clear h2)
    go_roundw
    case rel=>exact⟨i+1,by omega,by go_num,G2.out,fun k y hk hy=>by
     rcases Nat.lt_or_ge k i with hx|hx
     ·exact HW.out k y hx hy
     ·obtain rfl:k=i:=by omega
      rw[HSN.out]at hy
      injection hy with hy
      rw[←hy];exact HNE.out⟩
    case measure=>simp[intOf];omega
  ·have en:n=i:=by omega
   subst en
   clear hb
   go_wp2
   go_ret
   exact⟨⟨_,rfl,Or.inr ⟨rfl,HW.out⟩⟩,HB.out⟩
theorem goal_contains (t:ByteArray) (x1 x2 x3 x4 x5:Int) (xp:Option Addr) (xq xr:Nat) (xs:Option Addr) (xt xu:Nat) (nb xb:Nat) (us:List (List Value)) (ns:List ByteArray) (v:Value) (w:World) (hv:InK 8 w v us) (hN:NamedK goalQ us ns) (hl:us.length≤1000000) (hn:VarL w nb [.func (.func 53) #[] #[]]) (hx:VarL w xb [.string t, .int .u32 x1, .int .i64 x2, .int .i64 x3, .int .i64 x4, .int .i64 x5, .slice xp xq xr, .slice xs xt xu]):
  Calls Tryz.prog 107 #[v, .func (.func 106) #[] #[.pointer (some ⟨nb,0,none⟩), .pointer (some ⟨xb,0,none⟩)]] w (GivesQ (∃k,k<us.length∧ns[k]?=some t) w):=by
 have HI:=Lh (goal_index t x1 x2 x3 x4 x5 xp xq xr xs xt xu nb xb us ns v w hv hN hl hn hx)
 obtain⟨a1,c1,rfl,_⟩:=hv.size
 clear hv hN hn hx
 go_enter Tryz.func107,Tryz.ntmps107
 go_wp2_with (go_at_call 161;(with_reducible refine(HI.out).mono ?_);rintro e w2 ⟨⟨i,rfl,(⟨hi,hall⟩|⟨rfl,hall⟩)⟩,h2⟩<;>(have HA:=Lh hall;have G2:=Lh h2;clear hall h2))
 ·go_ret
  exact GivesQ.yes HA.out G2.out
 ·go_ret
  exact GivesQ.no (fun⟨k,h1,h2⟩=>HA.out k _ h1 h2 rfl) G2.out
theorem goal_all (P:Nat→Prop) (us:List (List Value)) (ns:List ByteArray) (v:Value) (w:World) (hv:InK 8 w v us) (hN:NamedK goalQ us ns) (hl:us.length≤1000000)
  (HR0: ∀(i:Nat) (u:List Value),us[i]?=some u→∀W,Below w.heap.size w W→Calls Tryz.prog 32 #[(.agg u.toArray)] W (GivesQ (P i) W)):
  Calls Tryz.prog 52 #[v,(.func (.func 32) #[] #[]), .func (.func 53) #[] #[]] w (GivesQ (AllN P ns us.length) w):=by
 obtain⟨nb,W0,hnb,hW0,V0,b0,z0⟩:=boxL w [.func (.func 53) #[] #[]] 95
 obtain⟨a,cap,rfl,hc⟩:=hv.size
 obtain⟨n,hnn⟩: ∃n,us.length=n:=⟨_,rfl⟩
 rw[hnn]at hv hl hc ⊢
 have HV:=Lh hv
 have HNM:=Lh hN
 have HNB:=Lh V0
 have HL:=Lh hnn
 have HRR:=Lh HR0
 have HB0:=Lh b0
 clear hv hN hnn HR0 V0 b0 z0
 go_enter Tryz.func52,Tryz.ntmps52
 go_wp2
 go_loopw [12] (fun v12 wr=> ∃i:Nat,i≤n∧v12= .int .i64 (i:Int)∧Below W0.heap.size W0 wr∧AllN P ns i) (fun v12 _=>n-(intOf v12).toNat)
 case atStart=>exact⟨0,Nat.zero_le _,rfl,Mj _ _,fun j y hj=>by omega⟩
 case round=>
  obtain⟨i,hi,rfl,hb0,hW⟩:=hrel
  have hb:=below_step HB0.out hb0
  have HB:=Lh hb
  have HB0r:=Lh hb0
  have HW:=Lh hW
  clear hW
  by_cases hin:i<n
  ·obtain⟨s,r,hu,hs,hr⟩:=HNM.out.row (i:=i) (by rw[HL.out];exact hin)
   obtain⟨y1,y2,y3,y4,y5,yp,yq,yr,ys,yt,yu,rfl⟩:=hr
   have HTK:=Lh (HV.out.take i (by rw[HL.out];exact hi))
   have HNK:=Lh (HNM.out.take i)
   have HTL:Hid ((us.take i).length=i):=Lh (by rw[List.length_take,HL.out];omega)
   obtain⟨b,off,rfl,hlt,hcell⟩:=HV.out.at i _ hu
   have f0:wr.cell? ⟨b,off+i*8,none⟩=some (.string s):=(hb.cell (p:=⟨b,off+i*8,none⟩) hlt).trans (hcell 0 _ rfl)
   have f1:wr.cell? ⟨b,off+i*8+1,none⟩=some (.int .u32 y1):=(hb.cell (p:=⟨b,off+i*8+1,none⟩) hlt).trans (hcell 1 _ rfl)
   have f2:wr.cell? ⟨b,off+i*8+2,none⟩=some (.int .i64 y2):=(hb.cell (p:=⟨b,off+i*8+2,none⟩) hlt).trans (hcell 2 _ rfl)
   have f3:wr.cell? ⟨b,off+i*8+3,none⟩=some (.int .i64 y3):=(hb.cell (p:=⟨b,off+i*8+3,none⟩) hlt).trans (hcell 3 _ rfl)
   have f4:wr.cell? ⟨b,off+i*8+4,none⟩=some (.int .i64 y4):=(hb.cell (p:=⟨b,off+i*8+4,none⟩) hlt).trans (hcell 4 _ rfl)
   have f5:wr.cell? ⟨b,off+i*8+5,none⟩=some (.int .i64 y5):=(hb.cell (p:=⟨b,off+i*8+5,none⟩) hlt).trans (hcell 5 _ rfl)
   have f6:wr.cell? ⟨b,off+i*8+6,none⟩=some (.slice yp yq yr):=(hb.cell (p:=⟨b,off+i*8+6,none⟩) hlt).trans (hcell 6 _ rfl)
   have f7:wr.cell? ⟨b,off+i*8+7,none⟩=some (.slice ys yt yu):=(hb.cell (p:=⟨b,off+i*8+7,none⟩) hlt).trans (hcell 7 _ rfl)
   have HSN:=Lh hs
   have HRI:=Lh (HRR.out i _ hu)
   have hi1:IntKind.i64.wrap ((i:Int)+1)=((i+1:Nat):Int):=by rw[IntKind.wrap_i64];omega
   obtain⟨xb,W1,hxb,hW1,V1,b1,z1⟩:=boxL wr [.string ⟨#[]⟩, .int .u32 0, .int .i64 0, .int .i64 0, .int .i64 0, .int .i64 0, .slice none 0 0, .slice none 0 0] 54
   have c0:=V1.c 0 rfl
   have q0:=V1.q 0 rfl
   have c1:=V1.c 1 rfl
   have q1:=V1.q 1 rfl
   have c2:=V1.c 2 rfl
   have q2:=V1.q 2 rfl
   have c3:=V1.c 3 rfl
   have q3:=V1.q 3 rfl
   have c4:=V1.c 4 rfl
   have q4:=V1.q 4 rfl
   have c5:=V1.c 5 rfl
   have q5:=V1.q 5 rfl
   have c6:=V1.c 6 rfl
   have q6:=V1.q 6 rfl
   have c7:=V1.c 7 rfl
   have q7:=V1.q 7 rfl
   obtain⟨W2,hW2⟩: ∃W2,putL xb 0 [.string s, .int .u32 y1, .int .i64 y2, .int .i64 y3, .int .i64 y4, .int .i64 y5, .slice yp yq yr, .slice ys yt yu] W1=W2:=⟨_,rfl⟩
   have HV2:Hid (VarL W2 xb [.string s, .int .u32 y1, .int .i64 y2, .int .i64 y3, .int .i64 y4, .int .i64 y5, .slice yp yq yr, .slice ys yt yu]):=Lh (by rw[←hW2];exact putL_var [.string s, .int .u32 y1, .int .i64 y2, .int .i64 y3, .int .i64 y4, .int .i64 y5, .slice yp yq yr, .slice ys yt yu] [] [.string ⟨#[]⟩, .int .u32 0, .int .i64 0, .int .i64 0, .int .i64 0, .int .i64 0, .slice none 0 0, .slice none 0 0] W1 V1 rfl)
   have hb2:Below wr.heap.size wr W2:=by rw[←hW2];exact putL_below _ (by omega) _ _ b1
   have HB2:=Lh (below_step hb hb2)
   have HN2:=Lh (HNB.out.after (below_step hb0 hb2))
   have HBT:=Lh hb2
   have d0:=HV2.out.c 0 rfl
   have d1:=HV2.out.c 1 rfl
   have d2:=HV2.out.c 2 rfl
   have d3:=HV2.out.c 3 rfl
   have d4:=HV2.out.c 4 rfl
   have d5:=HV2.out.c 5 rfl
   have d6:=HV2.out.c 6 rfl
   have d7:=HV2.out.c 7 rfl
   have hi4:(i:Int)≤(cap:Int):=by omega
   have HIN:=Lh hin
   simp only[putL,Ly]at hW2
   clear hu hs hlt hcell hb hb0 b1 z1 V1 hb2
   have HRC:=Lh (HRI.out W2 HB2.out)
   by_cases hP:P i
   ·have HP:=Lh hP
    clear hP
    by_cases hk: ∃k,k<i∧ns[k]?=some s
    ·have HK:=Lh hk
     clear hk
     go_wp2_with (first
      |(go_at_call 32;(with_reducible refine(HRC.out).mono ?_);rintro e w3 ⟨q,rfl,hq,h3⟩;obtain rfl:q=true:=hq.mpr HP.out;have G3:=Lh h3;clear hq h3;have HC:=Lh (goal_contains s y1 y2 y3 y4 y5 yp yq yr ys yt yu nb xb (us.take i) (ns.take i) _ w3 (HTK.out.below (below_step HB2.out G3.out)) HNK.out (by rw[HTL.out];omega) (HN2.out.after G3.out) (HV2.out.after G3.out));rw[HTL.out]at HC)
      |(go_at_call 107;(with_reducible refine(HC.out).mono ?_);rintro e w4 ⟨q,rfl,hq,h4⟩;obtain rfl:q=true:=hq.mpr (by obtain⟨k,h1,h2⟩:=HK.out;exact⟨k,h1,by rw[List.getElem?_take_of_lt h1];exact h2⟩);have G4:=Lh (below_step (below_step HB2.out G3.out) h4);clear hq h4))
     go_ret
     exact GivesQ.no (fun h=>by obtain⟨k,h1,h2⟩:=HK.out;exact(h i s HIN.out HSN.out).2 k s h1 h2 rfl) G4.out
    ·have HK:=Lh hk
     clear hk
     go_wp2_with (first
      |(go_at_call 32;(with_reducible refine(HRC.out).mono ?_);rintro e w3 ⟨q,rfl,hq,h3⟩;obtain rfl:q=true:=hq.mpr HP.out;have G3:=Lh h3;clear hq h3;have HC:=Lh (goal_contains s y1 y2 y3 y4 y5 yp yq yr ys yt yu nb xb (us.take i) (ns.take i) _ w3 (HTK.out.below (below_step HB2.out G3.out)) HNK.out (by rw[HTL.out];omega) (HN2.out.after G3.out) (HV2.out.after G3.out));rw[HTL.out]at HC)
      |(go_at_call 107;(with_reducible refine(HC.out).mono ?_);rintro e w4 ⟨q,rfl,hq,h4⟩;obtain rfl:q=false:=(by cases q with|false=>rfl|true=>exact(HK.out (by obtain⟨k,h1,h2⟩:=hq.mp rfl;exact⟨k,h1,by rw[List.getElem?_take_of_lt h1]at h2;exact h2⟩)).elim);have G4:=Lh (below_step HBT.out (below_step G3.out h4));clear hq h4))
     go_roundw
     case rel=>exact⟨i+1,by omega,by go_num,below_step HB0r.out G4.out,fun j y hj hy=>by
      rcases Nat.lt_or_ge j i with hx|hx
      ·exact HW.out j y hx hy
      ·obtain rfl:j=i:=by omega
       rw[HSN.out]at hy
       injection hy with hy
       subst hy
       exact⟨HP.out,fun k z hk hz e=>HK.out ⟨k,hk,by rw[hz,e]⟩⟩⟩
     case measure=>simp[intOf];omega
   ·have HP:=Lh hP
    clear hP
    go_wp2_with (go_at_call 32;(with_reducible refine(HRC.out).mono ?_);rintro e w3 ⟨q,rfl,hq,h3⟩;obtain rfl:q=false:=(by cases q with|false=>rfl|true=>exact(HP.out (hq.mp rfl)).elim);have G3:=Lh (below_step HB2.out h3);clear hq h3)
    go_ret
    exact GivesQ.no (fun h=>HP.out (h i s HIN.out HSN.out).1) G3.out
  ·have en:n=i:=by omega
   subst en
   clear hb hb0
   go_wp2
   go_ret
   exact GivesQ.yes HW.out HB.out
end
section
open Go.RowKit
def tkAgg (t:Tk3):Value:= .agg #[.int .i64 t.k, .string t.s, .int .u64 t.n, .int .i64 t.a, .int .i64 t.b]
theorem lwrong_any (t:Tk3) (w:World) (env:Env w) (hm:t.s.size≤4294967296):Calls Tryz.prog 125 #[tkAgg t] w (GivesQ (¬WordR t) w):=by
 obtain⟨k,s,n,a,b⟩:=t
 simp only[tkAgg]at hm ⊢
 obtain⟨W0,hW0⟩: ∃W,w.alloc (.cells #[.int .i64 k, .string s, .int .u64 n, .int .i64 a, .int .i64 b] 89)=W:=⟨_,rfl⟩
 have V0:Var5 W0 w.heap.size (.int .i64 k) (.string s) (.int .u64 n) (.int .i64 a) (.int .i64 b):=by rw[←hW0];exact Var5.fresh _ _ _ _ _ _ _ _ rfl
 have g0:Below w.heap.size w W0:=by rw[←hW0];exact(Mj _ _).alloc (Mz _) _
 have HG:=Lh g0
 have HRT:=Lh (pright_any k s n a b W0 (env.step g0) hm)
 obtain⟨c0,c1,c2,c3,c4,_,_⟩:=V0
 clear g0 env
 by_cases h1:k<1
 ·have HN:Hid (¬WordR ⟨k,s,n,a,b⟩):=Lh (fun h=>by have:=h.lo;simp only at this;omega)
  go_enter Tryz.func125,Tryz.ntmps125
  go_wp2
  go_ret
  exact GivesQ.yes HN.out HG.out
 by_cases h6:6<k
 ·have HN:Hid (¬WordR ⟨k,s,n,a,b⟩):=Lh (fun h=>by have:=h.hi;simp only at this;omega)
  go_enter Tryz.func125,Tryz.ntmps125
  go_wp2
  go_ret
  exact GivesQ.yes HN.out HG.out
 by_cases hr:RightT k s n
 ·have HN:Hid (¬¬WordR ⟨k,s,n,a,b⟩):=Lh (fun h=>h ⟨by simp only;omega,by simp only;omega,hr⟩)
  have HR:=Lh hr
  clear hr
  go_enter Tryz.func125,Tryz.ntmps125
  go_wp2_with (go_at_call 175;(with_reducible refine(HRT.out).mono ?_);rintro e w2 ⟨q,rfl,hq,h2⟩;obtain rfl:q=true:=hq.mpr HR.out;have G2:=Lh (below_step HG.out h2);clear hq h2)
  go_ret
  exact GivesQ.no HN.out G2.out
 ·have HN:Hid (¬WordR ⟨k,s,n,a,b⟩):=Lh (fun h=>hr h.right)
  have HR:=Lh hr
  clear hr
  go_enter Tryz.func125,Tryz.ntmps125
  go_wp2_with (go_at_call 175;(with_reducible refine(HRT.out).mono ?_);rintro e w2 ⟨q,rfl,hq,h2⟩;obtain rfl:q=false:=(by cases q with|false=>rfl|true=>exact(HR.out (hq.mp rfl)).elim);have G2:=Lh (below_step HG.out h2);clear hq h2)
  go_ret
  exact GivesQ.yes HN.out G2.out
theorem lindex_any (S:Nat→Prop) (v:Value) (l:List Tk3) (w:World) (env:Env w) (h:WordsIs w S v l) (hl:l.length≤1000000000) (hm: ∀t∈l,t.s.size≤4294967296):
  Calls Tryz.prog 174 #[v, .func (.func 125) #[] #[]] w fun e w'=>(∃i:Int,e= .returned (.int .i64 i)∧((0≤i∧¬∀t∈l,WordR t)∨(i= -1∧∀t∈l,WordR t)))∧Below w.heap.size w w':=by
 obtain⟨n,hn⟩: ∃n,l.length=n:=⟨_,rfl⟩
 obtain⟨a1,c1,rfl,k1,hc1⟩:=h
 have H1:=Lh hc1
 have HN:=Lh hn
 have HE:=Lh env
 have HM:=Lh hm
 rw[hn]at hl k1 ⊢
 clear hc1 hn env hm
 go_enter Tryz.func174,Tryz.ntmps174
 go_wp2
 go_loopw [8] (fun v8 wr=> ∃i:Nat,i≤n∧v8= .int .i64 (i:Int)∧Below w.heap.size w wr∧∀j,j<i→WordR (l.getD j {})) (fun v8 _=>n-(intOf v8).toNat)
 case atStart=>exact⟨0,Nat.zero_le _,rfl,Mj _ _,fun j hj=>by omega⟩
 case round=>
  obtain⟨i,hi,rfl,hb,hW⟩:=hrel
  have HB:=Lh hb
  have HW:=Lh hW
  clear hW
  by_cases hin:i<n
  ·obtain⟨b1,o1,rfl,s1,e0,e1,e2,e3,e4⟩:=H1.out i (by rw[HN.out];exact hin)
   have hlt:=World.block_lt_of_cell? _ _ e0
   have f0:=(hb.cell (p:=⟨b1,o1+i*5,none⟩) hlt).trans e0
   have f1:=(hb.cell (p:=⟨b1,o1+i*5+1,none⟩) hlt).trans e1
   have f2:=(hb.cell (p:=⟨b1,o1+i*5+2,none⟩) hlt).trans e2
   have f3:=(hb.cell (p:=⟨b1,o1+i*5+3,none⟩) hlt).trans e3
   have f4:=(hb.cell (p:=⟨b1,o1+i*5+4,none⟩) hlt).trans e4
   have hmem:l.getD i {} ∈l:=by
    rw[Mk,Kh (by rw[HN.out];exact hin)]
    exact List.getElem_mem _
   have HMEM:=Lh hmem
   have HT:=Lh (lwrong_any (l.getD i {}) _ (HE.out.step hb) (HM.out _ hmem))
   have hi1:IntKind.i64.wrap ((i:Int)+1)=((i+1:Nat):Int):=by rw[IntKind.wrap_i64];omega
   obtain⟨t,ht⟩: ∃t,l.getD i {} =t:=⟨_,rfl⟩
   have HTT:=Lh ht
   rw[ht]at f0 f1 f2 f3 f4 HT HMEM
   obtain⟨k,s,m,x,y⟩:=t
   simp only[tkAgg]at f0 f1 f2 f3 f4 HT
   clear e0 e1 e2 e3 e4 hmem ht hb s1 hlt
   by_cases hw:WordR ⟨k,s,m,x,y⟩
   ·have HWW:=Lh hw
    clear hw
    go_wp2_with (go_at_call 125;(with_reducible refine(HT.out).mono ?_);rintro e w2 ⟨q,rfl,hq,h2⟩;obtain rfl:q=false:=(by cases q with|false=>rfl|true=>exact(hq.mp rfl HWW.out).elim);have G2:=Lh (below_step HB.out h2);clear hq h2)
    go_roundw
    case rel=>exact⟨i+1,by omega,by go_num,G2.out,fun j hj=>by
     rcases Nat.lt_or_ge j i with hx|hx
     ·exact HW.out j hx
     ·obtain rfl:j=i:=by omega
      rw[HTT.out];exact HWW.out⟩
    case measure=>simp[intOf];omega
   ·have HWW:=Lh hw
    have HI:Hid ((0:Int)≤(i:Int)):=Lh (by omega)
    clear hw
    go_wp2_with (go_at_call 125;(with_reducible refine(HT.out).mono ?_);rintro e w2 ⟨q,rfl,hq,h2⟩;obtain rfl:q=true:=hq.mpr HWW.out;have G2:=Lh (below_step HB.out h2);clear hq h2)
    go_ret
    exact⟨⟨_,rfl,Or.inl ⟨HI.out,fun hall=>HWW.out (hall _ HMEM.out)⟩⟩,G2.out⟩
  ·have en:n=i:=by omega
   subst en
   clear hb
   go_wp2
   go_ret
   exact⟨⟨_,rfl,Or.inr ⟨rfl,fun t ht=>by
    obtain⟨j,hj,rfl⟩:=List.getElem_of_mem ht
    have:=HW.out j (by rw[←HN.out];exact hj)
    rw[Mk,Kh hj]at this
    exact this⟩⟩,HB.out⟩
theorem lcontains_any (S:Nat→Prop) (v:Value) (l:List Tk3) (w:World) (env:Env w) (h:WordsIs w S v l) (hl:l.length≤1000000000) (hm: ∀t∈l,t.s.size≤4294967296):
  Calls Tryz.prog 124 #[v, .func (.func 125) #[] #[]] w (GivesQ (¬∀t∈l,WordR t) w):=by
 have HI:=Lh (lindex_any S v l w env h hl hm)
 obtain⟨a1,c1,rfl⟩:=h.size
 obtain⟨n,hn⟩: ∃n,l.length=n:=⟨_,rfl⟩
 rw[hn]at HI ⊢
 clear h hm env hn
 go_enter Tryz.func124,Tryz.ntmps124
 go_wp2_with (go_at_call 174;(with_reducible refine(HI.out).mono ?_);rintro e w2 ⟨⟨i,rfl,(⟨hi,hall⟩|⟨rfl,hall⟩)⟩,h2⟩<;>(have HA:=Lh hall;have G2:=Lh h2;clear hall h2))
 ·go_ret
  exact GivesQ.yes HA.out G2.out
 ·go_ret
  exact GivesQ.no (fun h=>h HA.out) G2.out
def ItemR (x:It):Prop:=NameL (runesOf (nums x.name))∧x.words.length≤6∧(∀t∈x.words,WordR t)∧(x.block=true∨x.kids= [])
theorem lritem_any (S:Nat→Prop) (D:Nat) (nm:ByteArray) (wd:List Tk3) (bk:Bool) (kd:List It) (pa pb:Int) (wv kv:Value) (w:World) (env:Env w) (hw:WordsIs w S wv wd) (hk:ItemsIs D w S kv kd) (hl:wd.length≤1000000000) (hlk:kd.length≤1000000000) (hn:nm.size≤4294967296) (hm: ∀t∈wd,t.s.size≤4294967296):
  Calls Tryz.prog 76 #[.agg #[.string nm,wv, .bool bk,kv, .int .i64 pa, .int .i64 pb]] w (GivesQ (ItemR (.mk nm wd bk kd pa pb)) w):=by
 obtain⟨wa,wc,rfl⟩:=hw.size
 obtain⟨ka,kc,rfl⟩:=hk.size
 obtain⟨W0,hW0⟩: ∃W,w.alloc (.cells #[.string nm, .slice wa wd.length wc, .bool bk, .slice ka kd.length kc, .int .i64 pa, .int .i64 pb] 47)=W:=⟨_,rfl⟩
 have V0:Var6 W0 w.heap.size (.string nm) (.slice wa wd.length wc) (.bool bk) (.slice ka kd.length kc) (.int .i64 pa) (.int .i64 pb):=by rw[←hW0];exact Var6.fresh _ _ _ _ _ _ _ _ _ rfl
 have g0:Below w.heap.size w W0:=by rw[←hW0];exact(Mj _ _).alloc (Mz _) _
 have HG:=Lh g0
 have HV:=Lh V0
 have HNA:=Lh (tname_any nm W0 (env.step g0) hn)
 have HWS:Hid (∀W,Below w.heap.size w W→WordsIs W S (.slice wa wd.length wc) wd):=Lh (fun W hb=>by
  obtain⟨a,c,e,hc,hcell⟩:=hw
  refine⟨a,c,e,hc,fun i hi=>?_⟩
  obtain⟨b,off,rfl,hs,q0,q1,q2,q3,q4⟩:=hcell i hi
  have hlt:=World.block_lt_of_cell? _ _ q0
  exact⟨b,off,rfl,hs,(hb.cell (p:=⟨b,off+i*5,none⟩) hlt).trans q0,(hb.cell (p:=⟨b,off+i*5+1,none⟩) hlt).trans q1,(hb.cell (p:=⟨b,off+i*5+2,none⟩) hlt).trans q2,(hb.cell (p:=⟨b,off+i*5+3,none⟩) hlt).trans q3,(hb.cell (p:=⟨b,off+i*5+4,none⟩) hlt).trans q4⟩)
 have HCT:Hid (∀W,Below w.heap.size w W→Calls Tryz.prog 124 #[.slice wa wd.length wc, .func (.func 125) #[] #[]] W (GivesQ (¬∀t∈wd,WordR t) W)):=
  Lh (fun W hb=>lcontains_any S _ wd W (env.step hb) (HWS.out W hb) hl hm)
 obtain⟨c0,c1,c2,c3,_,_,_,_⟩:=V0
 have hIR:ItemR (.mk nm wd bk kd pa pb)↔NameL (runesOf (nums nm))∧wd.length≤6∧(∀t∈wd,WordR t)∧(bk=true∨kd= []):=Iff.rfl
 have HIR:=Lh hIR
 have hkl:kd= []↔kd.length=0:=by rw[List.length_eq_zero_iff]
 have HKL:=Lh hkl
 obtain⟨n,hn2⟩: ∃n,wd.length=n:=⟨_,rfl⟩
 obtain⟨m,hm2⟩: ∃n,kd.length=n:=⟨_,rfl⟩
 rw[hn2]at HIR c1 hl HCT HV hW0 ⊢
 rw[hm2]at HKL c3 hlk HV hW0 ⊢
 clear hIR hkl g0 env hw hk hn2 hm2 hm HWS hn
 by_cases hN:NameL (runesOf (nums nm))
 ·have HN:=Lh hN
  clear hN
  by_cases hl6:n≤6
  ·have hl6':(n:Int)≤6:=by omega
   by_cases hall: ∀t∈wd,WordR t
   ·have HA:=Lh hall
    clear hall
    cases bk with
    |true=>
     have HP:=Lh (HIR.out.mpr ⟨HN.out,hl6,HA.out,Or.inl rfl⟩)
     go_enter Tryz.func76,Tryz.ntmps76
     go_wp2_with (first
      |(go_at_call 62;(with_reducible refine(HNA.out).mono ?_);rintro e w2 ⟨q,rfl,hq,h2⟩;obtain rfl:q=true:=hq.mpr HN.out;have G2:=Lh (below_step HG.out h2);have V2:=Lh (HV.out.after h2);have d1:=V2.out.c1;have d2:=V2.out.c2;have d3:=V2.out.c3;clear hq h2)
      |(go_at_call 124;(with_reducible refine(HCT.out _ G2.out).mono ?_);rintro e w3 ⟨q,rfl,hq,h2⟩;obtain rfl:q=false:=(by cases q with|false=>rfl|true=>exact(hq.mp rfl HA.out).elim);have G3:=Lh (below_step G2.out h2);have V3:=Lh (V2.out.after h2);have k2:=V3.out.c2;have k3:=V3.out.c3;clear hq h2))
     go_ret
     exact GivesQ.yes HP.out G3.out
    |false=>
     by_cases hk0:m=0
     ·have HP:=Lh (HIR.out.mpr ⟨HN.out,hl6,HA.out,Or.inr (HKL.out.mpr hk0)⟩)
      subst hk0
      go_enter Tryz.func76,Tryz.ntmps76
      go_wp2_with (first
       |(go_at_call 62;(with_reducible refine(HNA.out).mono ?_);rintro e w2 ⟨q,rfl,hq,h2⟩;obtain rfl:q=true:=hq.mpr HN.out;have G2:=Lh (below_step HG.out h2);have V2:=Lh (HV.out.after h2);have d1:=V2.out.c1;have d2:=V2.out.c2;have d3:=V2.out.c3;clear hq h2)
       |(go_at_call 124;(with_reducible refine(HCT.out _ G2.out).mono ?_);rintro e w3 ⟨q,rfl,hq,h2⟩;obtain rfl:q=false:=(by cases q with|false=>rfl|true=>exact(hq.mp rfl HA.out).elim);have G3:=Lh (below_step G2.out h2);have V3:=Lh (V2.out.after h2);have k2:=V3.out.c2;have k3:=V3.out.c3;clear hq h2))
      go_ret
      exact GivesQ.yes HP.out G3.out
     ·have HP:Hid (¬ItemR (.mk nm wd false kd pa pb)):=Lh (fun h=>by
       rcases(HIR.out.mp h).2.2.2 with h|h
       ·cases h
       ·exact hk0 (HKL.out.mp h))
      have hkb:((m:Int)==0)=false:=by simp;omega
      go_enter Tryz.func76,Tryz.ntmps76
      go_wp2_with (first
       |(go_at_call 62;(with_reducible refine(HNA.out).mono ?_);rintro e w2 ⟨q,rfl,hq,h2⟩;obtain rfl:q=true:=hq.mpr HN.out;have G2:=Lh (below_step HG.out h2);have V2:=Lh (HV.out.after h2);have d1:=V2.out.c1;have d2:=V2.out.c2;have d3:=V2.out.c3;clear hq h2)
       |(go_at_call 124;(with_reducible refine(HCT.out _ G2.out).mono ?_);rintro e w3 ⟨q,rfl,hq,h2⟩;obtain rfl:q=false:=(by cases q with|false=>rfl|true=>exact(hq.mp rfl HA.out).elim);have G3:=Lh (below_step G2.out h2);have V3:=Lh (V2.out.after h2);have k2:=V3.out.c2;have k3:=V3.out.c3;clear hq h2))
      go_ret
      exact GivesQ.no HP.out G3.out
   ·have HA:=Lh hall
    have HP:=Lh (fun h=>hall (HIR.out.mp h).2.2.1)
    clear hall
    go_enter Tryz.func76,Tryz.ntmps76
    go_wp2_with (first
     |(go_at_call 62;(with_reducible refine(HNA.out).mono ?_);rintro e w2 ⟨q,rfl,hq,h2⟩;obtain rfl:q=true:=hq.mpr HN.out;have G2:=Lh (below_step HG.out h2);have V2:=Lh (HV.out.after h2);have d1:=V2.out.c1;have d2:=V2.out.c2;have d3:=V2.out.c3;clear hq h2)
     |(go_at_call 124;(with_reducible refine(HCT.out _ G2.out).mono ?_);rintro e w3 ⟨q,rfl,hq,h2⟩;obtain rfl:q=true:=hq.mpr HA.out;have G3:=Lh (below_step G2.out h2);have V3:=Lh (V2.out.after h2);have k2:=V3.out.c2;have k3:=V3.out.c3;clear hq h2))
    go_ret
    exact GivesQ.no HP.out G3.out
  ·have hl6': ¬(n:Int)≤6:=by omega
   have HP:=Lh (fun h=>hl6 (HIR.out.mp h).2.1)
   go_enter Tryz.func76,Tryz.ntmps76
   go_wp2_with (go_at_call 62;(with_reducible refine(HNA.out).mono ?_);rintro e w2 ⟨q,rfl,hq,h2⟩;obtain rfl:q=true:=hq.mpr HN.out;have G2:=Lh (below_step HG.out h2);have V2:=Lh (HV.out.after h2);have d1:=V2.out.c1;have d2:=V2.out.c2;have d3:=V2.out.c3;clear hq h2)
   go_ret
   exact GivesQ.no HP.out G2.out
 ·have HN:=Lh hN
  have HP:=Lh (fun h=>hN (HIR.out.mp h).1)
  clear hN
  go_enter Tryz.func76,Tryz.ntmps76
  go_wp2_with (go_at_call 62;(with_reducible refine(HNA.out).mono ?_);rintro e w2 ⟨q,rfl,hq,h2⟩;obtain rfl:q=false:=(by cases q with|false=>rfl|true=>exact(HN.out (hq.mp rfl)).elim);have G2:=Lh (below_step HG.out h2);have V2:=Lh (HV.out.after h2);have d1:=V2.out.c1;clear hq h2)
  go_ret
  exact GivesQ.no HP.out G2.out
end
section
open Go.RowKit Go.Shelf
def LightX (x:It):Prop:=x.name.size≤2000∧x.words.length≤20∧∀t∈x.words,t.s.size≤2000∧0≤t.n∧t.n≤18446744073709551615
def LightL:List It→Prop
 | []=>True
 | .mk n w k kids a b::l=>LightX (.mk n w k kids a b)∧LightL kids∧LightL l
theorem WordsIs.below {w w':World} {S:Nat→Prop} {v:Value} {l:List Tk3} (h:WordsIs w S v l) (hb:Below w.heap.size w w'):WordsIs w' S v l:=by
 obtain⟨a,c,e,hc,hcell⟩:=h
 refine⟨a,c,e,hc,fun i hi=>?_⟩
 obtain⟨b,off,rfl,hs,q0,q1,q2,q3,q4⟩:=hcell i hi
 have hlt:=World.block_lt_of_cell? _ _ q0
 exact⟨b,off,rfl,hs,(hb.cell (p:=⟨b,off+i*5,none⟩) hlt).trans q0,(hb.cell (p:=⟨b,off+i*5+1,none⟩) hlt).trans q1,(hb.cell (p:=⟨b,off+i*5+2,none⟩) hlt).trans q2,(hb.cell (p:=⟨b,off+i*5+3,none⟩) hlt).trans q3,(hb.cell (p:=⟨b,off+i*5+4,none⟩) hlt).trans q4⟩
theorem LightL.flat: ∀ {L:List It} (d:Nat),LightL L→∀y∈flatL d L,LightX y.2
 | [],d,_,y,hy=>by rw[flatL]at hy;cases hy
 | .mk n w k kids a b::l,d,h,y,hy=>by
  rw[LightL]at h
  rw[flatL]at hy
  rcases List.mem_cons.mp hy with rfl|hy
  ·exact h.1
  ·rcases List.mem_append.mp hy with hy|hy
   ·exact LightL.flat _ h.2.1 y hy
   ·exact LightL.flat _ h.2.2 y hy
theorem kids_few: ∀ {L:List It} (d:Nat),∀y∈flatL d L,y.2.kids.length≤cntL L
 | [],d,y,hy=>by rw[flatL]at hy;cases hy
 | .mk n w k kids a b::l,d,y,hy=>by
  rw[flatL]at hy
  rw[cntL]
  rcases List.mem_cons.mp hy with rfl|hy
  ·have:=len_cnt kids
   simp only[It.kids];omega
  ·rcases List.mem_append.mp hy with hy|hy
   ·have:=kids_few _ y hy;omega
   ·have:=kids_few _ y hy;omega
theorem each_flat: ∀(L:List It) (d:Nat),(∀y∈flatL d L,ItemR y.2)↔EachR L
 | [],d=>by simp[flatL,EachR]
 | .mk n w k kids a b::l,d=>by
  rw[flatL,EachR,←each_flat kids (d+1),←each_flat l d]
  constructor
  ·intro h
   have h1:=h _ (Jz ..)
   exact⟨h1.1,h1.2.1,h1.2.2.2,h1.2.2.1,fun y hy=>h y (Jy _ (List.mem_append_left _ hy)),fun y hy=>h y (Jy _ (List.mem_append_right _ hy))⟩
  ·rintro⟨h1,h2,h3,h4,h5,h6⟩ y hy
   rcases List.mem_cons.mp hy with rfl|hy
   ·exact⟨h1,h2,h4,h3⟩
   ·rcases List.mem_append.mp hy with hy|hy
    ·exact h5 y hy
    ·exact h6 y hy
theorem deep_flat (m:Nat): ∀(L:List It) (d:Nat),1≤d→((∀y∈flatL d L,y.1≤m)↔(L= []∨d+depL L≤m+1))
 | [],d,_=>by simp[flatL]
 | .mk n w k kids a b::l,d,hd=>by
  have i1:=deep_flat m kids (d+1) (by omega)
  have i2:=deep_flat m l d hd
  have h1:kids= []→depL kids=0:=fun e=>by rw[e];simp[depL]
  have h2:l= []→depL l=0:=fun e=>by rw[e];simp[depL]
  rw[flatL,depL]
  constructor
  ·intro h
   have q:=h _ (Jz ..)
   simp only at q
   have q1:=i1.mp (fun y hy=>h y (Jy _ (List.mem_append_left _ hy)))
   have q2:=i2.mp (fun y hy=>h y (Jy _ (List.mem_append_right _ hy)))
   right
   rcases q1 with q1|q1<;>rcases q2 with q2|q2
   ·have:=h1 q1;have:=h2 q2;omega
   ·have:=h1 q1;omega
   ·have:=h2 q2;omega
   ·omega
  ·intro h y hy
   rcases h with h|h
   ·cases h
   rcases List.mem_cons.mp hy with rfl|hy
   ·simp only;omega
   ·rcases List.mem_append.mp hy with hy|hy
    ·exact i1.mpr (by right;omega) y hy
    ·exact i2.mpr (by right;omega) y hy
theorem right_flat (L:List It):RightL L↔(∀y∈flatL 1 L,y.1≤4∧ItemR y.2)∧cntL L≤300:=by
 constructor
 ·intro h
  have h1:=(deep_flat 4 L 1 (Mz _)).mpr (by right;have:=h.deep;omega)
  have h2:=(each_flat L 1).mpr h.each
  exact⟨fun y hy=>⟨h1 y hy,h2 y hy⟩,h.many⟩
 ·rintro⟨h1,h2⟩
  have q:=(deep_flat 4 L 1 (Mz _)).mp (fun y hy=>(h1 y hy).1)
  refine⟨?_,h2,(each_flat L 1).mp (fun y hy=>(h1 y hy).2)⟩
  rcases q with q|q
  ·rw[q];simp[depL]
  ·omega
theorem fresh6 (V:World) (x0 x1 x2 x3 x4 x5:Value): ∃W0 W1,V.alloc (.cells #[.string ⟨#[]⟩, .slice none 0 0, .bool false, .slice none 0 0, .int .i64 0, .int .i64 0] 47)=W0∧put6 W0 V.heap.size x0 x1 x2 x3 x4 x5=W1∧
  Var6 W0 V.heap.size (.string ⟨#[]⟩) (.slice none 0 0) (.bool false) (.slice none 0 0) (.int .i64 0) (.int .i64 0)∧Var6 W1 V.heap.size x0 x1 x2 x3 x4 x5∧Below V.heap.size V W1:=by
 refine⟨_,_,rfl,rfl,Var6.fresh _ _ _ _ _ _ _ _ _ rfl,(Var6.fresh _ _ _ _ _ _ _ _ _ rfl).put _ _ _ _ _ _,below_put6 ((Mj _ _).alloc (Mz _) _) (Mz _) _ _ _ _ _ _⟩
theorem Var6.putObj {W:World} {p:Nat} {x0 x1 x2 x3 x4 x5:Value} (h:Var6 W p x0 x1 x2 x3 x4 x5) (l:Nat) (o:Obj) (hl:p≠l):Var6 (W.putObj l o) p x0 x1 x2 x3 x4 x5:=h.stay (World.putObj_heap_other hl) (by rw[World.putObj_size];exact Mz _)
structure RtI (w0:World) (q:Nat) (b:Bool) (x:Int) (v:Value) (V:World):Prop where
 bel:Below w0.heap.size w0 V
 res:V.cell? ⟨q,0,none⟩=some (.bool b)
 fr:V.frozen? ⟨q,0,none⟩=false
 val:V.cell? ⟨q+1,0,none⟩=some (.int .i64 x)
 fz:V.frozen? ⟨q+1,0,none⟩=false
 box:V.cell? ⟨q+2,0,none⟩=some v
theorem RtI.lt {w0 V:World} {q:Nat} {b:Bool} {x:Int} {v:Value} (h:RtI w0 q b x v V):q+2<V.heap.size:=World.block_lt_of_cell? _ _ h.box
theorem RtI.stay {w0 V V':World} {q:Nat} {b:Bool} {x:Int} {v:Value} (h:RtI w0 q b x v V) (hb:Below w0.heap.size w0 V') (hs: ∀i,q≤i→i≤q+2→V'.heap[i]?=V.heap[i]?):RtI w0 q b x v V':=
 ⟨hb,(Kk (a:=⟨q,0,none⟩) (hs q (by omega) (by omega))).trans h.res,(World.frozen?_of_block (a:=⟨q,0,none⟩) (hs q (by omega) (by omega))).trans h.fr,(Kk (a:=⟨q+1,0,none⟩) (hs (q+1) (by omega) (by omega))).trans h.val,
  (World.frozen?_of_block (a:=⟨q+1,0,none⟩) (hs (q+1) (by omega) (by omega))).trans h.fz,(Kk (a:=⟨q+2,0,none⟩) (hs (q+2) (by omega) (by omega))).trans h.box⟩
theorem RtI.below {w0 V V':World} {q:Nat} {b:Bool} {x:Int} {v:Value} (h:RtI w0 q b x v V) (hb:Below V.heap.size V V'):RtI w0 q b x v V':=by
 have:=h.lt
 exact h.stay (h.bel.trans (hb.mono h.bel.size)) (fun i _ hi=>hb.block i (by omega))
theorem RtI.set {w0 V:World} {q:Nat} {b:Bool} {x:Int} {v:Value} (h:RtI w0 q b x v V) (hq:w0.heap.size≤q) (y:Int):RtI w0 q b y v (V.setCell ⟨q+1,0,none⟩ (.int .i64 y)):=
 ⟨h.bel.setCell (p:=⟨q+1,0,none⟩) (by show _≤q+1;omega) _,(Kk (a:=⟨q,0,none⟩) (sset_else _ _ _ _ _ (by show q≠q+1;omega))).trans h.res,(by rw[World.frozen?_setCell];exact h.fr),World.cell?_setCell_same' _ _ _ (by rw[h.val];rfl),(by rw[World.frozen?_setCell];exact h.fz),
  (Kk (a:=⟨q+2,0,none⟩) (sset_else _ _ _ _ _ (by show q+2≠q+1;omega))).trans h.box⟩
theorem RtI.tell {w0 V:World} {q:Nat} {b:Bool} {x:Int} {v:Value} (h:RtI w0 q b x v V) (hq:w0.heap.size≤q) (c:Bool):RtI w0 q c x v (V.setCell ⟨q,0,none⟩ (.bool c)):=
 ⟨h.bel.setCell (p:=⟨q,0,none⟩) hq _,World.cell?_setCell_same' _ _ _ (by rw[h.res];rfl),(by rw[World.frozen?_setCell];exact h.fr),(Kk (a:=⟨q+1,0,none⟩) (sset_else _ _ _ _ _ (by show q+1≠q;omega))).trans h.val,(by rw[World.frozen?_setCell];exact h.fz),
  (Kk (a:=⟨q+2,0,none⟩) (sset_else _ _ _ _ _ (by show q+2≠q;omega))).trans h.box⟩
theorem RtI.putObj {w0 V:World} {q:Nat} {b:Bool} {x:Int} {v:Value} (h:RtI w0 q b x v V) (l:Nat) (o:Obj) (hl:w0.heap.size≤l) (hq:q+2<l):RtI w0 q b x v (V.putObj l o):=
 h.stay (below_putObj h.bel hl o) (fun i _ hi=>World.putObj_heap_other (by omega))
section
attribute [local go_sem] Oper.semAt_some
theorem lright_any (D:Nat) (S:Nat→Prop) (v:Value) (L:List It) (w:World) (env:Env w) (h:ItemsIs D w S v L) (hS: ∀b,S b→b<w.heap.size) (hm:cntL L≤1000000) (hd:depL L≤900000) (hl:LightL L):
  Calls Tryz.prog 38 #[v] w (GivesQ (RightL L) w):=by
 have hC0: ∀o1 o2,RtI w w.heap.size false 0 v (((((w.alloc (.cells #[.bool false] 4)).alloc (.cells #[.int .i64 0] 3)).alloc (.cells #[v] 34)).alloc o1).alloc o2):=fun o1 o2=>by
  have h0:RtI w w.heap.size false 0 v (((w.alloc (.cells #[.bool false] 4)).alloc (.cells #[.int .i64 0] 3)).alloc (.cells #[v] 34)):=
   ⟨below_more (below_more (below_more (Mj w.heap.size w) _) _) _,by simp[go_sem],by simp[go_sem],by simp[go_sem],by simp[go_sem],by simp[go_sem]⟩
  exact(h0.below ((Mj _ _).alloc (Mz _) o1)).below ((Mj _ _).alloc (Mz _) o2)
 have HR:=Lh (litems_range w S D v L (w.heap.size+2) (3-1) h hS (by omega) hd)
 obtain⟨a,cap,rfl⟩:=h.size
 have HC:=Lh (fun W=>litems_same a L.length cap W)
 have HFL:=Lh (right_flat L)
 have HLT:=Lh (LightL.flat 1 hl)
 have HKF:=Lh (fun y (hy:y∈flatL 1 L)=>Nat.le_trans (kids_few 1 y hy) hm)
 have HLN:=Lh (flatL_len L 1)
 have HE:=Lh env
 have HS:=Lh hS
 obtain⟨m,hm2⟩: ∃m,cntL L=m:=⟨_,rfl⟩
 obtain⟨len,hlen⟩: ∃n,L.length=n:=⟨_,rfl⟩
 rw[hm2]at HR hm HFL HLN
 rw[hlen]at HR HC hC0 ⊢
 have HC0:=Lh hC0
 clear h hm2 hS hlen hC0 hl env
 refine(callsIn_wide (n:=3)).1 ?_
 refine callsIn_of_wp_marks Tryz.func38 rfl trivial ?_ rfl
 simp only[Tryz.ntmps38,List.size_toArray,List.length_cons,List.length_nil,Lx,Nat.reduceSub,Array.replicate_succ,Array.replicate_zero,List.push_toArray,List.append_toArray,List.nil_append,List.cons_append]
 gi_wp2_with (refine⟨trivial,?_⟩;gi_at_call 75;refine(callsIn_wide.2 (HC.out _)).mono ?_;rintro e w1 ⟨rfl,rfl⟩)
 refine wp_rangeT (n:=3) (by decide) (gf:=122) (lb:= #[.pointer (some ⟨w.heap.size+2,0,none⟩)]) rfl (enters_of Tryz.func122 (by kernel_rfl) rfl) rfl
  (G:=FlAt w S (flatL 1 L)) (m:=m) (Kc:=fun V=>Below w.heap.size w V∧V.cell? ⟨w.heap.size+2,0,none⟩=some (.slice a len cap)) HR.out
  (fun k V=>RtI w w.heap.size false (k:Int) (.slice a len cap) V∧k≤300∧∀j y,j<k→(flatL 1 L)[j]?=some y→y.1≤4∧ItemR y.2) (fun V=>(∃x,RtI w w.heap.size false x (.slice a len cap) V)∧¬RightL L)
  (fun k V h=>⟨h.1.bel,h.1.box⟩) (fun k V V' h hb=>⟨h.1.below hb,h.2⟩) (fun k V o _ _ h=>⟨h.1.putObj _ _ (by simp<;>omega) (by simp<;>omega),h.2⟩) (fun V o _ _ h=>⟨h.1.imp (fun x hx=>hx.putObj _ _ (by simp<;>omega) (by simp<;>omega)),h.2⟩) ?h0
  (fun p q=> { tmps:= #[.slice a len cap,undef, .pointer (some ⟨w.heap.size,0,none⟩), .pointer (some ⟨w.heap.size+1,0,none⟩), .int .i64 (p.d:Int), .pointer (some ⟨q,0,none⟩), .slice a len cap, .func (.func 122) #[] #[.pointer (some ⟨w.heap.size+2,0,none⟩)], .int .i64 (p.d:Int),p.item,undef,undef,undef,undef,undef,undef,undef,undef,undef,undef,undef,undef,undef],defers:= [] })
  (fun p q V=>w.heap.size+5≤q∧Var6 V q (.string p.x.name) p.wv (.bool p.x.block) p.kv (.int .i64 p.x.a) (.int .i64 p.x.b)) ?hap ?assign ?body ?done ?stop
 case h0=>
  intro o1 o2
  exact⟨HC0.out o1 o2,by omega,fun j y hj=>by omega⟩
 case hap=>
  rintro p q V o ⟨h1,h2⟩
  exact⟨h1,h2.putObj _ _ (by simp<;>omega)⟩
 case assign=>
  intro k p V K hG hs hK
  obtain⟨wa,wc,hwv⟩:=hG.ws.size
  obtain⟨D2,hks⟩:=hG.ks
  obtain⟨ka,kc,hkv⟩:=hks.size
  obtain⟨d,⟨nm,wd,bk,kd,pa,pb⟩,wv,kv⟩:=p
  simp only at hwv hkv
  subst hwv hkv
  simp only[It.words,It.kids,It.name,It.block,It.a,It.b]at hK
  obtain⟨wl,hwl⟩: ∃n,wd.length=n:=⟨_,rfl⟩
  obtain⟨kl,hkl⟩: ∃n,kd.length=n:=⟨_,rfl⟩
  simp only[Fl.enc,Fl.item,It.words,It.kids,It.name,It.block,It.a,It.b]at hK ⊢
  rw[hwl,hkl]at hK ⊢
  obtain⟨W0,W1,hW0,hW1,V0,V1,g1⟩:=fresh6 V (.string nm) (.slice wa wl wc) (.bool bk) (.slice ka kl kc) (.int .i64 pa) (.int .i64 pb)
  have h1:=hK V.heap.size W1 g1 ⟨by simp at hs;omega,V1⟩
  obtain⟨y0,y1,y2,y3,y4,y5,yq,ys⟩:=V0
  have z0:=yq 0
  have z1:=yq 1
  have z2:=yq 2
  have z3:=yq 3
  have z4:=yq 4
  have z5:=yq 5
  unfold put6 at hW1
  clear yq ys hK V1 g1 hG hks hwl hkl
  gi_wp2
  simpa using h1
 case body=>
  rintro k p q V ⟨hi,hk3,hall⟩ hk hG ⟨hq5,hV6⟩ hs _ _
  have hmem:(p.d,p.x)∈flatL 1 L:=List.mem_of_getElem? hG.here
  have hlight:=HLT.out _ hmem
  have hkfew:=HKF.out _ hmem
  obtain⟨D2,hks⟩:=hG.ks
  have hws:=hG.ws
  have hhere:=hG.here
  obtain⟨d,x,wv,kv⟩:=p
  simp only at hV6 hmem hlight hkfew hks hws hhere ⊢
  have c1:=hi.val
  have z1:=hi.fz
  have r0:=hi.res
  have rz:=hi.fr
  have hlt:=hi.lt
  have hw:IntKind.i64.wrap ((k:Int)+1)=(k:Int)+1:=by rw[IntKind.wrap_i64];omega
  have hcast:((k+1:Nat):Int)=(k:Int)+1:=by omega
  obtain⟨V1,hV1⟩: ∃V1,V.setCell ⟨w.heap.size+1,0,none⟩ (.int .i64 ((k:Int)+1))=V1:=⟨_,rfl⟩
  have hi1:RtI w w.heap.size false ((k:Int)+1) (.slice a len cap) V1:=by rw[←hV1];exact hi.set (Mz _) _
  have he1: ∀j,j≠w.heap.size+1→V1.heap[j]?=V.heap[j]?:=fun j hj=>by rw[←hV1];exact sset_else _ _ _ _ _ hj
  have hs1:V1.heap.size=V.heap.size:=by rw[←hV1];simp
  have hV61:Var6 V1 q (.string x.name) wv (.bool x.block) kv (.int .i64 x.a) (.int .i64 x.b):=hV6.stay (he1 q (by omega)) (by omega)
  have hkeep:Hid (∀W,Below V1.heap.size V1 W→RtI w w.heap.size false ((k:Int)+1) (.slice a len cap) W∧W.heap[w.heap.size+3]?=V.heap[w.heap.size+3]?∧W.heap[w.heap.size+3+1]?=V.heap[w.heap.size+3+1]?∧Keeps (w.heap.size+3+2) V W):=Lh (fun W hb=>by
   simp at hs
   exact⟨hi1.below hb,(hb.block _ (by omega)).trans (he1 _ (by omega)),(hb.block _ (by omega)).trans (he1 _ (by omega)),Keeps.at (by have:=hb.size;omega) (fun i h1 h2=>(hb.block i (by omega)).trans (he1 i (by omega)))⟩)
  have HI1:=Lh hi1
  have HALL:=Lh hall
  have HM:=Lh hmem
  have HH:=Lh hhere
  have r1:=hi1.res
  have rz1:=hi1.fr
  have rv1:=hi1.val
  have hss:=hs
  simp only[World.size_alloc]at hss
  by_cases hd4:d≤4
  ·have hd4':(d:Int)≤4:=by omega
   by_cases hk300:k+1≤300
   ·have hk300':(k:Int)+1≤300:=by omega
    obtain⟨⟨nm,wd,bk,kd,pa,pb⟩,hx⟩: ∃y,x=y:=⟨_,rfl⟩
    have hbel:=hi1.bel
    have hRI:=lritem_any S D2 nm wd bk kd pa pb wv kv V1 (HE.out.step hbel) (by rw[hx]at hws;exact hws.keep (fun _ h=>h) (fun b hb=>hbel.block b (HS.out b hb))) (by rw[hx]at hks;exact hks.keep (fun _ h=>h) (fun b hb=>hbel.block b (HS.out b hb)))
     (by rw[hx]at hlight;have:=hlight.2.1;simp only[It.words]at this;omega) (by rw[hx]at hkfew;simp only[It.kids]at hkfew;omega) (by rw[hx]at hlight;have:=hlight.1;simp only[It.name]at this;omega) (fun t ht=>by rw[hx]at hlight;have:=(hlight.2.2 t ht).1;omega)
    have HRI:=Lh hRI
    obtain⟨wa,wc,hwv⟩:=hws.size
    obtain⟨ka,kc,hkv⟩:=hks.size
    obtain⟨wl,hwl⟩: ∃n,x.words.length=n:=⟨_,rfl⟩
    obtain⟨kl,hkl⟩: ∃n,x.kids.length=n:=⟨_,rfl⟩
    rw[hwl]at hwv
    rw[hkl]at hkv
    subst hwv hkv
    rw[hx]at hV61 HH HM
    simp only[It.name,It.block,It.a,It.b]at hV61
    obtain⟨y0,y1,y2,y3,y4,y5,_,_⟩:=hV61
    simp only[Fl.item]
    have hn2:1≤3-1-1:=by decide
    by_cases hIR:ItemR (.mk nm wd bk kd pa pb)
    ·have HIR:=Lh hIR
     have HNX:Hid (∀j y,j<k+1→(flatL 1 L)[j]?=some y→y.1≤4∧ItemR y.2):=Lh (fun j y hj e=>by
      rcases Nat.lt_or_ge j k with hx2|hx2
      ·exact HALL.out j y hx2 e
      ·obtain rfl:j=k:=by omega
       rw[HH.out]at e
       injection e with e
       subst e
       exact⟨hd4,HIR.out⟩)
     clear hall hmem hhere hx hbel hRI hws hks hlight hkfew hi hi1 hV6 hwl hkl hIR hG hs he1 hs1 r0 rz
     gi_wp2_with (refine⟨trivial,?_⟩;gi_at_call 76;refine(CallsIn.inRound _ (callsIn_wide.2 HRI.out)).mono ?_;rintro e w2 ⟨b,rfl,hq,g2⟩;obtain rfl:b=true:=hq.mpr HIR.out;have G2:=Lh g2;clear hq g2)
     obtain⟨q1,q2,q3,q4⟩:=hkeep.out _ G2.out
     simp only[World.size_alloc]
     exact⟨⟨by rw[hcast];exact q1,hk300,HNX.out⟩,q2,q3,q4⟩
    ·have HIR:=Lh hIR
     have HNR:Hid (¬RightL L):=Lh (fun h=>HIR.out (((HFL.out.mp h).1 _ HM.out).2))
     clear hall hmem hhere hx hbel hRI hws hks hlight hkfew hi hi1 hV6 hwl hkl hIR hG hs he1 hs1 r0 rz
     gi_wp2_with (refine⟨trivial,?_⟩;gi_at_call 76;refine(CallsIn.inRound _ (callsIn_wide.2 HRI.out)).mono ?_;rintro e w2 ⟨b,rfl,hq,g2⟩;obtain rfl:b=false:=(by cases b with|false=>rfl|true=>exact(HIR.out (hq.mp rfl)).elim);have G2:=Lh g2;have r2:=(hkeep.out _ g2).1.res;have rz2:=(hkeep.out _ g2).1.fr;clear hq g2)
     obtain⟨q1,q2,q3,q4⟩:=hkeep.out _ G2.out
     simp only[World.size_alloc]
     exact⟨⟨⟨_,q1.tell (Mz _) false⟩,HNR.out⟩,(sset_else _ _ _ _ _ (by omega)).trans q2,(sset_else _ _ _ _ _ (by omega)).trans q3⟩
   ·have hk300': ¬(k:Int)+1≤300:=by omega
    have HNR:Hid (¬RightL L):=Lh (fun h=>by have:=(HFL.out.mp h).2;omega)
    clear hall hmem hhere hws hks hlight hkfew hi hi1 hV6 hG hs he1 hs1 r0 rz hV61
    gi_wp2
    refine⟨trivial,?_⟩
    gi_wp2
    obtain⟨q1,q2,q3,q4⟩:=hkeep.out _ (Mj _ _)
    simp only[World.size_alloc]
    exact⟨⟨⟨_,q1.tell (Mz _) false⟩,HNR.out⟩,(sset_else _ _ _ _ _ (by omega)).trans q2,(sset_else _ _ _ _ _ (by omega)).trans q3⟩
  ·have hd4': ¬(d:Int)≤4:=by omega
   have HNR:Hid (¬RightL L):=Lh (fun h=>hd4 (((HFL.out.mp h).1 _ HM.out).1))
   clear hall hmem hhere hws hks hlight hkfew hi hi1 hV6 hG hs he1 hs1 r0 rz hV61
   gi_wp2
   refine⟨trivial,?_⟩
   gi_wp2
   obtain⟨q1,q2,q3,q4⟩:=hkeep.out _ (Mj _ _)
   simp only[World.size_alloc]
   exact⟨⟨⟨_,q1.tell (Mz _) false⟩,HNR.out⟩,(sset_else _ _ _ _ _ (by omega)).trans q2,(sset_else _ _ _ _ _ (by omega)).trans q3⟩
 case done=>
  rintro V ⟨hi,hm3,hall⟩ hK
  have c0:=hi.res
  have z0:=hi.fr
  have HI:=Lh hi
  have HP:Hid (RightL L):=Lh (HFL.out.mpr ⟨fun y hy=>by
   obtain⟨j,hj,e⟩:=List.getElem_of_mem hy
   exact hall j y (by rw[HLN.out]at hj;exact hj) (by rw[←e];exact Kh hj),hm3⟩)
  have hlt:=hi.lt
  have HK:=Lh hK
  clear hi hall hK
  simp only[World.size_alloc]at HK ⊢
  gi_wp2
  have hK2:=HK.out
  have h1:=HI.out.tell (Mz _) true
  refine⟨by simp, .inl ⟨_,_,rfl,run_takeDeferred ((sset_else _ _ _ _ _ (by simp<;>omega)).trans hK2),?_⟩⟩
  have h2:=h1.putObj (w.heap.size+1+1+1) (.deferred none) (by omega) (by omega)
  refine⟨.bool true,?_,GivesQ.yes HP.out h2.bel⟩
  have hc5:=h2.res
  simp[results,Tryz.f38,go_sem,hc5]
 case stop=>
  rintro V ⟨⟨x,hi⟩,hnr⟩ hK
  have HNR:=Lh hnr
  have hlt:=hi.lt
  have HI:=Lh hi
  have HK:=Lh hK
  clear hi hK hnr
  simp only[World.size_alloc]at HK ⊢
  gi_wp2
  have hK2:=HK.out
  refine⟨by simp, .inl ⟨_,_,rfl,run_takeDeferred hK2,?_⟩⟩
  have h2:=HI.out.putObj (w.heap.size+1+1+1) (.deferred none) (by omega) (by omega)
  refine⟨.bool false,?_,GivesQ.no HNR.out h2.bel⟩
  have hc5:=h2.res
  simp[results,Tryz.f38,go_sem,hc5]
end
end
end Go.Proofs.YtiapmjkaappcfaaGreatDoor
