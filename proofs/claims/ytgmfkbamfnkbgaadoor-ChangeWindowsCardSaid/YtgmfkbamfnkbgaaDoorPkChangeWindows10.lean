/-
  Package show: whether all goals are right, and of unlike names: walked.
-/
import Derived.Test.YtgmfkbamfnkbgaaDoorPkChangeWindows07
set_option maxRecDepth 100000
set_option maxHeartbeats 8000000
namespace Go.Proofs.YtgmfkbamfnkbgaaDoor
open Lib renaming hid→Lh
open List renaming setIfInBounds_toArray→Lq,set_cons_zero→Lj,set_cons_succ→Lk,take_succ_cons→Kj,take_zero→Jh
open Nat renaming reduceAdd→Lx,zero_add→Ly
open Act renaming put→Mq
open Go.RowKit.Below renaming refl→Mj
section
open Go.RowKit
def goalQ (s:ByteArray) (u:List Value):Prop:= ∃(y1 y2 y3 y4 y5:Int) (yp:Option Addr) (yq yr:Nat) (ys:Option Addr) (yt yu:Nat),u= [.string s, .int .u32 y1, .int .i64 y2, .int .i64 y3, .int .i64 y4, .int .i64 y5, .slice yp yq yr, .slice ys yt yu]
theorem goal_name (s:ByteArray) (y1 y2 y3 y4 y5:Int) (yp:Option Addr) (yq yr:Nat) (ys:Option Addr) (yt yu:Nat) (w:World):Calls Tryd.prog 34 #[.agg #[.string s, .int .u32 y1, .int .i64 y2, .int .i64 y3, .int .i64 y4, .int .i64 y5, .slice yp yq yr, .slice ys yt yu]] w fun e w'=>e= .returned (.string s)∧Below w.heap.size w w':=by
 obtain⟨yb,W1,hyb,hW1,V1,b1,z1⟩:=boxL w [.string s, .int .u32 y1, .int .i64 y2, .int .i64 y3, .int .i64 y4, .int .i64 y5, .slice yp yq yr, .slice ys yt yu] 44
 have c0:=V1.c 0 rfl
 have HB:=Lh b1
 clear b1 V1 z1
 go_enter Tryd.func34,Tryd.ntmps34
 go_wp2
 go_ret
 exact⟨rfl,HB.out⟩
theorem goal_same (s t:ByteArray) (y1 y2 y3 y4 y5:Int) (yp:Option Addr) (yq yr:Nat) (ys:Option Addr) (yt yu:Nat) (x1 x2 x3 x4 x5:Int) (xp:Option Addr) (xq xr:Nat) (xs:Option Addr) (xt xu:Nat) (nb xb:Nat) (w:World) (hn:VarL w nb [.func (.func 34) #[] #[]]) (hx:VarL w xb [.string t, .int .u32 x1, .int .i64 x2, .int .i64 x3, .int .i64 x4, .int .i64 x5, .slice xp xq xr, .slice xs xt xu]):
  Calls Tryd.prog 48 #[.agg #[.string s, .int .u32 y1, .int .i64 y2, .int .i64 y3, .int .i64 y4, .int .i64 y5, .slice yp yq yr, .slice ys yt yu], .pointer (some ⟨nb,0,none⟩), .pointer (some ⟨xb,0,none⟩)] w fun e w'=>e= .returned (.bool (decide (s=t)))∧Below w.heap.size w w':=by
 obtain⟨yb,W1,hyb,hW1,V1,b1,z1⟩:=boxL w [.string s, .int .u32 y1, .int .i64 y2, .int .i64 y3, .int .i64 y4, .int .i64 y5, .slice yp yq yr, .slice ys yt yu] 44
 have HB:=Lh b1
 have HC:Hid (∀W,Below W1.heap.size W1 W→W.cell? ⟨nb,0,none⟩=some (.func (.func 34) #[] #[])∧(W.cell? ⟨yb,0,none⟩=some (.string s)∧W.cell? ⟨yb,1,none⟩=some (.int .u32 y1)∧W.cell? ⟨yb,2,none⟩=some (.int .i64 y2)∧W.cell? ⟨yb,3,none⟩=some (.int .i64 y3)∧W.cell? ⟨yb,4,none⟩=some (.int .i64 y4)∧W.cell? ⟨yb,5,none⟩=some (.int .i64 y5)∧W.cell? ⟨yb,6,none⟩=some (.slice yp yq yr)∧W.cell? ⟨yb,7,none⟩=some (.slice ys yt yu))∧W.cell? ⟨xb,0,none⟩=some (.string t)∧W.cell? ⟨xb,1,none⟩=some (.int .u32 x1)∧W.cell? ⟨xb,2,none⟩=some (.int .i64 x2)∧W.cell? ⟨xb,3,none⟩=some (.int .i64 x3)∧W.cell? ⟨xb,4,none⟩=some (.int .i64 x4)∧W.cell? ⟨xb,5,none⟩=some (.int .i64 x5)∧W.cell? ⟨xb,6,none⟩=some (.slice xp xq xr)∧W.cell? ⟨xb,7,none⟩=some (.slice xs xt xu)):=Lh (fun W b=>
  ⟨((hn.after b1).after b).c 0 rfl,⟨(V1.after b).c 0 rfl,(V1.after b).c 1 rfl,(V1.after b).c 2 rfl,(V1.after b).c 3 rfl,(V1.after b).c 4 rfl,(V1.after b).c 5 rfl,(V1.after b).c 6 rfl,(V1.after b).c 7 rfl⟩,((hx.after b1).after b).c 0 rfl,((hx.after b1).after b).c 1 rfl,((hx.after b1).after b).c 2 rfl,((hx.after b1).after b).c 3 rfl,((hx.after b1).after b).c 4 rfl,((hx.after b1).after b).c 5 rfl,((hx.after b1).after b).c 6 rfl,((hx.after b1).after b).c 7 rfl⟩)
 have HNY:=Lh (fun W=>goal_name s y1 y2 y3 y4 y5 yp yq yr ys yt yu W)
 have HNX:=Lh (fun W=>goal_name t x1 x2 x3 x4 x5 xp xq xr xs xt xu W)
 obtain⟨q,hq⟩: ∃q,decide (s=t)=q:=⟨_,rfl⟩
 have HE:Hid ((s.toList==t.toList)=q):=Lh ((str_same s t).trans hq)
 rw[hq]
 clear b1 V1 z1 hn hx hq
 go_enter Tryd.func48,Tryd.ntmps48
 go_wp2
 refine wp_region_mix 6 (TVs [.func (.func 34) #[] #[], .agg #[.string s, .int .u32 y1, .int .i64 y2, .int .i64 y3, .int .i64 y4, .int .i64 y5, .slice yp yq yr, .slice ys yt yu], .string s, .func (.func 34) #[] #[], .agg #[.string t, .int .u32 x1, .int .i64 x2, .int .i64 x3, .int .i64 x4, .int .i64 x5, .slice xp xq xr, .slice xs xt xu], .string t]) (fun _=>false) (by kernel_rfl) (by kernel_rfl) (TVs.keep _) (fun _ _ _ h=>by cases h) ?_ ?_
 ·refine⟨?_,?_,?_,?_,?_,?_,trivial⟩
  ·intro u W hb hd
   obtain⟨n0,_⟩:=HC.out W hb
   simp only[Kj,Jh,putAll,Mq,Lq,Lk,Lj,Ly,Lx]
   go_wp2
   first|exact⟨rfl,Mj _ _⟩|exact⟨_,rfl,rfl,Mj _ _⟩|exact⟨_,rfl,rfl,Mj _ _,fun h=>by simp at h⟩
  ·intro u W hb hd
   obtain⟨_,⟨y00,y01,y02,y03,y04,y05,y06,y07⟩,_⟩:=HC.out W hb
   simp only[Kj,Jh,putAll,Mq,Lq,Lk,Lj,Ly,Lx]
   go_wp2
   first|exact⟨rfl,Mj _ _⟩|exact⟨_,rfl,rfl,Mj _ _⟩|exact⟨_,rfl,rfl,Mj _ _,fun h=>by simp at h⟩
  ·intro u W hb hd
   have e0:u 0= .func (.func 34) #[] #[]:=hd.1 rfl (by decide)
   have e1:u 1= .agg #[.string s, .int .u32 y1, .int .i64 y2, .int .i64 y3, .int .i64 y4, .int .i64 y5, .slice yp yq yr, .slice ys yt yu]:=hd.2.1 rfl (by decide)
   simp only[Kj,Jh,putAll,Mq,Lq,Lk,Lj,Ly,Lx]
   rw[e0,e1]
   go_wp2_with (go_at_call 34;(with_reducible refine(HNY.out _).mono ?_);rintro e W2 ⟨rfl,g⟩)
   first|exact⟨rfl,g⟩|exact⟨_,rfl,rfl,g⟩|exact⟨_,rfl,rfl,g,fun h=>by simp at h⟩
  ·intro u W hb hd
   obtain⟨n0,_⟩:=HC.out W hb
   simp only[Kj,Jh,putAll,Mq,Lq,Lk,Lj,Ly,Lx]
   go_wp2
   first|exact⟨rfl,Mj _ _⟩|exact⟨_,rfl,rfl,Mj _ _⟩|exact⟨_,rfl,rfl,Mj _ _,fun h=>by simp at h⟩
  ·intro u W hb hd
   obtain⟨_,_,x00,x01,x02,x03,x04,x05,x06,x07⟩:=HC.out W hb
   simp only[Kj,Jh,putAll,Mq,Lq,Lk,Lj,Ly,Lx]
   go_wp2
   first|exact⟨rfl,Mj _ _⟩|exact⟨_,rfl,rfl,Mj _ _⟩|exact⟨_,rfl,rfl,Mj _ _,fun h=>by simp at h⟩
  ·intro u W hb hd
   have e0:u 3= .func (.func 34) #[] #[]:=hd.1 rfl (by decide)
   have e1:u 4= .agg #[.string t, .int .u32 x1, .int .i64 x2, .int .i64 x3, .int .i64 x4, .int .i64 x5, .slice xp xq xr, .slice xs xt xu]:=hd.2.1 rfl (by decide)
   simp only[Kj,Jh,putAll,Mq,Lq,Lk,Lj,Ly,Lx]
   rw[e0,e1]
   go_wp2_with (go_at_call 34;(with_reducible refine(HNX.out _).mono ?_);rintro e W2 ⟨rfl,g⟩)
   first|exact⟨rfl,g⟩|exact⟨_,rfl,rfl,g⟩|exact⟨_,rfl,rfl,g,fun h=>by simp at h⟩
 ·intro u W hb hT _
  have e2:u 2= .string s:=hT 2 (by decide)
  have e5:u 5= .string t:=hT 5 (by decide)
  have HB2:=Lh (below_step HB.out hb)
  have he:=HE.out
  clear hb hT
  simp only[Kj,Jh,List.drop_succ_cons,List.drop_zero,putAll,Mq,Lq,Lk,Lj,Ly,Lx]
  rw[e2,e5]
  go_wp2
  go_ret
  exact⟨rfl,HB2.out⟩
theorem goal_index (t:ByteArray) (x1 x2 x3 x4 x5:Int) (xp:Option Addr) (xq xr:Nat) (xs:Option Addr) (xt xu:Nat) (nb xb:Nat) (us:List (List Value)) (ns:List ByteArray) (v:Value) (w:World) (hv:InK 8 w v us) (hN:NamedK goalQ us ns) (hl:us.length≤1000000) (hn:VarL w nb [.func (.func 34) #[] #[]]) (hx:VarL w xb [.string t, .int .u32 x1, .int .i64 x2, .int .i64 x3, .int .i64 x4, .int .i64 x5, .slice xp xq xr, .slice xs xt xu]):
  Calls Tryd.prog 61 #[v, .func (.func 48) #[] #[.pointer (some ⟨nb,0,none⟩), .pointer (some ⟨xb,0,none⟩)]] w fun e w'=>(∃i:Int,e= .returned (.int .i64 i)∧((0≤i∧∃k,k<us.length∧ns[k]?=some t)∨(i= -1∧∀(k:Nat) y,k<us.length→ns[k]?=some y→y≠t)))∧Below w.heap.size w w':=by
 obtain⟨a,cap,rfl,hc⟩:=hv.size
 obtain⟨n,hnn⟩: ∃n,us.length=n:=⟨_,rfl⟩
 rw[hnn]at hv hl ⊢
 have HV:=Lh hv
 have HNM:=Lh hN
 have HNB:=Lh hn
 have HXB:=Lh hx
 have HL:=Lh hnn
 clear hv hN hn hx hc hnn
 go_enter Tryd.func61,Tryd.ntmps61
 go_wp2
 go_loopw [8] (fun v8 wr=> ∃i:Nat,i≤n∧v8= .int .i64 (i:Int)∧Below w.heap.size w wr∧∀(k:Nat) y,k<i→ns[k]?=some y→y≠t) (fun v8 _=>n-(intOf v8).toNat)
 case atStart=>exact⟨0,Nat.zero_le _,rfl,Mj _ _,fun k y hk=>by omega⟩
 case round=>
  obtain⟨i,hi,rfl,hb,hW⟩:=hrel
  have HB:=Lh hb
  have HW:=Lh hW
  clear hW
  by_cases hin:i<n
  ·obtain⟨s,r,hu,hs,hr⟩:=HNM.out.row (i:=i) (by rw[HL.out];exact hin)
   obtain⟨y1,y2,y3,y4,y5,yp,yq,yr,ys,yt,yu,rfl⟩:=hr
   obtain⟨b,off,rfl,hlt,hcell⟩:=HV.out.at i _ hu
   have f0:wr.cell? ⟨b,off+i*8,none⟩=some (.string s):=(hb.cell (p:=⟨b,off+i*8,none⟩) hlt).trans (hcell 0 _ rfl)
   have f1:wr.cell? ⟨b,off+i*8+1,none⟩=some (.int .u32 y1):=(hb.cell (p:=⟨b,off+i*8+1,none⟩) hlt).trans (hcell 1 _ rfl)
   have f2:wr.cell? ⟨b,off+i*8+2,none⟩=some (.int .i64 y2):=(hb.cell (p:=⟨b,off+i*8+2,none⟩) hlt).trans (hcell 2 _ rfl)
   have f3:wr.cell? ⟨b,off+i*8+3,none⟩=some (.int .i64 y3):=(hb.cell (p:=⟨b,off+i*8+3,none⟩) hlt).trans (hcell 3 _ rfl)
   have f4:wr.cell? ⟨b,off+i*8+4,none⟩=some (.int .i64 y4):=(hb.cell (p:=⟨b,off+i*8+4,none⟩) hlt).trans (hcell 4 _ rfl)
   have f5:wr.cell? ⟨b,off+i*8+5,none⟩=some (.int .i64 y5):=(hb.cell (p:=⟨b,off+i*8+5,none⟩) hlt).trans (hcell 5 _ rfl)
   have f6:wr.cell? ⟨b,off+i*8+6,none⟩=some (.slice yp yq yr):=(hb.cell (p:=⟨b,off+i*8+6,none⟩) hlt).trans (hcell 6 _ rfl)
   have f7:wr.cell? ⟨b,off+i*8+7,none⟩=some (.slice ys yt yu):=(hb.cell (p:=⟨b,off+i*8+7,none⟩) hlt).trans (hcell 7 _ rfl)
   have HS:=Lh (goal_same s t y1 y2 y3 y4 y5 yp yq yr ys yt yu x1 x2 x3 x4 x5 xp xq xr xs xt xu nb xb wr (HNB.out.after hb) (HXB.out.after hb))
   have HSN:=Lh hs
   have hi1:IntKind.i64.wrap ((i:Int)+1)=((i+1:Nat):Int):=by rw[IntKind.wrap_i64];omega
   clear hu hs hlt hcell hb
   by_cases he:s=t
   ·subst he
    rw[decide_eq_true rfl]at HS
    have HI:Hid ((0:Int)≤(i:Int)∧i<n):=Lh ⟨by omega,hin⟩
    go_wp2_with (go_at_call 48;(with_reducible refine(HS.out).mono ?_);rintro e w2 ⟨rfl,h2⟩;have G2:=Lh (below_step HB.out h2);clear h2)
    go_ret
    exact⟨⟨_,rfl,Or.inl ⟨HI.out.1,i,HI.out.2,HSN.out⟩⟩,G2.out⟩
   ·have HNE:=Lh he
    rw[decide_eq_false he]at HS
    clear he
    go_wp2_with (go_at_call 48;(with_reducible refine(HS.out).mono ?_);rintro e w2 ⟨rfl,h2⟩;have G2:=Lh (below_step HB.out h2);clear h2)
    go_roundw
    case rel=>exact⟨i+1,by omega,by go_num,G2.out,fun k y hk hy=>by
     rcases Nat.lt_or_ge k i with hx|hx
     ·exact HW.out k y hx hy
     ·obtain rfl:k=i:=by omega
      rw[HSN.out]at hy
      injection hy with hy
      rw[←hy];exact HNE.out⟩
    case measure=>simp[intOf];omega
  ·have en:n=i:=by omega
   subst en
   clear hb
   go_wp2
   go_ret
   exact⟨⟨_,rfl,Or.inr ⟨rfl,HW.out⟩⟩,HB.out⟩
theorem goal_contains (t:ByteArray) (x1 x2 x3 x4 x5:Int) (xp:Option Addr) (xq xr:Nat) (xs:Option Addr) (xt xu:Nat) (nb xb:Nat) (us:List (List Value)) (ns:List ByteArray) (v:Value) (w:World) (hv:InK 8 w v us) (hN:NamedK goalQ us ns) (hl:us.length≤1000000) (hn:VarL w nb [.func (.func 34) #[] #[]]) (hx:VarL w xb [.string t, .int .u32 x1, .int .i64 x2, .int .i64 x3, .int .i64 x4, .int .i64 x5, .slice xp xq xr, .slice xs xt xu]):
  Calls Tryd.prog 49 #[v, .func (.func 48) #[] #[.pointer (some ⟨nb,0,none⟩), .pointer (some ⟨xb,0,none⟩)]] w (GivesQ (∃k,k<us.length∧ns[k]?=some t) w):=by
 have HI:=Lh (goal_index t x1 x2 x3 x4 x5 xp xq xr xs xt xu nb xb us ns v w hv hN hl hn hx)
 obtain⟨a1,c1,rfl,_⟩:=hv.size
 clear hv hN hn hx
 go_enter Tryd.func49,Tryd.ntmps49
 go_wp2_with (go_at_call 61;(with_reducible refine(HI.out).mono ?_);rintro e w2 ⟨⟨i,rfl,(⟨hi,hall⟩|⟨rfl,hall⟩)⟩,h2⟩<;>(have HA:=Lh hall;have G2:=Lh h2;clear hall h2))
 ·go_ret
  exact GivesQ.yes HA.out G2.out
 ·go_ret
  exact GivesQ.no (fun⟨k,h1,h2⟩=>HA.out k _ h1 h2 rfl) G2.out
theorem goal_all (P:Nat→Prop) (us:List (List Value)) (ns:List ByteArray) (v:Value) (w:World) (hv:InK 8 w v us) (hN:NamedK goalQ us ns) (hl:us.length≤1000000)
  (HR0: ∀(i:Nat) (u:List Value),us[i]?=some u→∀W,Below w.heap.size w W→Calls Tryd.prog 33 #[(.agg u.toArray)] W (GivesQ (P i) W)):
  Calls Tryd.prog 32 #[v,(.func (.func 33) #[] #[]), .func (.func 34) #[] #[]] w (GivesQ (AllN P ns us.length) w):=by
 obtain⟨nb,W0,hnb,hW0,V0,b0,z0⟩:=boxL w [.func (.func 34) #[] #[]] 70
 obtain⟨a,cap,rfl,hc⟩:=hv.size
 obtain⟨n,hnn⟩: ∃n,us.length=n:=⟨_,rfl⟩
 rw[hnn]at hv hl hc ⊢
 have HV:=Lh hv
 have HNM:=Lh hN
 have HNB:=Lh V0
 have HL:=Lh hnn
 have HRR:=Lh HR0
 have HB0:=Lh b0
 clear hv hN hnn HR0 V0 b0 z0
 go_enter Tryd.func32,Tryd.ntmps32
 go_wp2
 go_loopw [12] (fun v12 wr=> ∃i:Nat,i≤n∧v12= .int .i64 (i:Int)∧Below W0.heap.size W0 wr∧AllN P ns i) (fun v12 _=>n-(intOf v12).toNat)
 case atStart=>exact⟨0,Nat.zero_le _,rfl,Mj _ _,fun j y hj=>by omega⟩
 case round=>
  obtain⟨i,hi,rfl,hb0,hW⟩:=hrel
  have hb:=below_step HB0.out hb0
  have HB:=Lh hb
  have HB0r:=Lh hb0
  have HW:=Lh hW
  clear hW
  by_cases hin:i<n
  ·obtain⟨s,r,hu,hs,hr⟩:=HNM.out.row (i:=i) (by rw[HL.out];exact hin)
   obtain⟨y1,y2,y3,y4,y5,yp,yq,yr,ys,yt,yu,rfl⟩:=hr
   have HTK:=Lh (HV.out.take i (by rw[HL.out];exact hi))
   have HNK:=Lh (HNM.out.take i)
   have HTL:Hid ((us.take i).length=i):=Lh (by rw[List.length_take,HL.out];omega)
   obtain⟨b,off,rfl,hlt,hcell⟩:=HV.out.at i _ hu
   have f0:wr.cell? ⟨b,off+i*8,none⟩=some (.string s):=(hb.cell (p:=⟨b,off+i*8,none⟩) hlt).trans (hcell 0 _ rfl)
   have f1:wr.cell? ⟨b,off+i*8+1,none⟩=some (.int .u32 y1):=(hb.cell (p:=⟨b,off+i*8+1,none⟩) hlt).trans (hcell 1 _ rfl)
   have f2:wr.cell? ⟨b,off+i*8+2,none⟩=some (.int .i64 y2):=(hb.cell (p:=⟨b,off+i*8+2,none⟩) hlt).trans (hcell 2 _ rfl)
   have f3:wr.cell? ⟨b,off+i*8+3,none⟩=some (.int .i64 y3):=(hb.cell (p:=⟨b,off+i*8+3,none⟩) hlt).trans (hcell 3 _ rfl)
   have f4:wr.cell? ⟨b,off+i*8+4,none⟩=some (.int .i64 y4):=(hb.cell (p:=⟨b,off+i*8+4,none⟩) hlt).trans (hcell 4 _ rfl)
   have f5:wr.cell? ⟨b,off+i*8+5,none⟩=some (.int .i64 y5):=(hb.cell (p:=⟨b,off+i*8+5,none⟩) hlt).trans (hcell 5 _ rfl)
   have f6:wr.cell? ⟨b,off+i*8+6,none⟩=some (.slice yp yq yr):=(hb.cell (p:=⟨b,off+i*8+6,none⟩) hlt).trans (hcell 6 _ rfl)
   have f7:wr.cell? ⟨b,off+i*8+7,none⟩=some (.slice ys yt yu):=(hb.cell (p:=⟨b,off+i*8+7,none⟩) hlt).trans (hcell 7 _ rfl)
   have HSN:=Lh hs
   have HRI:=Lh (HRR.out i _ hu)
   have hi1:IntKind.i64.wrap ((i:Int)+1)=((i+1:Nat):Int):=by rw[IntKind.wrap_i64];omega
   obtain⟨xb,W1,hxb,hW1,V1,b1,z1⟩:=boxL wr [.string ⟨#[]⟩, .int .u32 0, .int .i64 0, .int .i64 0, .int .i64 0, .int .i64 0, .slice none 0 0, .slice none 0 0] 44
   have c0:=V1.c 0 rfl
   have q0:=V1.q 0 rfl
   have c1:=V1.c 1 rfl
   have q1:=V1.q 1 rfl
   have c2:=V1.c 2 rfl
   have q2:=V1.q 2 rfl
   have c3:=V1.c 3 rfl
   have q3:=V1.q 3 rfl
   have c4:=V1.c 4 rfl
   have q4:=V1.q 4 rfl
   have c5:=V1.c 5 rfl
   have q5:=V1.q 5 rfl
   have c6:=V1.c 6 rfl
   have q6:=V1.q 6 rfl
   have c7:=V1.c 7 rfl
   have q7:=V1.q 7 rfl
   obtain⟨W2,hW2⟩: ∃W2,putL xb 0 [.string s, .int .u32 y1, .int .i64 y2, .int .i64 y3, .int .i64 y4, .int .i64 y5, .slice yp yq yr, .slice ys yt yu] W1=W2:=⟨_,rfl⟩
   have HV2:Hid (VarL W2 xb [.string s, .int .u32 y1, .int .i64 y2, .int .i64 y3, .int .i64 y4, .int .i64 y5, .slice yp yq yr, .slice ys yt yu]):=Lh (by rw[←hW2];exact putL_var [.string s, .int .u32 y1, .int .i64 y2, .int .i64 y3, .int .i64 y4, .int .i64 y5, .slice yp yq yr, .slice ys yt yu] [] [.string ⟨#[]⟩, .int .u32 0, .int .i64 0, .int .i64 0, .int .i64 0, .int .i64 0, .slice none 0 0, .slice none 0 0] W1 V1 rfl)
   have hb2:Below wr.heap.size wr W2:=by rw[←hW2];exact putL_below _ (by omega) _ _ b1
   have HB2:=Lh (below_step hb hb2)
   have HN2:=Lh (HNB.out.after (below_step hb0 hb2))
   have HBT:=Lh hb2
   have d0:=HV2.out.c 0 rfl
   have d1:=HV2.out.c 1 rfl
   have d2:=HV2.out.c 2 rfl
   have d3:=HV2.out.c 3 rfl
   have d4:=HV2.out.c 4 rfl
   have d5:=HV2.out.c 5 rfl
   have d6:=HV2.out.c 6 rfl
   have d7:=HV2.out.c 7 rfl
   have hi4:(i:Int)≤(cap:Int):=by omega
   have HIN:=Lh hin
   simp only[putL,Ly]at hW2
   clear hu hs hlt hcell hb hb0 b1 z1 V1 hb2
   have HRC:=Lh (HRI.out W2 HB2.out)
   by_cases hP:P i
   ·have HP:=Lh hP
    clear hP
    by_cases hk: ∃k,k<i∧ns[k]?=some s
    ·have HK:=Lh hk
     clear hk
     go_wp2_with (first
      |(go_at_call 33;(with_reducible refine(HRC.out).mono ?_);rintro e w3 ⟨q,rfl,hq,h3⟩;obtain rfl:q=true:=hq.mpr HP.out;have G3:=Lh h3;clear hq h3;have HC:=Lh (goal_contains s y1 y2 y3 y4 y5 yp yq yr ys yt yu nb xb (us.take i) (ns.take i) _ w3 (HTK.out.below (below_step HB2.out G3.out)) HNK.out (by rw[HTL.out];omega) (HN2.out.after G3.out) (HV2.out.after G3.out));rw[HTL.out]at HC)
      |(go_at_call 49;(with_reducible refine(HC.out).mono ?_);rintro e w4 ⟨q,rfl,hq,h4⟩;obtain rfl:q=true:=hq.mpr (by obtain⟨k,h1,h2⟩:=HK.out;exact⟨k,h1,by rw[List.getElem?_take_of_lt h1];exact h2⟩);have G4:=Lh (below_step (below_step HB2.out G3.out) h4);clear hq h4))
     go_ret
     exact GivesQ.no (fun h=>by obtain⟨k,h1,h2⟩:=HK.out;exact(h i s HIN.out HSN.out).2 k s h1 h2 rfl) G4.out
    ·have HK:=Lh hk
     clear hk
     go_wp2_with (first
      |(go_at_call 33;(with_reducible refine(HRC.out).mono ?_);rintro e w3 ⟨q,rfl,hq,h3⟩;obtain rfl:q=true:=hq.mpr HP.out;have G3:=Lh h3;clear hq h3;have HC:=Lh (goal_contains s y1 y2 y3 y4 y5 yp yq yr ys yt yu nb xb (us.take i) (ns.take i) _ w3 (HTK.out.below (below_step HB2.out G3.out)) HNK.out (by rw[HTL.out];omega) (HN2.out.after G3.out) (HV2.out.after G3.out));rw[HTL.out]at HC)
      |(go_at_call 49;(with_reducible refine(HC.out).mono ?_);rintro e w4 ⟨q,rfl,hq,h4⟩;obtain rfl:q=false:=(by cases q with|false=>rfl|true=>exact(HK.out (by obtain⟨k,h1,h2⟩:=hq.mp rfl;exact⟨k,h1,by rw[List.getElem?_take_of_lt h1]at h2;exact h2⟩)).elim);have G4:=Lh (below_step HBT.out (below_step G3.out h4));clear hq h4))
     go_roundw
     case rel=>exact⟨i+1,by omega,by go_num,below_step HB0r.out G4.out,fun j y hj hy=>by
      rcases Nat.lt_or_ge j i with hx|hx
      ·exact HW.out j y hx hy
      ·obtain rfl:j=i:=by omega
       rw[HSN.out]at hy
       injection hy with hy
       subst hy
       exact⟨HP.out,fun k z hk hz e=>HK.out ⟨k,hk,by rw[hz,e]⟩⟩⟩
     case measure=>simp[intOf];omega
   ·have HP:=Lh hP
    clear hP
    go_wp2_with (go_at_call 33;(with_reducible refine(HRC.out).mono ?_);rintro e w3 ⟨q,rfl,hq,h3⟩;obtain rfl:q=false:=(by cases q with|false=>rfl|true=>exact(HP.out (hq.mp rfl)).elim);have G3:=Lh (below_step HB2.out h3);clear hq h3)
    go_ret
    exact GivesQ.no (fun h=>HP.out (h i s HIN.out HSN.out).1) G3.out
  ·have en:n=i:=by omega
   subst en
   clear hb hb0
   go_wp2
   go_ret
   exact GivesQ.yes HW.out HB.out
end
end Go.Proofs.YtgmfkbamfnkbgaaDoor
