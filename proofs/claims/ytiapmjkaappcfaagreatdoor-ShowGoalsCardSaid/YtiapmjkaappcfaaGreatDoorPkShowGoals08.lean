/-
  Package show: whether all rules are right, and of unlike names: walked.
-/
import Derived.Test.YtiapmjkaappcfaaGreatDoorPkShowGoals07
set_option maxRecDepth 100000
set_option maxHeartbeats 8000000
namespace Go.Proofs.YtiapmjkaappcfaaGreatDoor
open Lib renaming hid→Lh
open List renaming setIfInBounds_toArray→Lq,set_cons_zero→Lj,set_cons_succ→Lk,getElem?_eq_getElem→Kh,take_succ_cons→Kj,take_zero→Jh,drop_succ_cons→Jj,drop_zero→Jk
open Nat renaming reduceAdd→Lx,zero_add→Ly
open Act renaming put→Mq
open Go.RowKit.Below renaming refl→Mj
section
open Go.RowKit
def TVs (l:List Value) (i:Nat) (v:Value) (_:World):Prop:=v=l.getD i undef
theorem TVs.keep (l:List Value) (i:Nat) (v:Value) (w w':World) (h:TVs l i v w) (_:Below w.heap.size w w'):TVs l i v w':=h
theorem str_same (a b:ByteArray):(a.toList==b.toList)=decide (a=b):=by
 rw[ByteArray.toList_eq,ByteArray.toList_eq]
 obtain⟨⟨a⟩⟩:=a
 obtain⟨⟨b⟩⟩:=b
 by_cases h:a=b<;>simp[h]
def NamedK (Q:ByteArray→List Value→Prop) (us:List (List Value)) (ns:List ByteArray):Prop:=us.length=ns.length∧∀(i:Nat) (u:List Value) (s:ByteArray),us[i]?=some u→ns[i]?=some s→Q s u
theorem NamedK.take {Q:ByteArray→List Value→Prop} {us:List (List Value)} {ns:List ByteArray} (h:NamedK Q us ns) (n:Nat):NamedK Q (us.take n) (ns.take n):=by
 refine⟨by rw[List.length_take,List.length_take,h.1],fun i u s hu hs=>?_⟩
 have hi:i<(us.take n).length:=(List.getElem?_eq_some_iff.1 hu).1
 rw[List.length_take]at hi
 rw[List.getElem?_take_of_lt (by omega)]at hu hs
 exact h.2 i u s hu hs
def AllN (P:Nat→Prop) (ns:List ByteArray) (n:Nat):Prop:= ∀(j:Nat) (y:ByteArray),j<n→ns[j]?=some y→P j∧∀(k:Nat) (z:ByteArray),k<j→ns[k]?=some z→z≠y
theorem NamedK.row {Q:ByteArray→List Value→Prop} {us:List (List Value)} {ns:List ByteArray} (h:NamedK Q us ns) {i:Nat} (hi:i<us.length): ∃s u,us[i]?=some u∧ns[i]?=some s∧Q s u:=by
 have h1:us[i]?=some us[i]:=Kh hi
 have h2:ns[i]?=some (ns[i]'(by rw[←h.1];exact hi)):=Kh _
 exact⟨_,_,h1,h2,h.2 i _ _ h1 h2⟩
def labelQ (s:ByteArray) (u:List Value):Prop:= ∃(y1:ByteArray),u= [.string s, .string y1]
theorem label_name (s:ByteArray) (y1:ByteArray) (w:World):Calls Tryz.prog 68 #[.agg #[.string s, .string y1]] w fun e w'=>e= .returned (.string s)∧Below w.heap.size w w':=by
 obtain⟨yb,W1,hyb,hW1,V1,b1,z1⟩:=boxL w [.string s, .string y1] 103
 have c0:=V1.c 0 rfl
 have HB:=Lh b1
 clear b1 V1 z1
 go_enter Tryz.func68,Tryz.ntmps68
 go_wp2
 go_ret
 exact⟨rfl,HB.out⟩
theorem label_same (s t:ByteArray) (y1:ByteArray) (x1:ByteArray) (nb xb:Nat) (w:World) (hn:VarL w nb [.func (.func 68) #[] #[]]) (hx:VarL w xb [.string t, .string x1]):
  Calls Tryz.prog 115 #[.agg #[.string s, .string y1], .pointer (some ⟨nb,0,none⟩), .pointer (some ⟨xb,0,none⟩)] w fun e w'=>e= .returned (.bool (decide (s=t)))∧Below w.heap.size w w':=by
 obtain⟨yb,W1,hyb,hW1,V1,b1,z1⟩:=boxL w [.string s, .string y1] 103
 have HB:=Lh b1
 have HC:Hid (∀W,Below W1.heap.size W1 W→W.cell? ⟨nb,0,none⟩=some (.func (.func 68) #[] #[])∧(W.cell? ⟨yb,0,none⟩=some (.string s)∧W.cell? ⟨yb,1,none⟩=some (.string y1))∧W.cell? ⟨xb,0,none⟩=some (.string t)∧W.cell? ⟨xb,1,none⟩=some (.string x1)):=Lh (fun W b=>
  ⟨((hn.after b1).after b).c 0 rfl,⟨(V1.after b).c 0 rfl,(V1.after b).c 1 rfl⟩,((hx.after b1).after b).c 0 rfl,((hx.after b1).after b).c 1 rfl⟩)
 have HNY:=Lh (fun W=>label_name s y1 W)
 have HNX:=Lh (fun W=>label_name t x1 W)
 obtain⟨q,hq⟩: ∃q,decide (s=t)=q:=⟨_,rfl⟩
 have HE:Hid ((s.toList==t.toList)=q):=Lh ((str_same s t).trans hq)
 rw[hq]
 clear b1 V1 z1 hn hx hq
 go_enter Tryz.func115,Tryz.ntmps115
 go_wp2
 refine wp_region_mix 6 (TVs [.func (.func 68) #[] #[], .agg #[.string s, .string y1], .string s, .func (.func 68) #[] #[], .agg #[.string t, .string x1], .string t]) (fun _=>false) (by kernel_rfl) (by kernel_rfl) (TVs.keep _) (fun _ _ _ h=>by cases h) ?_ ?_
 ·refine⟨?_,?_,?_,?_,?_,?_,trivial⟩
  ·intro u W hb hd
   obtain⟨n0,_⟩:=HC.out W hb
   simp only[Kj,Jh,putAll,Mq,Lq,Lk,Lj,Ly,Lx]
   go_wp2
   first|exact⟨rfl,Mj _ _⟩|exact⟨_,rfl,rfl,Mj _ _⟩|exact⟨_,rfl,rfl,Mj _ _,fun h=>by simp at h⟩
  ·intro u W hb hd
   obtain⟨_,⟨y00,y01⟩,_⟩:=HC.out W hb
   simp only[Kj,Jh,putAll,Mq,Lq,Lk,Lj,Ly,Lx]
   go_wp2
   first|exact⟨rfl,Mj _ _⟩|exact⟨_,rfl,rfl,Mj _ _⟩|exact⟨_,rfl,rfl,Mj _ _,fun h=>by simp at h⟩
  ·intro u W hb hd
   have e0:u 0= .func (.func 68) #[] #[]:=hd.1 rfl (by decide)
   have e1:u 1= .agg #[.string s, .string y1]:=hd.2.1 rfl (by decide)
   simp only[Kj,Jh,putAll,Mq,Lq,Lk,Lj,Ly,Lx]
   rw[e0,e1]
   go_wp2_with (go_at_call 68;(with_reducible refine(HNY.out _).mono ?_);rintro e W2 ⟨rfl,g⟩)
   first|exact⟨rfl,g⟩|exact⟨_,rfl,rfl,g⟩|exact⟨_,rfl,rfl,g,fun h=>by simp at h⟩
  ·intro u W hb hd
   obtain⟨n0,_⟩:=HC.out W hb
   simp only[Kj,Jh,putAll,Mq,Lq,Lk,Lj,Ly,Lx]
   go_wp2
   first|exact⟨rfl,Mj _ _⟩|exact⟨_,rfl,rfl,Mj _ _⟩|exact⟨_,rfl,rfl,Mj _ _,fun h=>by simp at h⟩
  ·intro u W hb hd
   obtain⟨_,_,x00,x01⟩:=HC.out W hb
   simp only[Kj,Jh,putAll,Mq,Lq,Lk,Lj,Ly,Lx]
   go_wp2
   first|exact⟨rfl,Mj _ _⟩|exact⟨_,rfl,rfl,Mj _ _⟩|exact⟨_,rfl,rfl,Mj _ _,fun h=>by simp at h⟩
  ·intro u W hb hd
   have e0:u 3= .func (.func 68) #[] #[]:=hd.1 rfl (by decide)
   have e1:u 4= .agg #[.string t, .string x1]:=hd.2.1 rfl (by decide)
   simp only[Kj,Jh,putAll,Mq,Lq,Lk,Lj,Ly,Lx]
   rw[e0,e1]
   go_wp2_with (go_at_call 68;(with_reducible refine(HNX.out _).mono ?_);rintro e W2 ⟨rfl,g⟩)
   first|exact⟨rfl,g⟩|exact⟨_,rfl,rfl,g⟩|exact⟨_,rfl,rfl,g,fun h=>by simp at h⟩
 ·intro u W hb hT _
  have e2:u 2= .string s:=hT 2 (by decide)
  have e5:u 5= .string t:=hT 5 (by decide)
  have HB2:=Lh (below_step HB.out hb)
  have he:=HE.out
  clear hb hT
  simp only[Kj,Jh,Jj,Jk,putAll,Mq,Lq,Lk,Lj,Ly,Lx]
  rw[e2,e5]
  go_wp2
  go_ret
  exact⟨rfl,HB2.out⟩
theorem label_index (t:ByteArray) (x1:ByteArray) (nb xb:Nat) (us:List (List Value)) (ns:List ByteArray) (v:Value) (w:World) (hv:InK 2 w v us) (hN:NamedK labelQ us ns) (hl:us.length≤1000000) (hn:VarL w nb [.func (.func 68) #[] #[]]) (hx:VarL w xb [.string t, .string x1]):
  Calls Tryz.prog 170 #[v, .func (.func 115) #[] #[.pointer (some ⟨nb,0,none⟩), .pointer (some ⟨xb,0,none⟩)]] w fun e w'=>(∃i:Int,e= .returned (.int .i64 i)∧((0≤i∧∃k,k<us.length∧ns[k]?=some t)∨(i= -1∧∀(k:Nat) y,k<us.length→ns[k]?=some y→y≠t)))∧Below w.heap.size w w':=by
 obtain⟨a,cap,rfl,hc⟩:=hv.size
 obtain⟨n,hnn⟩: ∃n,us.length=n:=⟨_,rfl⟩
 rw[hnn]at hv hl ⊢
 have HV:=Lh hv
 have HNM:=Lh hN
 have HNB:=Lh hn
 have HXB:=Lh hx
 have HL:=Lh hnn
 clear hv hN hn hx hc hnn
 go_enter Tryz.func170,Tryz.ntmps170
 go_wp2
 go_loopw [8] (fun v8 wr=> ∃i:Nat,i≤n∧v8= .int .i64 (i:Int)∧Below w.heap.size w wr∧∀(k:Nat) y,k<i→ns[k]?=some y→y≠t) (fun v8 _=>n-(intOf v8).toNat)
 case atStart=>exact⟨0,Nat.zero_le _,rfl,Mj _ _,fun k y hk=>by omega⟩
 case round=>
  obtain⟨i,hi,rfl,hb,hW⟩:=hrel
  have HB:=Lh hb
  have HW:=Lh hW
  clear hW
  by_cases hin:i<n
  ·obtain⟨s,r,hu,hs,hr⟩:=HNM.out.row (i:=i) (by rw[HL.out];exact hin)
   obtain⟨y1,rfl⟩:=hr
   obtain⟨b,off,rfl,hlt,hcell⟩:=HV.out.at i _ hu
   have f0:wr.cell? ⟨b,off+i*2,none⟩=some (.string s):=(hb.cell (p:=⟨b,off+i*2,none⟩) hlt).trans (hcell 0 _ rfl)
   have f1:wr.cell? ⟨b,off+i*2+1,none⟩=some (.string y1):=(hb.cell (p:=⟨b,off+i*2+1,none⟩) hlt).trans (hcell 1 _ rfl)
   have HS:=Lh (label_same s t y1 x1 nb xb wr (HNB.out.after hb) (HXB.out.after hb))
   have HSN:=Lh hs
   have hi1:IntKind.i64.wrap ((i:Int)+1)=((i+1:Nat):Int):=by rw[IntKind.wrap_i64];omega
   clear hu hs hlt hcell hb
   by_cases he:s=t
   ·subst he
    rw[decide_eq_true rfl]at HS
    have HI:Hid ((0:Int)≤(i:Int)∧i<n):=Lh ⟨by omega,hin⟩
    go_wp2_with (go_at_call 115;(with_reducible refine(HS.out).mono ?_);rintro e w2 ⟨rfl,h2⟩;have G2:=Lh (below_step HB.out h2);clear h2)
    go_ret
    exact⟨⟨_,rfl,Or.inl ⟨HI.out.1,i,HI.out.2,HSN.out⟩⟩,G2.out⟩
   ·have HNE:=Lh he
    rw[decide_eq_false he]at HS
    clear he
    go_wp2_with (go_at_call 115;(with_reducible refine(HS.out).mono ?_);rintro e w2 ⟨rfl,h2⟩;have G2:=Lh (below_step HB.out h2);clear h2)
    go_roundw
    case rel=>exact⟨i+1,by omega,by go_num,G2.out,fun k y hk hy=>by
     rcases Nat.lt_or_ge k i with hx|hx
     ·exact HW.out k y hx hy
     ·obtain rfl:k=i:=by omega
      rw[HSN.out]at hy
      injection hy with hy
      rw[←hy];exact HNE.out⟩
    case measure=>simp[intOf];omega
  ·have en:n=i:=by omega
   subst en
   clear hb
   go_wp2
   go_ret
   exact⟨⟨_,rfl,Or.inr ⟨rfl,HW.out⟩⟩,HB.out⟩
theorem label_contains (t:ByteArray) (x1:ByteArray) (nb xb:Nat) (us:List (List Value)) (ns:List ByteArray) (v:Value) (w:World) (hv:InK 2 w v us) (hN:NamedK labelQ us ns) (hl:us.length≤1000000) (hn:VarL w nb [.func (.func 68) #[] #[]]) (hx:VarL w xb [.string t, .string x1]):
  Calls Tryz.prog 116 #[v, .func (.func 115) #[] #[.pointer (some ⟨nb,0,none⟩), .pointer (some ⟨xb,0,none⟩)]] w (GivesQ (∃k,k<us.length∧ns[k]?=some t) w):=by
 have HI:=Lh (label_index t x1 nb xb us ns v w hv hN hl hn hx)
 obtain⟨a1,c1,rfl,_⟩:=hv.size
 clear hv hN hn hx
 go_enter Tryz.func116,Tryz.ntmps116
 go_wp2_with (go_at_call 170;(with_reducible refine(HI.out).mono ?_);rintro e w2 ⟨⟨i,rfl,(⟨hi,hall⟩|⟨rfl,hall⟩)⟩,h2⟩<;>(have HA:=Lh hall;have G2:=Lh h2;clear hall h2))
 ·go_ret
  exact GivesQ.yes HA.out G2.out
 ·go_ret
  exact GivesQ.no (fun⟨k,h1,h2⟩=>HA.out k _ h1 h2 rfl) G2.out
theorem label_all (P:Nat→Prop) (us:List (List Value)) (ns:List ByteArray) (v:Value) (w:World) (hv:InK 2 w v us) (hN:NamedK labelQ us ns) (hl:us.length≤1000000)
  (HR0: ∀(i:Nat) (u:List Value),us[i]?=some u→∀W,Below w.heap.size w W→Calls Tryz.prog 67 #[(.agg u.toArray)] W (GivesQ (P i) W)):
  Calls Tryz.prog 66 #[v,(.func (.func 67) #[] #[]), .func (.func 68) #[] #[]] w (GivesQ (AllN P ns us.length) w):=by
 obtain⟨nb,W0,hnb,hW0,V0,b0,z0⟩:=boxL w [.func (.func 68) #[] #[]] 109
 obtain⟨a,cap,rfl,hc⟩:=hv.size
 obtain⟨n,hnn⟩: ∃n,us.length=n:=⟨_,rfl⟩
 rw[hnn]at hv hl hc ⊢
 have HV:=Lh hv
 have HNM:=Lh hN
 have HNB:=Lh V0
 have HL:=Lh hnn
 have HRR:=Lh HR0
 have HB0:=Lh b0
 clear hv hN hnn HR0 V0 b0 z0
 go_enter Tryz.func66,Tryz.ntmps66
 go_wp2
 go_loopw [12] (fun v12 wr=> ∃i:Nat,i≤n∧v12= .int .i64 (i:Int)∧Below W0.heap.size W0 wr∧AllN P ns i) (fun v12 _=>n-(intOf v12).toNat)
 case atStart=>exact⟨0,Nat.zero_le _,rfl,Mj _ _,fun j y hj=>by omega⟩
 case round=>
  obtain⟨i,hi,rfl,hb0,hW⟩:=hrel
  have hb:=below_step HB0.out hb0
  have HB:=Lh hb
  have HB0r:=Lh hb0
  have HW:=Lh hW
  clear hW
  by_cases hin:i<n
  ·obtain⟨s,r,hu,hs,hr⟩:=HNM.out.row (i:=i) (by rw[HL.out];exact hin)
   obtain⟨y1,rfl⟩:=hr
   have HTK:=Lh (HV.out.take i (by rw[HL.out];exact hi))
   have HNK:=Lh (HNM.out.take i)
   have HTL:Hid ((us.take i).length=i):=Lh (by rw[List.length_take,HL.out];omega)
   obtain⟨b,off,rfl,hlt,hcell⟩:=HV.out.at i _ hu
   have f0:wr.cell? ⟨b,off+i*2,none⟩=some (.string s):=(hb.cell (p:=⟨b,off+i*2,none⟩) hlt).trans (hcell 0 _ rfl)
   have f1:wr.cell? ⟨b,off+i*2+1,none⟩=some (.string y1):=(hb.cell (p:=⟨b,off+i*2+1,none⟩) hlt).trans (hcell 1 _ rfl)
   have HSN:=Lh hs
   have HRI:=Lh (HRR.out i _ hu)
   have hi1:IntKind.i64.wrap ((i:Int)+1)=((i+1:Nat):Int):=by rw[IntKind.wrap_i64];omega
   obtain⟨xb,W1,hxb,hW1,V1,b1,z1⟩:=boxL wr [.string ⟨#[]⟩, .string ⟨#[]⟩] 103
   have c0:=V1.c 0 rfl
   have q0:=V1.q 0 rfl
   have c1:=V1.c 1 rfl
   have q1:=V1.q 1 rfl
   obtain⟨W2,hW2⟩: ∃W2,putL xb 0 [.string s, .string y1] W1=W2:=⟨_,rfl⟩
   have HV2:Hid (VarL W2 xb [.string s, .string y1]):=Lh (by rw[←hW2];exact putL_var [.string s, .string y1] [] [.string ⟨#[]⟩, .string ⟨#[]⟩] W1 V1 rfl)
   have hb2:Below wr.heap.size wr W2:=by rw[←hW2];exact putL_below _ (by omega) _ _ b1
   have HB2:=Lh (below_step hb hb2)
   have HN2:=Lh (HNB.out.after (below_step hb0 hb2))
   have HBT:=Lh hb2
   have d0:=HV2.out.c 0 rfl
   have d1:=HV2.out.c 1 rfl
   have hi4:(i:Int)≤(cap:Int):=by omega
   have HIN:=Lh hin
   simp only[putL,Ly]at hW2
   clear hu hs hlt hcell hb hb0 b1 z1 V1 hb2
   have HRC:=Lh (HRI.out W2 HB2.out)
   by_cases hP:P i
   ·have HP:=Lh hP
    clear hP
    by_cases hk: ∃k,k<i∧ns[k]?=some s
    ·have HK:=Lh hk
     clear hk
     go_wp2_with (first
      |(go_at_call 67;(with_reducible refine(HRC.out).mono ?_);rintro e w3 ⟨q,rfl,hq,h3⟩;obtain rfl:q=true:=hq.mpr HP.out;have G3:=Lh h3;clear hq h3;have HC:=Lh (label_contains s y1 nb xb (us.take i) (ns.take i) _ w3 (HTK.out.below (below_step HB2.out G3.out)) HNK.out (by rw[HTL.out];omega) (HN2.out.after G3.out) (HV2.out.after G3.out));rw[HTL.out]at HC)
      |(go_at_call 116;(with_reducible refine(HC.out).mono ?_);rintro e w4 ⟨q,rfl,hq,h4⟩;obtain rfl:q=true:=hq.mpr (by obtain⟨k,h1,h2⟩:=HK.out;exact⟨k,h1,by rw[List.getElem?_take_of_lt h1];exact h2⟩);have G4:=Lh (below_step (below_step HB2.out G3.out) h4);clear hq h4))
     go_ret
     exact GivesQ.no (fun h=>by obtain⟨k,h1,h2⟩:=HK.out;exact(h i s HIN.out HSN.out).2 k s h1 h2 rfl) G4.out
    ·have HK:=Lh hk
     clear hk
     go_wp2_with (first
      |(go_at_call 67;(with_reducible refine(HRC.out).mono ?_);rintro e w3 ⟨q,rfl,hq,h3⟩;obtain rfl:q=true:=hq.mpr HP.out;have G3:=Lh h3;clear hq h3;have HC:=Lh (label_contains s y1 nb xb (us.take i) (ns.take i) _ w3 (HTK.out.below (below_step HB2.out G3.out)) HNK.out (by rw[HTL.out];omega) (HN2.out.after G3.out) (HV2.out.after G3.out));rw[HTL.out]at HC)
      |(go_at_call 116;(with_reducible refine(HC.out).mono ?_);rintro e w4 ⟨q,rfl,hq,h4⟩;obtain rfl:q=false:=(by cases q with|false=>rfl|true=>exact(HK.out (by obtain⟨k,h1,h2⟩:=hq.mp rfl;exact⟨k,h1,by rw[List.getElem?_take_of_lt h1]at h2;exact h2⟩)).elim);have G4:=Lh (below_step HBT.out (below_step G3.out h4));clear hq h4))
     go_roundw
     case rel=>exact⟨i+1,by omega,by go_num,below_step HB0r.out G4.out,fun j y hj hy=>by
      rcases Nat.lt_or_ge j i with hx|hx
      ·exact HW.out j y hx hy
      ·obtain rfl:j=i:=by omega
       rw[HSN.out]at hy
       injection hy with hy
       subst hy
       exact⟨HP.out,fun k z hk hz e=>HK.out ⟨k,hk,by rw[hz,e]⟩⟩⟩
     case measure=>simp[intOf];omega
   ·have HP:=Lh hP
    clear hP
    go_wp2_with (go_at_call 67;(with_reducible refine(HRC.out).mono ?_);rintro e w3 ⟨q,rfl,hq,h3⟩;obtain rfl:q=false:=(by cases q with|false=>rfl|true=>exact(HP.out (hq.mp rfl)).elim);have G3:=Lh (below_step HB2.out h3);clear hq h3)
    go_ret
    exact GivesQ.no (fun h=>HP.out (h i s HIN.out HSN.out).1) G3.out
  ·have en:n=i:=by omega
   subst en
   clear hb hb0
   go_wp2
   go_ret
   exact GivesQ.yes HW.out HB.out
end
section
open Go.RowKit
theorem rin_any (n a b:Int) (w:World):Calls Tryz.prog 55 #[.int .i64 n, .int .i64 a, .int .i64 b] w fun e w'=>e= .returned (.bool (decide (a≤n∧n≤b)))∧w'=w:=by
 by_cases h:a≤n
 ·by_cases h2:n≤b
  ·rw[decide_eq_true ⟨h,h2⟩]
   go_enter Tryz.func55,Tryz.ntmps55
   go_wp2
   go_ret
   exact⟨rfl,rfl⟩
  ·rw[decide_eq_false (fun hh=>h2 hh.2)]
   go_enter Tryz.func55,Tryz.ntmps55
   go_wp2
   go_ret
   exact⟨rfl,rfl⟩
 ·rw[decide_eq_false (fun hh=>h hh.1)]
  go_enter Tryz.func55,Tryz.ntmps55
  go_wp2
  go_ret
  exact⟨rfl,rfl⟩
theorem cq {q:Bool} {A B:Prop} {X:Prop} (e:q=true→A) (e2:q=false→B) (h:X):(q=false∧B)∨((q=true∧A)∧X):=by
 cases q
 ·exact Or.inl ⟨rfl,e2 rfl⟩
 ·exact Or.inr ⟨⟨rfl,e rfl⟩,h⟩
theorem tmod_ne (y k:Int):(y.tmod k !=0)= !decide (y%k=0):=by
 have h:y.tmod k=0↔y%k=0:=by rw[←Int.dvd_iff_tmod_eq_zero,←Int.dvd_iff_emod_eq_zero]
 by_cases e:y%k=0
 ·rw[decide_eq_true e];simpa using h.mpr e
 ·rw[decide_eq_false e];simpa using fun x=>e (h.mp x)
theorem rrl_any (r:RlC) (g:Int) (w:World) (hm:r.name.size≤4294967296):Calls Tryz.prog 35 #[.agg (rulV r).toArray, .int .i64 g] w (GivesQ (RuleOk g r) w):=by
 obtain⟨s,pg,lo,sh,fa,ho,ke⟩:=r
 simp only at hm
 obtain⟨gb,W1,hg,hW1,V1,b1,z1⟩:=boxL w [.string s, .bool pg, .int .i64 lo, .int .i64 sh, .int .u64 fa, .int .i64 ho, .int .i64 ke] 66
 obtain⟨q0,h0⟩:=shq_of (NameL (runesOf (nums s)))
 obtain⟨q1,h1⟩: ∃q,decide (1≤g)=q:=⟨_,rfl⟩
 obtain⟨q2,h2⟩: ∃q,decide (1≤lo∧lo≤34560000)=q:=⟨_,rfl⟩
 obtain⟨q3,h3⟩: ∃q,decide (1≤sh∧sh≤34560000)=q:=⟨_,rfl⟩
 obtain⟨q4,h4⟩: ∃q,decide (lo%g=0)=q:=⟨_,rfl⟩
 obtain⟨q5,h5⟩: ∃q,decide (sh%g=0)=q:=⟨_,rfl⟩
 obtain⟨q6,h6⟩: ∃q,decide (sh≤lo)=q:=⟨_,rfl⟩
 obtain⟨q7,h7⟩: ∃q,decide (0<fa)=q:=⟨_,rfl⟩
 obtain⟨q8,h8⟩: ∃q,decide (fa≤1000000)=q:=⟨_,rfl⟩
 obtain⟨q9,h9⟩: ∃q,decide (0≤ho∧ho≤604800)=q:=⟨_,rfl⟩
 obtain⟨q10,h10⟩: ∃q,decide (0≤ke∧ke≤604800)=q:=⟨_,rfl⟩
 have HQ:Hid ((q1&&(q2&&(q3&&(q4&&(q5&&(q6&&(q0&&(q7&&(q8&&(q9&&q10))))))))))=true↔RuleOk g ⟨s,pg,lo,sh,fa,ho,ke⟩):=Lh (by
  rw[←h1,←h2,←h3,←h4,←h5,←h6,←h7,←h8,←h9,←h10]
  simp only[Bool.and_eq_true,decide_eq_true_eq,h0]
  exact⟨fun⟨a1,⟨b1,b2⟩,⟨c1,c2⟩,d1,d2,d3,e1,f1,f2,⟨g1,g2⟩,k1,k2⟩=>⟨e1,b1,b2,a1,d1,c1,d3,d2,(show(1:Int)≤fa by omega),f2,g1,g2,k1,k2⟩,fun h=>⟨h.g1,⟨h.l1,h.l2⟩,⟨h.s1,by have:=h.s2;have:=h.l2;simp only at*;omega⟩,h.lg,h.sg,h.s2,h.nm,by have:=h.f1;simp only at*;omega,h.f2,⟨h.h1,h.h2⟩,h.k1,h.k2⟩⟩)
 have HN:=Lh (fun W=>GivesQ.is h0 (rname_any s W hm))
 have H2:Hid (∀W,Calls Tryz.prog 55 #[.int .i64 lo, .int .i64 1, .int .i64 34560000] W fun e w'=>e= .returned (.bool q2)∧w'=W):=Lh (fun W=>by rw[←h2];exact rin_any _ _ _ W)
 have H3:Hid (∀W,Calls Tryz.prog 55 #[.int .i64 sh, .int .i64 1, .int .i64 34560000] W fun e w'=>e= .returned (.bool q3)∧w'=W):=Lh (fun W=>by rw[←h3];exact rin_any _ _ _ W)
 have H9:Hid (∀W,Calls Tryz.prog 55 #[.int .i64 ho, .int .i64 0, .int .i64 604800] W fun e w'=>e= .returned (.bool q9)∧w'=W):=Lh (fun W=>by rw[←h9];exact rin_any _ _ _ W)
 have H10:Hid (∀W,Calls Tryz.prog 55 #[.int .i64 ke, .int .i64 0, .int .i64 604800] W fun e w'=>e= .returned (.bool q10)∧w'=W):=Lh (fun W=>by rw[←h10];exact rin_any _ _ _ W)
 have A1:q1=true→¬g<1∧¬g=0:=fun e=>by have:=of_decide_eq_true (h1.trans e);exact⟨by omega,by omega⟩
 have B1:q1=false→g<1:=fun e=>by have:=of_decide_eq_false (h1.trans e);exact by omega
 have A4:q4=true→(lo.tmod g !=0)=false:=fun e=>by have:=of_decide_eq_true (h4.trans e);exact by rw[tmod_ne,decide_eq_true this];rfl
 have B4:q4=false→(lo.tmod g !=0)=true:=fun e=>by have:=of_decide_eq_false (h4.trans e);exact by rw[tmod_ne,decide_eq_false this];rfl
 have A5:q5=true→(sh.tmod g !=0)=false:=fun e=>by have:=of_decide_eq_true (h5.trans e);exact by rw[tmod_ne,decide_eq_true this];rfl
 have B5:q5=false→(sh.tmod g !=0)=true:=fun e=>by have:=of_decide_eq_false (h5.trans e);exact by rw[tmod_ne,decide_eq_false this];rfl
 have A6:q6=true→¬lo<sh:=fun e=>by have:=of_decide_eq_true (h6.trans e);exact by omega
 have B6:q6=false→lo<sh:=fun e=>by have:=of_decide_eq_false (h6.trans e);exact by omega
 have A7:q7=true→0<fa:=fun e=>by have:=of_decide_eq_true (h7.trans e);exact this
 have B7:q7=false→¬0<fa:=fun e=>by have:=of_decide_eq_false (h7.trans e);exact this
 have A8:q8=true→fa≤1000000:=fun e=>by have:=of_decide_eq_true (h8.trans e);exact this
 have B8:q8=false→¬fa≤1000000:=fun e=>by have:=of_decide_eq_false (h8.trans e);exact this
 have HB:=Lh b1
 have HV:=Lh V1
 have c0:=V1.c 0 rfl
 have c1:=V1.c 1 rfl
 have c2:=V1.c 2 rfl
 have c3:=V1.c 3 rfl
 have c4:=V1.c 4 rfl
 have c5:=V1.c 5 rfl
 have c6:=V1.c 6 rfl
 have hch:=(cq (q:=q1) A1 B1 (ch (q:=q2) (ch (q:=q3) (cq (q:=q4) A4 B4 (cq (q:=q5) A5 B5 (cq (q:=q6) A6 B6 (ch (q:=q0) (cq (q:=q7) A7 B7 (cq (q:=q8) A8 B8 (ch (q:=q9) (eqb q10)))))))))))
 clear hm b1 z1 V1 h0 h1 h2 h3 h4 h5 h6 h7 h8 h9 h10 A1 B1 A4 B4 A5 B5 A6 B6 A7 B7 A8 B8
 show Calls Tryz.prog 35 #[.agg #[.string s, .bool pg, .int .i64 lo, .int .i64 sh, .int .u64 fa, .int .i64 ho, .int .i64 ke], .int .i64 g] w _
 rcases hch with⟨rfl,x1⟩|⟨⟨rfl,x1,y1⟩,rfl|⟨rfl,rfl|⟨rfl,⟨rfl,x4⟩|⟨⟨rfl,x4⟩,⟨rfl,x5⟩|⟨⟨rfl,x5⟩,⟨rfl,x6⟩|⟨⟨rfl,x6⟩,rfl|⟨rfl,⟨rfl,x7⟩|⟨⟨rfl,x7⟩,⟨rfl,x8⟩|⟨⟨rfl,x8⟩,rfl|⟨rfl,rfl|rfl⟩⟩⟩⟩⟩⟩⟩⟩⟩⟩
 all_goals
  go_enter Tryz.func35,Tryz.ntmps35
  go_wp2_with (first
  |(go_at_call 71;(with_reducible refine(HN.out _).mono ?_);rintro e W2 ⟨rfl,h⟩;have DD:=Lh h;have d4:=(HV.out.after h).c 4 rfl;have d5:=(HV.out.after h).c 5 rfl;have d6:=(HV.out.after h).c 6 rfl;clear h)
  |(go_at_call 55;(with_reducible refine(H2.out _).mono ?_);rintro e w' ⟨rfl,rfl⟩)
  |(go_at_call 55;(with_reducible refine(H3.out _).mono ?_);rintro e w' ⟨rfl,rfl⟩)
  |(go_at_call 55;(with_reducible refine(H9.out _).mono ?_);rintro e w' ⟨rfl,rfl⟩)
  |(go_at_call 55;(with_reducible refine(H10.out _).mono ?_);rintro e w' ⟨rfl,rfl⟩))
  go_ret
  exact⟨_,rfl,by simpa using HQ.out,by first|exact below_step HB.out DD.out|exact HB.out⟩
end
section
structure WordR (t:Tk3):Prop where
 lo:1≤t.k
 hi:t.k≤6
 right:RightT t.k t.s t.n
def EachR:List It→Prop
 | []=>True
 | .mk n w k kids _ _::l=>NameL (runesOf (nums n))∧w.length≤6∧(k=true∨kids= [])∧(∀t∈w,WordR t)∧EachR kids∧EachR l
def NumsR:List It→Prop
 | []=>True
 | .mk _ w _ kids _ _::l=>(∀t∈w,0≤t.n∧t.n≤18446744073709551615)∧NumsR kids∧NumsR l
structure RightL (L:List It):Prop where
 deep:depL L≤4
 many:cntL L≤300
 each:EachR L
def indP (d:Nat):List Int:=List.replicate (2*(d-1)) 32
def wordsP (w:List Tk3):List Int:=w.flatMap fun t=>32::prT t.k t.s t.n.toNat
def prtL:Nat→List It→List Int
 |_,[]=> []
 |d, .mk n w k kids _ _::l=>indP d++(nums n++(wordsP w++(if k then [32,123,10]++(prtL (d+1) kids++(indP d++ [125,10]))else [59,10])))++prtL d l
def wordsU (w:List Tk3):List Int:=w.flatMap fun t=>32::runesOf (prT t.k t.s t.n.toNat)
def prtU:Nat→List It→List Int
 |_,[]=> []
 |d, .mk n w k kids _ _::l=>indP d++(runesOf (nums n)++(wordsU w++(if k then [32,123,10]++(prtU (d+1) kids++(indP d++ [125,10]))else [59,10])))++prtU d l
def Runs (a u:List Int):Prop:= ∀ys:List Int,runesOf (a++ys)=u++runesOf ys
theorem nat_n {t:Tk3} (h:0≤t.n):((t.n.toNat:Nat):Int)=t.n:=by omega
def Eats (a R:List Int) (T:List Tk3):Prop:= ∀(l:List Int) (i:Nat),l.drop i=a++R→∃M:List (TkV×Nat),M.map (fun x=>tkB x.1)=T∧tokF l i=(tokF l (i+a.length)).map (fun N=>M++N)
end
section
def ShapeR:List It→Prop
 | []=>True
 | .mk _ w k kids _ _::l=>w.length≤6∧(k=true∨kids= [])∧(∀t∈w,1≤t.k∧t.k≤6)∧ShapeR kids∧ShapeR l
theorem EachR.shape: ∀ {L:List It},EachR L→ShapeR L
 | [],_=>by simp[ShapeR]
 | .mk n w k kids a b::l,h=>by
  rw[EachR]at h
  rw[ShapeR]
  exact⟨h.2.1,h.2.2.1,fun t ht=>⟨(h.2.2.2.1 t ht).lo,(h.2.2.2.1 t ht).hi⟩,EachR.shape h.2.2.2.2.1,EachR.shape h.2.2.2.2.2⟩
end
section
structure TkRight (t:TkV):Prop where
 right:RightT (t.kind:Int) (strOfNums t.text) (t.n:Int)
 n9:t.n≤18446744073709551615
def QOk:Qs→Prop
 | .norm xs=> ∀r∈xs,RuneOk r
 | .esc xs=> ∀r∈xs,RuneOk r
 | .uni xs=> ∀r∈xs,RuneOk r
 | .hex xs _ x=>(∀r∈xs,RuneOk r)∧0≤x
 | .done xs=> ∀r∈xs,RuneOk r
 | .start=>True
 | .dead=>True
def T3R (t:Tk3):Prop:=RightT t.k t.s t.n∧0≤t.n∧t.n≤18446744073709551615
def HdR (h:Hd):Prop:=NameL (runesOf (nums h.name))∧h.words.length≤6∧(∀t∈h.words,WordR t)∧∀t∈h.words,0≤t.n∧t.n≤18446744073709551615
def ItsR (L:List It):Prop:=EachR L∧NumsR L
end
section
open Go.RowKit
def ruleQ (s:ByteArray) (u:List Value):Prop:= ∃(y1:Bool) (y2 y3 y4 y5 y6:Int),u= [.string s, .bool y1, .int .i64 y2, .int .i64 y3, .int .u64 y4, .int .i64 y5, .int .i64 y6]
theorem rule_name (s:ByteArray) (y1:Bool) (y2 y3 y4 y5 y6:Int) (w:World):Calls Tryz.prog 70 #[.agg #[.string s, .bool y1, .int .i64 y2, .int .i64 y3, .int .u64 y4, .int .i64 y5, .int .i64 y6]] w fun e w'=>e= .returned (.string s)∧Below w.heap.size w w':=by
 obtain⟨yb,W1,hyb,hW1,V1,b1,z1⟩:=boxL w [.string s, .bool y1, .int .i64 y2, .int .i64 y3, .int .u64 y4, .int .i64 y5, .int .i64 y6] 66
 have c0:=V1.c 0 rfl
 have HB:=Lh b1
 clear b1 V1 z1
 go_enter Tryz.func70,Tryz.ntmps70
 go_wp2
 go_ret
 exact⟨rfl,HB.out⟩
theorem rule_same (s t:ByteArray) (y1:Bool) (y2 y3 y4 y5 y6:Int) (x1:Bool) (x2 x3 x4 x5 x6:Int) (nb xb:Nat) (w:World) (hn:VarL w nb [.func (.func 70) #[] #[]]) (hx:VarL w xb [.string t, .bool x1, .int .i64 x2, .int .i64 x3, .int .u64 x4, .int .i64 x5, .int .i64 x6]):
  Calls Tryz.prog 119 #[.agg #[.string s, .bool y1, .int .i64 y2, .int .i64 y3, .int .u64 y4, .int .i64 y5, .int .i64 y6], .pointer (some ⟨nb,0,none⟩), .pointer (some ⟨xb,0,none⟩)] w fun e w'=>e= .returned (.bool (decide (s=t)))∧Below w.heap.size w w':=by
 obtain⟨yb,W1,hyb,hW1,V1,b1,z1⟩:=boxL w [.string s, .bool y1, .int .i64 y2, .int .i64 y3, .int .u64 y4, .int .i64 y5, .int .i64 y6] 66
 have HB:=Lh b1
 have HC:Hid (∀W,Below W1.heap.size W1 W→W.cell? ⟨nb,0,none⟩=some (.func (.func 70) #[] #[])∧(W.cell? ⟨yb,0,none⟩=some (.string s)∧W.cell? ⟨yb,1,none⟩=some (.bool y1)∧W.cell? ⟨yb,2,none⟩=some (.int .i64 y2)∧W.cell? ⟨yb,3,none⟩=some (.int .i64 y3)∧W.cell? ⟨yb,4,none⟩=some (.int .u64 y4)∧W.cell? ⟨yb,5,none⟩=some (.int .i64 y5)∧W.cell? ⟨yb,6,none⟩=some (.int .i64 y6))∧W.cell? ⟨xb,0,none⟩=some (.string t)∧W.cell? ⟨xb,1,none⟩=some (.bool x1)∧W.cell? ⟨xb,2,none⟩=some (.int .i64 x2)∧W.cell? ⟨xb,3,none⟩=some (.int .i64 x3)∧W.cell? ⟨xb,4,none⟩=some (.int .u64 x4)∧W.cell? ⟨xb,5,none⟩=some (.int .i64 x5)∧W.cell? ⟨xb,6,none⟩=some (.int .i64 x6)):=Lh (fun W b=>
  ⟨((hn.after b1).after b).c 0 rfl,⟨(V1.after b).c 0 rfl,(V1.after b).c 1 rfl,(V1.after b).c 2 rfl,(V1.after b).c 3 rfl,(V1.after b).c 4 rfl,(V1.after b).c 5 rfl,(V1.after b).c 6 rfl⟩,((hx.after b1).after b).c 0 rfl,((hx.after b1).after b).c 1 rfl,((hx.after b1).after b).c 2 rfl,((hx.after b1).after b).c 3 rfl,((hx.after b1).after b).c 4 rfl,((hx.after b1).after b).c 5 rfl,((hx.after b1).after b).c 6 rfl⟩)
 have HNY:=Lh (fun W=>rule_name s y1 y2 y3 y4 y5 y6 W)
 have HNX:=Lh (fun W=>rule_name t x1 x2 x3 x4 x5 x6 W)
 obtain⟨q,hq⟩: ∃q,decide (s=t)=q:=⟨_,rfl⟩
 have HE:Hid ((s.toList==t.toList)=q):=Lh ((str_same s t).trans hq)
 rw[hq]
 clear b1 V1 z1 hn hx hq
 go_enter Tryz.func119,Tryz.ntmps119
 go_wp2
 refine wp_region_mix 6 (TVs [.func (.func 70) #[] #[], .agg #[.string s, .bool y1, .int .i64 y2, .int .i64 y3, .int .u64 y4, .int .i64 y5, .int .i64 y6], .string s, .func (.func 70) #[] #[], .agg #[.string t, .bool x1, .int .i64 x2, .int .i64 x3, .int .u64 x4, .int .i64 x5, .int .i64 x6], .string t]) (fun _=>false) (by kernel_rfl) (by kernel_rfl) (TVs.keep _) (fun _ _ _ h=>by cases h) ?_ ?_
 ·refine⟨?_,?_,?_,?_,?_,?_,trivial⟩
  ·intro u W hb hd
   obtain⟨n0,_⟩:=HC.out W hb
   simp only[Kj,Jh,putAll,Mq,Lq,Lk,Lj,Ly,Lx]
   go_wp2
   first|exact⟨rfl,Mj _ _⟩|exact⟨_,rfl,rfl,Mj _ _⟩|exact⟨_,rfl,rfl,Mj _ _,fun h=>by simp at h⟩
  ·intro u W hb hd
   obtain⟨_,⟨y00,y01,y02,y03,y04,y05,y06⟩,_⟩:=HC.out W hb
   simp only[Kj,Jh,putAll,Mq,Lq,Lk,Lj,Ly,Lx]
   go_wp2
   first|exact⟨rfl,Mj _ _⟩|exact⟨_,rfl,rfl,Mj _ _⟩|exact⟨_,rfl,rfl,Mj _ _,fun h=>by simp at h⟩
  ·intro u W hb hd
   have e0:u 0= .func (.func 70) #[] #[]:=hd.1 rfl (by decide)
   have e1:u 1= .agg #[.string s, .bool y1, .int .i64 y2, .int .i64 y3, .int .u64 y4, .int .i64 y5, .int .i64 y6]:=hd.2.1 rfl (by decide)
   simp only[Kj,Jh,putAll,Mq,Lq,Lk,Lj,Ly,Lx]
   rw[e0,e1]
   go_wp2_with (go_at_call 70;(with_reducible refine(HNY.out _).mono ?_);rintro e W2 ⟨rfl,g⟩)
   first|exact⟨rfl,g⟩|exact⟨_,rfl,rfl,g⟩|exact⟨_,rfl,rfl,g,fun h=>by simp at h⟩
  ·intro u W hb hd
   obtain⟨n0,_⟩:=HC.out W hb
   simp only[Kj,Jh,putAll,Mq,Lq,Lk,Lj,Ly,Lx]
   go_wp2
   first|exact⟨rfl,Mj _ _⟩|exact⟨_,rfl,rfl,Mj _ _⟩|exact⟨_,rfl,rfl,Mj _ _,fun h=>by simp at h⟩
  ·intro u W hb hd
   obtain⟨_,_,x00,x01,x02,x03,x04,x05,x06⟩:=HC.out W hb
   simp only[Kj,Jh,putAll,Mq,Lq,Lk,Lj,Ly,Lx]
   go_wp2
   first|exact⟨rfl,Mj _ _⟩|exact⟨_,rfl,rfl,Mj _ _⟩|exact⟨_,rfl,rfl,Mj _ _,fun h=>by simp at h⟩
  ·intro u W hb hd
   have e0:u 3= .func (.func 70) #[] #[]:=hd.1 rfl (by decide)
   have e1:u 4= .agg #[.string t, .bool x1, .int .i64 x2, .int .i64 x3, .int .u64 x4, .int .i64 x5, .int .i64 x6]:=hd.2.1 rfl (by decide)
   simp only[Kj,Jh,putAll,Mq,Lq,Lk,Lj,Ly,Lx]
   rw[e0,e1]
   go_wp2_with (go_at_call 70;(with_reducible refine(HNX.out _).mono ?_);rintro e W2 ⟨rfl,g⟩)
   first|exact⟨rfl,g⟩|exact⟨_,rfl,rfl,g⟩|exact⟨_,rfl,rfl,g,fun h=>by simp at h⟩
 ·intro u W hb hT _
  have e2:u 2= .string s:=hT 2 (by decide)
  have e5:u 5= .string t:=hT 5 (by decide)
  have HB2:=Lh (below_step HB.out hb)
  have he:=HE.out
  clear hb hT
  simp only[Kj,Jh,Jj,Jk,putAll,Mq,Lq,Lk,Lj,Ly,Lx]
  rw[e2,e5]
  go_wp2
  go_ret
  exact⟨rfl,HB2.out⟩
theorem rule_index (t:ByteArray) (x1:Bool) (x2 x3 x4 x5 x6:Int) (nb xb:Nat) (us:List (List Value)) (ns:List ByteArray) (v:Value) (w:World) (hv:InK 7 w v us) (hN:NamedK ruleQ us ns) (hl:us.length≤1000000) (hn:VarL w nb [.func (.func 70) #[] #[]]) (hx:VarL w xb [.string t, .bool x1, .int .i64 x2, .int .i64 x3, .int .u64 x4, .int .i64 x5, .int .i64 x6]):
  Calls Tryz.prog 173 #[v, .func (.func 119) #[] #[.pointer (some ⟨nb,0,none⟩), .pointer (some ⟨xb,0,none⟩)]] w fun e w'=>(∃i:Int,e= .returned (.int .i64 i)∧((0≤i∧∃k,k<us.length∧ns[k]?=some t)∨(i= -1∧∀(k:Nat) y,k<us.length→ns[k]?=some y→y≠t)))∧Below w.heap.size w w':=by
 obtain⟨a,cap,rfl,hc⟩:=hv.size
 obtain⟨n,hnn⟩: ∃n,us.length=n:=⟨_,rfl⟩
 rw[hnn]at hv hl ⊢
 have HV:=Lh hv
 have HNM:=Lh hN
 have HNB:=Lh hn
 have HXB:=Lh hx
 have HL:=Lh hnn
 clear hv hN hn hx hc hnn
 go_enter Tryz.func173,Tryz.ntmps173
 go_wp2
 go_loopw [8] (fun v8 wr=> ∃i:Nat,i≤n∧v8= .int .i64 (i:Int)∧Below w.heap.size w wr∧∀(k:Nat) y,k<i→ns[k]?=some y→y≠t) (fun v8 _=>n-(intOf v8).toNat)
 case atStart=>exact⟨0,Nat.zero_le _,rfl,Mj _ _,fun k y hk=>by omega⟩
 case round=>
  obtain⟨i,hi,rfl,hb,hW⟩:=hrel
  have HB:=Lh hb
  have HW:=Lh hW
  clear hW
  by_cases hin:i<n
  ·obtain⟨s,r,hu,hs,hr⟩:=HNM.out.row (i:=i) (by rw[HL.out];exact hin)
   obtain⟨y1,y2,y3,y4,y5,y6,rfl⟩:=hr
   obtain⟨b,off,rfl,hlt,hcell⟩:=HV.out.at i _ hu
   have f0:wr.cell? ⟨b,off+i*7,none⟩=some (.string s):=(hb.cell (p:=⟨b,off+i*7,none⟩) hlt).trans (hcell 0 _ rfl)
   have f1:wr.cell? ⟨b,off+i*7+1,none⟩=some (.bool y1):=(hb.cell (p:=⟨b,off+i*7+1,none⟩) hlt).trans (hcell 1 _ rfl)
   have f2:wr.cell? ⟨b,off+i*7+2,none⟩=some (.int .i64 y2):=(hb.cell (p:=⟨b,off+i*7+2,none⟩) hlt).trans (hcell 2 _ rfl)
   have f3:wr.cell? ⟨b,off+i*7+3,none⟩=some (.int .i64 y3):=(hb.cell (p:=⟨b,off+i*7+3,none⟩) hlt).trans (hcell 3 _ rfl)
   have f4:wr.cell? ⟨b,off+i*7+4,none⟩=some (.int .u64 y4):=(hb.cell (p:=⟨b,off+i*7+4,none⟩) hlt).trans (hcell 4 _ rfl)
   have f5:wr.cell? ⟨b,off+i*7+5,none⟩=some (.int .i64 y5):=(hb.cell (p:=⟨b,off+i*7+5,none⟩) hlt).trans (hcell 5 _ rfl)
   have f6:wr.cell? ⟨b,off+i*7+6,none⟩=some (.int .i64 y6):=(hb.cell (p:=⟨b,off+i*7+6,none⟩) hlt).trans (hcell 6 _ rfl)
   have HS:=Lh (rule_same s t y1 y2 y3 y4 y5 y6 x1 x2 x3 x4 x5 x6 nb xb wr (HNB.out.after hb) (HXB.out.after hb))
   have HSN:=Lh hs
   have hi1:IntKind.i64.wrap ((i:Int)+1)=((i+1:Nat):Int):=by rw[IntKind.wrap_i64];omega
   clear hu hs hlt hcell hb
   by_cases he:s=t
   ·subst he
    rw[decide_eq_true rfl]at HS
    have HI:Hid ((0:Int)≤(i:Int)∧i<n):=Lh ⟨by omega,hin⟩
    go_wp2_with (go_at_call 119;(with_reducible refine(HS.out).mono ?_);rintro e w2 ⟨rfl,h2⟩;have G2:=Lh (below_step HB.out h2);clear h2)
    go_ret
    exact⟨⟨_,rfl,Or.inl ⟨HI.out.1,i,HI.out.2,HSN.out⟩⟩,G2.out⟩
   ·have HNE:=Lh he
    rw[decide_eq_false he]at HS
    clear he
    go_wp2_with (go_at_call 119;(with_reducible refine(HS.out).mono ?_);rintro e w2 ⟨rfl,h2⟩;have G2:=Lh (below_step HB.out h2);clear h2)
    go_roundw
    case rel=>exact⟨i+1,by omega,by go_num,G2.out,fun k y hk hy=>by
     rcases Nat.lt_or_ge k i with hx|hx
     ·exact HW.out k y hx hy
     ·obtain rfl:k=i:=by omega
      rw[HSN.out]at hy
      injection hy with hy
      rw[←hy];exact HNE.out⟩
    case measure=>simp[intOf];omega
  ·have en:n=i:=by omega
   subst en
   clear hb
   go_wp2
   go_ret
   exact⟨⟨_,rfl,Or.inr ⟨rfl,HW.out⟩⟩,HB.out⟩
theorem rule_contains (t:ByteArray) (x1:Bool) (x2 x3 x4 x5 x6:Int) (nb xb:Nat) (us:List (List Value)) (ns:List ByteArray) (v:Value) (w:World) (hv:InK 7 w v us) (hN:NamedK ruleQ us ns) (hl:us.length≤1000000) (hn:VarL w nb [.func (.func 70) #[] #[]]) (hx:VarL w xb [.string t, .bool x1, .int .i64 x2, .int .i64 x3, .int .u64 x4, .int .i64 x5, .int .i64 x6]):
  Calls Tryz.prog 120 #[v, .func (.func 119) #[] #[.pointer (some ⟨nb,0,none⟩), .pointer (some ⟨xb,0,none⟩)]] w (GivesQ (∃k,k<us.length∧ns[k]?=some t) w):=by
 have HI:=Lh (rule_index t x1 x2 x3 x4 x5 x6 nb xb us ns v w hv hN hl hn hx)
 obtain⟨a1,c1,rfl,_⟩:=hv.size
 clear hv hN hn hx
 go_enter Tryz.func120,Tryz.ntmps120
 go_wp2_with (go_at_call 173;(with_reducible refine(HI.out).mono ?_);rintro e w2 ⟨⟨i,rfl,(⟨hi,hall⟩|⟨rfl,hall⟩)⟩,h2⟩<;>(have HA:=Lh hall;have G2:=Lh h2;clear hall h2))
 ·go_ret
  exact GivesQ.yes HA.out G2.out
 ·go_ret
  exact GivesQ.no (fun⟨k,h1,h2⟩=>HA.out k _ h1 h2 rfl) G2.out
theorem rule_all (gb:Nat) (P:Nat→Prop) (us:List (List Value)) (ns:List ByteArray) (v:Value) (w:World) (hv:InK 7 w v us) (hN:NamedK ruleQ us ns) (hl:us.length≤1000000)
  (HR0: ∀(i:Nat) (u:List Value),us[i]?=some u→∀W,Below w.heap.size w W→Calls Tryz.prog 61 #[(.agg u.toArray), .pointer (some ⟨gb,0,none⟩)] W (GivesQ (P i) W)):
  Calls Tryz.prog 69 #[v,(.func (.func 61) #[] #[.pointer (some ⟨gb,0,none⟩)]), .func (.func 70) #[] #[]] w (GivesQ (AllN P ns us.length) w):=by
 obtain⟨nb,W0,hnb,hW0,V0,b0,z0⟩:=boxL w [.func (.func 70) #[] #[]] 111
 obtain⟨a,cap,rfl,hc⟩:=hv.size
 obtain⟨n,hnn⟩: ∃n,us.length=n:=⟨_,rfl⟩
 rw[hnn]at hv hl hc ⊢
 have HV:=Lh hv
 have HNM:=Lh hN
 have HNB:=Lh V0
 have HL:=Lh hnn
 have HRR:=Lh HR0
 have HB0:=Lh b0
 clear hv hN hnn HR0 V0 b0 z0
 go_enter Tryz.func69,Tryz.ntmps69
 go_wp2
 go_loopw [12] (fun v12 wr=> ∃i:Nat,i≤n∧v12= .int .i64 (i:Int)∧Below W0.heap.size W0 wr∧AllN P ns i) (fun v12 _=>n-(intOf v12).toNat)
 case atStart=>exact⟨0,Nat.zero_le _,rfl,Mj _ _,fun j y hj=>by omega⟩
 case round=>
  obtain⟨i,hi,rfl,hb0,hW⟩:=hrel
  have hb:=below_step HB0.out hb0
  have HB:=Lh hb
  have HB0r:=Lh hb0
  have HW:=Lh hW
  clear hW
  by_cases hin:i<n
  ·obtain⟨s,r,hu,hs,hr⟩:=HNM.out.row (i:=i) (by rw[HL.out];exact hin)
   obtain⟨y1,y2,y3,y4,y5,y6,rfl⟩:=hr
   have HTK:=Lh (HV.out.take i (by rw[HL.out];exact hi))
   have HNK:=Lh (HNM.out.take i)
   have HTL:Hid ((us.take i).length=i):=Lh (by rw[List.length_take,HL.out];omega)
   obtain⟨b,off,rfl,hlt,hcell⟩:=HV.out.at i _ hu
   have f0:wr.cell? ⟨b,off+i*7,none⟩=some (.string s):=(hb.cell (p:=⟨b,off+i*7,none⟩) hlt).trans (hcell 0 _ rfl)
   have f1:wr.cell? ⟨b,off+i*7+1,none⟩=some (.bool y1):=(hb.cell (p:=⟨b,off+i*7+1,none⟩) hlt).trans (hcell 1 _ rfl)
   have f2:wr.cell? ⟨b,off+i*7+2,none⟩=some (.int .i64 y2):=(hb.cell (p:=⟨b,off+i*7+2,none⟩) hlt).trans (hcell 2 _ rfl)
   have f3:wr.cell? ⟨b,off+i*7+3,none⟩=some (.int .i64 y3):=(hb.cell (p:=⟨b,off+i*7+3,none⟩) hlt).trans (hcell 3 _ rfl)
   have f4:wr.cell? ⟨b,off+i*7+4,none⟩=some (.int .u64 y4):=(hb.cell (p:=⟨b,off+i*7+4,none⟩) hlt).trans (hcell 4 _ rfl)
   have f5:wr.cell? ⟨b,off+i*7+5,none⟩=some (.int .i64 y5):=(hb.cell (p:=⟨b,off+i*7+5,none⟩) hlt).trans (hcell 5 _ rfl)
   have f6:wr.cell? ⟨b,off+i*7+6,none⟩=some (.int .i64 y6):=(hb.cell (p:=⟨b,off+i*7+6,none⟩) hlt).trans (hcell 6 _ rfl)
   have HSN:=Lh hs
   have HRI:=Lh (HRR.out i _ hu)
   have hi1:IntKind.i64.wrap ((i:Int)+1)=((i+1:Nat):Int):=by rw[IntKind.wrap_i64];omega
   obtain⟨xb,W1,hxb,hW1,V1,b1,z1⟩:=boxL wr [.string ⟨#[]⟩, .bool false, .int .i64 0, .int .i64 0, .int .u64 0, .int .i64 0, .int .i64 0] 66
   have c0:=V1.c 0 rfl
   have q0:=V1.q 0 rfl
   have c1:=V1.c 1 rfl
   have q1:=V1.q 1 rfl
   have c2:=V1.c 2 rfl
   have q2:=V1.q 2 rfl
   have c3:=V1.c 3 rfl
   have q3:=V1.q 3 rfl
   have c4:=V1.c 4 rfl
   have q4:=V1.q 4 rfl
   have c5:=V1.c 5 rfl
   have q5:=V1.q 5 rfl
   have c6:=V1.c 6 rfl
   have q6:=V1.q 6 rfl
   obtain⟨W2,hW2⟩: ∃W2,putL xb 0 [.string s, .bool y1, .int .i64 y2, .int .i64 y3, .int .u64 y4, .int .i64 y5, .int .i64 y6] W1=W2:=⟨_,rfl⟩
   have HV2:Hid (VarL W2 xb [.string s, .bool y1, .int .i64 y2, .int .i64 y3, .int .u64 y4, .int .i64 y5, .int .i64 y6]):=Lh (by rw[←hW2];exact putL_var [.string s, .bool y1, .int .i64 y2, .int .i64 y3, .int .u64 y4, .int .i64 y5, .int .i64 y6] [] [.string ⟨#[]⟩, .bool false, .int .i64 0, .int .i64 0, .int .u64 0, .int .i64 0, .int .i64 0] W1 V1 rfl)
   have hb2:Below wr.heap.size wr W2:=by rw[←hW2];exact putL_below _ (by omega) _ _ b1
   have HB2:=Lh (below_step hb hb2)
   have HN2:=Lh (HNB.out.after (below_step hb0 hb2))
   have HBT:=Lh hb2
   have d0:=HV2.out.c 0 rfl
   have d1:=HV2.out.c 1 rfl
   have d2:=HV2.out.c 2 rfl
   have d3:=HV2.out.c 3 rfl
   have d4:=HV2.out.c 4 rfl
   have d5:=HV2.out.c 5 rfl
   have d6:=HV2.out.c 6 rfl
   have hi4:(i:Int)≤(cap:Int):=by omega
   have HIN:=Lh hin
   simp only[putL,Ly]at hW2
   clear hu hs hlt hcell hb hb0 b1 z1 V1 hb2
   have HRC:=Lh (HRI.out W2 HB2.out)
   by_cases hP:P i
   ·have HP:=Lh hP
    clear hP
    by_cases hk: ∃k,k<i∧ns[k]?=some s
    ·have HK:=Lh hk
     clear hk
     go_wp2_with (first
      |(go_at_call 61;(with_reducible refine(HRC.out).mono ?_);rintro e w3 ⟨q,rfl,hq,h3⟩;obtain rfl:q=true:=hq.mpr HP.out;have G3:=Lh h3;clear hq h3;have HC:=Lh (rule_contains s y1 y2 y3 y4 y5 y6 nb xb (us.take i) (ns.take i) _ w3 (HTK.out.below (below_step HB2.out G3.out)) HNK.out (by rw[HTL.out];omega) (HN2.out.after G3.out) (HV2.out.after G3.out));rw[HTL.out]at HC)
      |(go_at_call 120;(with_reducible refine(HC.out).mono ?_);rintro e w4 ⟨q,rfl,hq,h4⟩;obtain rfl:q=true:=hq.mpr (by obtain⟨k,h1,h2⟩:=HK.out;exact⟨k,h1,by rw[List.getElem?_take_of_lt h1];exact h2⟩);have G4:=Lh (below_step (below_step HB2.out G3.out) h4);clear hq h4))
     go_ret
     exact GivesQ.no (fun h=>by obtain⟨k,h1,h2⟩:=HK.out;exact(h i s HIN.out HSN.out).2 k s h1 h2 rfl) G4.out
    ·have HK:=Lh hk
     clear hk
     go_wp2_with (first
      |(go_at_call 61;(with_reducible refine(HRC.out).mono ?_);rintro e w3 ⟨q,rfl,hq,h3⟩;obtain rfl:q=true:=hq.mpr HP.out;have G3:=Lh h3;clear hq h3;have HC:=Lh (rule_contains s y1 y2 y3 y4 y5 y6 nb xb (us.take i) (ns.take i) _ w3 (HTK.out.below (below_step HB2.out G3.out)) HNK.out (by rw[HTL.out];omega) (HN2.out.after G3.out) (HV2.out.after G3.out));rw[HTL.out]at HC)
      |(go_at_call 120;(with_reducible refine(HC.out).mono ?_);rintro e w4 ⟨q,rfl,hq,h4⟩;obtain rfl:q=false:=(by cases q with|false=>rfl|true=>exact(HK.out (by obtain⟨k,h1,h2⟩:=hq.mp rfl;exact⟨k,h1,by rw[List.getElem?_take_of_lt h1]at h2;exact h2⟩)).elim);have G4:=Lh (below_step HBT.out (below_step G3.out h4));clear hq h4))
     go_roundw
     case rel=>exact⟨i+1,by omega,by go_num,below_step HB0r.out G4.out,fun j y hj hy=>by
      rcases Nat.lt_or_ge j i with hx|hx
      ·exact HW.out j y hx hy
      ·obtain rfl:j=i:=by omega
       rw[HSN.out]at hy
       injection hy with hy
       subst hy
       exact⟨HP.out,fun k z hk hz e=>HK.out ⟨k,hk,by rw[hz,e]⟩⟩⟩
     case measure=>simp[intOf];omega
   ·have HP:=Lh hP
    clear hP
    go_wp2_with (go_at_call 61;(with_reducible refine(HRC.out).mono ?_);rintro e w3 ⟨q,rfl,hq,h3⟩;obtain rfl:q=false:=(by cases q with|false=>rfl|true=>exact(HP.out (hq.mp rfl)).elim);have G3:=Lh (below_step HB2.out h3);clear hq h3)
    go_ret
    exact GivesQ.no (fun h=>HP.out (h i s HIN.out HSN.out).1) G3.out
  ·have en:n=i:=by omega
   subst en
   clear hb hb0
   go_wp2
   go_ret
   exact GivesQ.yes HW.out HB.out
end
end Go.Proofs.YtiapmjkaappcfaaGreatDoor
