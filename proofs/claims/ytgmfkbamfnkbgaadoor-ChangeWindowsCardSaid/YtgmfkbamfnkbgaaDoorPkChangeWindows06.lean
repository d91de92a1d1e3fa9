/-
  Package show: numbers between two others, multiples, rules: walked.
-/
import Derived.Test.YtgmfkbamfnkbgaaDoorPkChangeWindows04
import Derived.Test.YtgmfkbamfnkbgaaDoorPkChangeWindows05
set_option maxRecDepth 100000
set_option maxHeartbeats 8000000
namespace Go.Proofs.YtgmfkbamfnkbgaaDoor
open Lib renaming hid→Lh
open Nat renaming zero_add→Ly
open List renaming getElem?_eq_getElem→Kh,length_map→Ky
section
open Go.RowKit
def ruleQc (s:ByteArray) (u:List Value):Prop:= ∃(y1:Bool) (y2 y3 y4 y5 y6:Int),u= [.string s, .bool y1, .int .i64 y2, .int .i64 y3, .int .u64 y4, .int .i64 y5, .int .i64 y6]
theorem rule_clo (s t:ByteArray) (y1:Bool) (y2 y3 y4 y5 y6:Int) (nb:Nat) (w:World) (hn:VarL w nb [.string t]):
  Calls Tryd.prog 64 #[.agg #[.string s, .bool y1, .int .i64 y2, .int .i64 y3, .int .u64 y4, .int .i64 y5, .int .i64 y6], .pointer (some ⟨nb,0,none⟩)] w fun e w'=>e= .returned (.bool (decide (s=t)))∧Below w.heap.size w w':=by
 obtain⟨yb,W1,hyb,hW1,V1,b1,z1⟩:=boxL w [.string s, .bool y1, .int .i64 y2, .int .i64 y3, .int .u64 y4, .int .i64 y5, .int .i64 y6] 52
 have c0:=V1.c 0 rfl
 have n0:=(hn.after b1).c 0 rfl
 have HB:=Lh b1
 obtain⟨q,hq⟩: ∃q,decide (s=t)=q:=⟨_,rfl⟩
 have he:(s.toList==t.toList)=q:=(str_eqb s t).trans hq
 rw[hq]
 clear b1 V1 z1 hn hq
 go_enter Tryd.func64,Tryd.ntmps64
 go_wp2
 go_ret
 exact⟨rfl,HB.out⟩
theorem rule_idx (t:ByteArray) (nb:Nat) (us:List (List Value)) (ks:List ByteArray) (v:Value) (w:World) (hv:InK 7 w v us) (hN:Keyed ruleQc us ks) (hl:us.length≤1000000) (hn:VarL w nb [.string t]):
  Calls Tryd.prog 86 #[v, .func (.func 64) #[] #[.pointer (some ⟨nb,0,none⟩)]] w fun e w'=>(∃i:Int,e= .returned (.int .i64 i)∧((∃k:Nat,i=(k:Int)∧k<us.length∧FirstK ks t k)∨(i= -1∧∀(k:Nat) y,ks[k]?=some y→y≠t)))∧Below w.heap.size w w':=by
 obtain⟨a,cap,rfl,hc⟩:=hv.size
 obtain⟨n,hnn⟩: ∃n,us.length=n:=⟨_,rfl⟩
 rw[hnn]at hv hl ⊢
 have HV:=Lh hv
 have HNM:=Lh hN
 have HNB:=Lh hn
 have HL:=Lh hnn
 clear hv hN hn hc hnn
 go_enter Tryd.func86,Tryd.ntmps86
 go_wp2
 go_loopw [8] (fun v8 wr=> ∃i:Nat,i≤n∧v8= .int .i64 (i:Int)∧Below w.heap.size w wr∧∀(k:Nat) y,k<i→ks[k]?=some y→y≠t) (fun v8 _=>n-(intOf v8).toNat)
 case atStart=>exact⟨0,Nat.zero_le _,rfl,Below.refl _ _,fun k y hk=>by omega⟩
 case round=>
  obtain⟨i,hi,rfl,hb,hW⟩:=hrel
  have HB:=Lh hb
  have HW:=Lh hW
  clear hW
  by_cases hin:i<n
  ·obtain⟨s,r,hu,hs,hr⟩:=HNM.out.row (i:=i) (by rw[HL.out];exact hin)
   obtain⟨y1,y2,y3,y4,y5,y6,rfl⟩:=hr
   obtain⟨b,off,rfl,hlt,hcell⟩:=HV.out.at i _ hu
   have f0:wr.cell? ⟨b,off+i*7,none⟩=some (.string s):=(hb.cell (p:=⟨b,off+i*7,none⟩) hlt).trans (hcell 0 _ rfl)
   have f1:wr.cell? ⟨b,off+i*7+1,none⟩=some (.bool y1):=(hb.cell (p:=⟨b,off+i*7+1,none⟩) hlt).trans (hcell 1 _ rfl)
   have f2:wr.cell? ⟨b,off+i*7+2,none⟩=some (.int .i64 y2):=(hb.cell (p:=⟨b,off+i*7+2,none⟩) hlt).trans (hcell 2 _ rfl)
   have f3:wr.cell? ⟨b,off+i*7+3,none⟩=some (.int .i64 y3):=(hb.cell (p:=⟨b,off+i*7+3,none⟩) hlt).trans (hcell 3 _ rfl)
   have f4:wr.cell? ⟨b,off+i*7+4,none⟩=some (.int .u64 y4):=(hb.cell (p:=⟨b,off+i*7+4,none⟩) hlt).trans (hcell 4 _ rfl)
   have f5:wr.cell? ⟨b,off+i*7+5,none⟩=some (.int .i64 y5):=(hb.cell (p:=⟨b,off+i*7+5,none⟩) hlt).trans (hcell 5 _ rfl)
   have f6:wr.cell? ⟨b,off+i*7+6,none⟩=some (.int .i64 y6):=(hb.cell (p:=⟨b,off+i*7+6,none⟩) hlt).trans (hcell 6 _ rfl)
   have HS:=Lh (rule_clo s t y1 y2 y3 y4 y5 y6 nb wr (HNB.out.after hb))
   have HSN:=Lh hs
   have hi1:IntKind.i64.wrap ((i:Int)+1)=((i+1:Nat):Int):=by rw[IntKind.wrap_i64];omega
   clear hu hs hlt hcell hb
   by_cases he:s=t
   ·subst he
    rw[decide_eq_true rfl]at HS
    have HI:Hid (i<n):=Lh hin
    go_wp2_with (go_at_call 64;(with_reducible refine(HS.out).mono ?_);rintro e w2 ⟨rfl,h2⟩;have G2:=Lh (below_step HB.out h2);clear h2)
    go_ret
    exact⟨⟨_,rfl,Or.inl ⟨i,rfl,HI.out,HSN.out,HW.out⟩⟩,G2.out⟩
   ·have HNE:=Lh he
    rw[decide_eq_false he]at HS
    clear he
    go_wp2_with (go_at_call 64;(with_reducible refine(HS.out).mono ?_);rintro e w2 ⟨rfl,h2⟩;have G2:=Lh (below_step HB.out h2);clear h2)
    go_roundw
    case rel=>exact⟨i+1,by omega,by go_num,G2.out,fun k y hk hy=>by
     rcases Nat.lt_or_ge k i with hx|hx
     ·exact HW.out k y hx hy
     ·obtain rfl:k=i:=by omega
      rw[HSN.out]at hy
      injection hy with hy
      rw[←hy];exact HNE.out⟩
    case measure=>simp[intOf];omega
  ·have en:n=i:=by omega
   subst en
   clear hb
   go_wp2
   go_ret
   exact⟨⟨_,rfl,Or.inr ⟨rfl,fun k y hk=>by
    have:k<ks.length:=(List.getElem?_eq_some_iff.1 hk).1
    exact HW.out k y (by rw[←HL.out,HNM.out.1];exact this) hk⟩⟩,HB.out⟩
theorem rule_one (t:ByteArray) (nb:Nat) (us:List (List Value)) (ks:List ByteArray) (v:Value) (w:World) (hv:InK 7 w v us) (hN:Keyed ruleQc us ks) (hl:us.length≤1000000) (hn:VarL w nb [.string t]):
  Calls Tryd.prog 63 #[v, .func (.func 64) #[] #[.pointer (some ⟨nb,0,none⟩)]] w (GivesOne us ks t #[.string ⟨#[]⟩, .bool false, .int .i64 0, .int .i64 0, .int .u64 0, .int .i64 0, .int .i64 0] w):=by
 obtain⟨gb,W0,hgb,hW0,V0,b0,z0⟩:=boxL w [.string ⟨#[]⟩, .bool false, .int .i64 0, .int .i64 0, .int .u64 0, .int .i64 0, .int .i64 0] 52
 have HX:=Lh (rule_idx t nb us ks v W0 (hv.below b0) hN hl (hn.after b0))
 obtain⟨a,cap,rfl,hc⟩:=hv.size
 have HV:=Lh (hv.below b0)
 have HN:=Lh hN
 have HV0:=Lh V0
 have HB0:=Lh b0
 have HG:Hid (w.heap.size≤gb):=Lh (by omega)
 obtain⟨n,hnn⟩: ∃n,us.length=n:=⟨_,rfl⟩
 rw[hnn]at HX HV hl hc ⊢
 clear hv hN hn V0 b0 z0
 go_enter Tryd.func63,Tryd.ntmps63
 have HNN:=Lh hnn
 clear hnn
 go_wp2_with (go_at_call 86;(with_reducible refine(HX.out).mono ?_);rintro e w2 ⟨⟨i,rfl,hor⟩,h2⟩;rcases hor with⟨k,rfl,hk,hf⟩|⟨rfl,hall⟩<;>first
  |(obtain⟨s,r,hu,hs,hr⟩:=HN.out.row (i:=k) (by rw[HNN.out];exact hk);obtain⟨y1,y2,y3,y4,y5,y6,rfl⟩:=hr;obtain⟨b,off,rfl,hlt,hcell⟩:=HV.out.at k _ hu;have f0:w2.cell? ⟨b,off+k*7,none⟩=some (.string s):=(h2.cell (p:=⟨b,off+k*7,none⟩) hlt).trans (hcell 0 _ rfl);have f1:w2.cell? ⟨b,off+k*7+1,none⟩=some (.bool y1):=(h2.cell (p:=⟨b,off+k*7+1,none⟩) hlt).trans (hcell 1 _ rfl);have f2:w2.cell? ⟨b,off+k*7+2,none⟩=some (.int .i64 y2):=(h2.cell (p:=⟨b,off+k*7+2,none⟩) hlt).trans (hcell 2 _ rfl);have f3:w2.cell? ⟨b,off+k*7+3,none⟩=some (.int .i64 y3):=(h2.cell (p:=⟨b,off+k*7+3,none⟩) hlt).trans (hcell 3 _ rfl);have f4:w2.cell? ⟨b,off+k*7+4,none⟩=some (.int .u64 y4):=(h2.cell (p:=⟨b,off+k*7+4,none⟩) hlt).trans (hcell 4 _ rfl);have f5:w2.cell? ⟨b,off+k*7+5,none⟩=some (.int .i64 y5):=(h2.cell (p:=⟨b,off+k*7+5,none⟩) hlt).trans (hcell 5 _ rfl);have f6:w2.cell? ⟨b,off+k*7+6,none⟩=some (.int .i64 y6):=(h2.cell (p:=⟨b,off+k*7+6,none⟩) hlt).trans (hcell 6 _ rfl);have V2:=HV0.out.after h2;have c0:=V2.c 0 rfl;have q0:=V2.q 0 rfl;have c1:=V2.c 1 rfl;have q1:=V2.q 1 rfl;have c2:=V2.c 2 rfl;have q2:=V2.q 2 rfl;have c3:=V2.c 3 rfl;have q3:=V2.q 3 rfl;have c4:=V2.c 4 rfl;have q4:=V2.q 4 rfl;have c5:=V2.c 5 rfl;have q5:=V2.q 5 rfl;have c6:=V2.c 6 rfl;have q6:=V2.q 6 rfl;obtain⟨W3,hW3⟩: ∃W3,putL gb 0 [.string s, .bool y1, .int .i64 y2, .int .i64 y3, .int .u64 y4, .int .i64 y5, .int .i64 y6] w2=W3:=⟨_,rfl⟩;have HV3:Hid (VarL W3 gb [.string s, .bool y1, .int .i64 y2, .int .i64 y3, .int .u64 y4, .int .i64 y5, .int .i64 y6]):=Lh (by rw[←hW3];exact putL_var [.string s, .bool y1, .int .i64 y2, .int .i64 y3, .int .u64 y4, .int .i64 y5, .int .i64 y6] [] [.string ⟨#[]⟩, .bool false, .int .i64 0, .int .i64 0, .int .u64 0, .int .i64 0, .int .i64 0] w2 V2 rfl);have d0:=HV3.out.c 0 rfl;have d1:=HV3.out.c 1 rfl;have d2:=HV3.out.c 2 rfl;have d3:=HV3.out.c 3 rfl;have d4:=HV3.out.c 4 rfl;have d5:=HV3.out.c 5 rfl;have d6:=HV3.out.c 6 rfl;have HB3:Hid (Below w.heap.size w W3):=Lh (by rw[←hW3];exact putL_below _ HG.out _ _ (below_step HB0.out h2));have HF:=Lh hf;have HU:=Lh hu;simp only[putL,Ly]at hW3;have hkn:(k:Int)<(n:Int):=(by omega);clear hu hs hlt hcell h2 V2 hf)
  |(obtain⟨yb,W2,hyb,hW2,V1,b2,z2⟩:=boxL w2 [.string ⟨#[]⟩, .bool false, .int .i64 0, .int .i64 0, .int .u64 0, .int .i64 0, .int .i64 0] 52;have y0:=V1.c 0 rfl;have y1:=V1.c 1 rfl;have y2:=V1.c 2 rfl;have y3:=V1.c 3 rfl;have y4:=V1.c 4 rfl;have y5:=V1.c 5 rfl;have y6:=V1.c 6 rfl;have V2:=(HV0.out.after h2).after b2;have c0:=V2.c 0 rfl;have q0:=V2.q 0 rfl;have c1:=V2.c 1 rfl;have q1:=V2.q 1 rfl;have c2:=V2.c 2 rfl;have q2:=V2.q 2 rfl;have c3:=V2.c 3 rfl;have q3:=V2.q 3 rfl;have c4:=V2.c 4 rfl;have q4:=V2.q 4 rfl;have c5:=V2.c 5 rfl;have q5:=V2.q 5 rfl;have c6:=V2.c 6 rfl;have q6:=V2.q 6 rfl;obtain⟨W3,hW3⟩: ∃W3,putL gb 0 [.string ⟨#[]⟩, .bool false, .int .i64 0, .int .i64 0, .int .u64 0, .int .i64 0, .int .i64 0] W2=W3:=⟨_,rfl⟩;have HV3:Hid (VarL W3 gb [.string ⟨#[]⟩, .bool false, .int .i64 0, .int .i64 0, .int .u64 0, .int .i64 0, .int .i64 0]):=Lh (by rw[←hW3];exact putL_var [.string ⟨#[]⟩, .bool false, .int .i64 0, .int .i64 0, .int .u64 0, .int .i64 0, .int .i64 0] [] [.string ⟨#[]⟩, .bool false, .int .i64 0, .int .i64 0, .int .u64 0, .int .i64 0, .int .i64 0] W2 V2 rfl);have d0:=HV3.out.c 0 rfl;have d1:=HV3.out.c 1 rfl;have d2:=HV3.out.c 2 rfl;have d3:=HV3.out.c 3 rfl;have d4:=HV3.out.c 4 rfl;have d5:=HV3.out.c 5 rfl;have d6:=HV3.out.c 6 rfl;have HB3:Hid (Below w.heap.size w W3):=Lh (by rw[←hW3];exact putL_below _ HG.out _ _ (below_step HB0.out (below_step h2 b2)));have HA:=Lh hall;simp only[putL,Ly]at hW3;clear h2 b2 z2 V1 V2 hall))
 ·(try simp only[Exit.inBlock,Exit.then])
  refine bodyPost_ret (cell_tmp (fn:=Tryd.f63) rfl (rule_load HV3.out) rfl rfl) rfl ?_
  exact⟨_,_,rfl,Or.inl ⟨rfl,k,_,HU.out,HF.out,rfl⟩,HB3.out⟩
 ·(try simp only[Exit.inBlock,Exit.then])
  refine bodyPost_ret (cell_tmp (fn:=Tryd.f63) rfl (rule_load HV3.out) rfl rfl) rfl ?_
  exact⟨_,_,rfl,Or.inr ⟨rfl,rfl,HA.out⟩,HB3.out⟩
end
section
open Go.RowKit
def turnQc (s:ByteArray×ByteArray) (u:List Value):Prop:= ∃(y2:Int),u= [.string s.1, .string s.2, .int .i64 y2]
end
section
open Go.RowKit
theorem tname_any (s:ByteArray) (w:World) (_env:Env w) (hm:s.size≤4294967296):Calls Tryd.prog 52 #[.string s] w (GivesQ (NameL (runesOf (nums s))) w):=tname_plain s w hm
end
section
open Go.RowKit
def zGol:Array Value:= #[.string ⟨#[]⟩, .int .u32 0, .int .i64 0, .int .i64 0, .int .i64 0, .int .i64 0, .slice none 0 0, .slice none 0 0]
def zRul:Array Value:= #[.string ⟨#[]⟩, .bool false, .int .i64 0, .int .i64 0, .int .u64 0, .int .i64 0, .int .i64 0]
def GivesG (gs:List GlC) (t:ByteArray) (w:World) (e:Ending) (w':World):Prop:=
 ∃cs bb,e= .returned (.tuple #[.agg cs, .bool bb])∧((bb=true∧∃g u,getG gs t=some g∧cs=u.toArray∧GolI w u g)∨(bb=false∧getG gs t=none∧cs=zGol))∧Below w.heap.size w w'
def GivesR (rs:List RlC) (t:ByteArray) (w:World) (e:Ending) (w':World):Prop:=
 ∃cs bb,e= .returned (.tuple #[.agg cs, .bool bb])∧((bb=true∧∃r,getR rs t=some r∧cs=(rulV r).toArray)∨(bb=false∧getR rs t=none∧cs=zRul))∧Below w.heap.size w w'
theorem gols_keyed {w:World} {gs:List GlC} {us:List (List Value)} (h1:us.length=gs.length) (h2: ∀(i:Nat) u g,us[i]?=some u→gs[i]?=some g→GolI w u g):Keyed goalQc us (gs.map (·.name)):=by
 refine⟨by rw[Ky,h1],fun i u s hu hs=>?_⟩
 rw[List.getElem?_map]at hs
 have hi:i<gs.length:=by rw[←h1];exact(List.getElem?_eq_some_iff.1 hu).1
 rw[Kh hi]at hs
 injection hs with hs
 obtain⟨lv,rv,rfl,i1,i2⟩:=h2 i u _ hu (Kh hi)
 obtain⟨a1,c1,rfl,_⟩:=i1.size
 obtain⟨a2,c2,rfl,_⟩:=i2.size
 rw[←hs]
 exact⟨_,_,_,_,_,_,_,_,_,_,_,rfl⟩
theorem ruls_keyed (rs:List RlC):Keyed ruleQc (rs.map rulV) (rs.map (·.name)):=by
 refine⟨by rw[Ky,Ky],fun i u s hu hs=>?_⟩
 rw[List.getElem?_map]at hs hu
 cases h:rs[i]? with
 |none=>rw[h]at hs;cases hs
 |some r=>
  rw[h]at hs hu
  injection hs with hs
  injection hu with hu
  subst hs hu
  exact⟨_,_,_,_,_,_,rfl⟩
theorem goal_named (gs:List GlC) (t:ByteArray) (v:Value) (w:World) (hg:GolsI w v gs) (hl:gs.length≤1000000):Calls Tryd.prog 19 #[v, .string t] w (GivesG gs t w):=by
 obtain⟨us,hv,h1,h2⟩:=hg
 obtain⟨nb,W0,hnb,hW0,V0,b0,z0⟩:=boxL w [.string t] 9
 obtain⟨gb,W1,hgb,hW1,V1,b1,z1⟩:=boxL W0 [.string ⟨#[]⟩, .int .u32 0, .int .i64 0, .int .i64 0, .int .i64 0, .int .i64 0, .slice none 0 0, .slice none 0 0] 44
 have HX:=Lh (goal_one t nb us (gs.map (·.name)) v W1 ((hv.below b0).below b1) (gols_keyed h1 h2) (by omega) (V0.after b1))
 have HV1:=Lh V1
 have HB1:=Lh (below_step b0 b1)
 have HG:Hid (w.heap.size≤gb):=Lh (by have:=b0.size;omega)
 have H12:=Lh (And.intro h1 h2)
 obtain⟨a,cap,rfl,hc⟩:=hv.size
 clear hv h1 h2 V0 V1 b0 b1 z0 z1
 go_enter Tryd.func19,Tryd.ntmps19
 go_wp2_with (go_at_call 36;(with_reducible refine(HX.out).mono ?_);rintro e w2 ⟨cs,bb,rfl,hor,h2⟩;rcases hor with⟨rfl,k,u,hu,hf,rfl⟩|⟨rfl,rfl,hall⟩<;>first
  |(have hk:k<gs.length:=(by rw[←H12.out.1];exact(List.getElem?_eq_some_iff.1 hu).1);obtain⟨g,hgk⟩: ∃g,gs[k]?=some g:=⟨_,Kh hk⟩;have HGI:=Lh (H12.out.2 k u _ hu hgk);have HF:=Lh (first_find (·.name) t gs k _ hf hgk);obtain⟨lv,rv,rfl,i1,i2⟩:=HGI.out;obtain⟨a1,k1,rfl,_⟩:=i1.size;obtain⟨a2,k2,rfl,_⟩:=i2.size;obtain⟨n1,hn1⟩: ∃n,(g.labels.map labV).length=n:=⟨_,rfl⟩;obtain⟨n2,hn2⟩: ∃n,(g.rules.map rulV).length=n:=⟨_,rfl⟩;rw[hn1,hn2]at HGI ⊢;clear hn1 hn2;simp only[golL]at HGI ⊢;have V2:=HV1.out.after h2;have c0:=V2.c 0 rfl;have q0:=V2.q 0 rfl;have c1:=V2.c 1 rfl;have q1:=V2.q 1 rfl;have c2:=V2.c 2 rfl;have q2:=V2.q 2 rfl;have c3:=V2.c 3 rfl;have q3:=V2.q 3 rfl;have c4:=V2.c 4 rfl;have q4:=V2.q 4 rfl;have c5:=V2.c 5 rfl;have q5:=V2.q 5 rfl;have c6:=V2.c 6 rfl;have q6:=V2.q 6 rfl;have c7:=V2.c 7 rfl;have q7:=V2.q 7 rfl;obtain⟨W3,hW3⟩: ∃W3,putL gb 0 [.string g.name, .int .u32 g.target, .int .i64 g.grain, .int .i64 g.late, .int .i64 g.rolling, .int .i64 g.cal, .slice a1 n1 k1, .slice a2 n2 k2] w2=W3:=⟨_,rfl⟩;have HV3:Hid (VarL W3 gb [.string g.name, .int .u32 g.target, .int .i64 g.grain, .int .i64 g.late, .int .i64 g.rolling, .int .i64 g.cal, .slice a1 n1 k1, .slice a2 n2 k2]):=Lh (by rw[←hW3];exact putL_var [.string g.name, .int .u32 g.target, .int .i64 g.grain, .int .i64 g.late, .int .i64 g.rolling, .int .i64 g.cal, .slice a1 n1 k1, .slice a2 n2 k2] [] [.string ⟨#[]⟩, .int .u32 0, .int .i64 0, .int .i64 0, .int .i64 0, .int .i64 0, .slice none 0 0, .slice none 0 0] w2 V2 rfl);have HB3:Hid (Below w.heap.size w W3):=Lh (by rw[←hW3];exact putL_below _ HG.out _ _ (below_step HB1.out h2));simp only[putL,Ly]at hW3;clear hu hgk h2 V2 hf i1 i2 hk)
  |(have V2:=HV1.out.after h2;have c0:=V2.c 0 rfl;have q0:=V2.q 0 rfl;have c1:=V2.c 1 rfl;have q1:=V2.q 1 rfl;have c2:=V2.c 2 rfl;have q2:=V2.q 2 rfl;have c3:=V2.c 3 rfl;have q3:=V2.q 3 rfl;have c4:=V2.c 4 rfl;have q4:=V2.q 4 rfl;have c5:=V2.c 5 rfl;have q5:=V2.q 5 rfl;have c6:=V2.c 6 rfl;have q6:=V2.q 6 rfl;have c7:=V2.c 7 rfl;have q7:=V2.q 7 rfl;obtain⟨W3,hW3⟩: ∃W3,putL gb 0 [.string ⟨#[]⟩, .int .u32 0, .int .i64 0, .int .i64 0, .int .i64 0, .int .i64 0, .slice none 0 0, .slice none 0 0] w2=W3:=⟨_,rfl⟩;have HV3:Hid (VarL W3 gb [.string ⟨#[]⟩, .int .u32 0, .int .i64 0, .int .i64 0, .int .i64 0, .int .i64 0, .slice none 0 0, .slice none 0 0]):=Lh (by rw[←hW3];exact putL_var [.string ⟨#[]⟩, .int .u32 0, .int .i64 0, .int .i64 0, .int .i64 0, .int .i64 0, .slice none 0 0, .slice none 0 0] [] [.string ⟨#[]⟩, .int .u32 0, .int .i64 0, .int .i64 0, .int .i64 0, .int .i64 0, .slice none 0 0, .slice none 0 0] w2 V2 rfl);have HB3:Hid (Below w.heap.size w W3):=Lh (by rw[←hW3];exact putL_below _ HG.out _ _ (below_step HB1.out h2));have HA:=Lh (none_find (·.name) t gs hall);simp only[putL,Ly]at hW3;clear h2 V2 hall))
 ·(try simp only[Exit.inBlock,Exit.then])
  refine bodyPost_ret (cell_tmp (fn:=Tryd.f19) rfl (goal_load HV3.out) rfl rfl) rfl ?_
  exact⟨_,_,rfl,Or.inl ⟨rfl,_,_,HF.out,rfl,HGI.out⟩,HB3.out⟩
 ·(try simp only[Exit.inBlock,Exit.then])
  refine bodyPost_ret (cell_tmp (fn:=Tryd.f19) rfl (goal_load HV3.out) rfl rfl) rfl ?_
  exact⟨_,_,rfl,Or.inr ⟨rfl,HA.out,rfl⟩,HB3.out⟩
theorem rule_named (rs:List RlC) (t:ByteArray) (v:Value) (w:World) (hv:InK 7 w v (rs.map rulV)) (hl:rs.length≤1000000):Calls Tryd.prog 40 #[v, .string t] w (GivesR rs t w):=by
 obtain⟨nb,W0,hnb,hW0,V0,b0,z0⟩:=boxL w [.string t] 9
 obtain⟨gb,W1,hgb,hW1,V1,b1,z1⟩:=boxL W0 [.string ⟨#[]⟩, .bool false, .int .i64 0, .int .i64 0, .int .u64 0, .int .i64 0, .int .i64 0] 52
 have HX:=Lh (rule_one t nb (rs.map rulV) (rs.map (·.name)) v W1 ((hv.below b0).below b1) (ruls_keyed rs) (by rw[Ky];omega) (V0.after b1))
 have HV1:=Lh V1
 have HB1:=Lh (below_step b0 b1)
 have HG:Hid (w.heap.size≤gb):=Lh (by have:=b0.size;omega)
 obtain⟨a,cap,rfl,hc⟩:=hv.size
 obtain⟨n,hn⟩: ∃n,(rs.map rulV).length=n:=⟨_,rfl⟩
 rw[hn]at HX ⊢
 clear hv V0 V1 b0 b1 z0 z1 hn
 go_enter Tryd.func40,Tryd.ntmps40
 go_wp2_with (go_at_call 63;(with_reducible refine(HX.out).mono ?_);rintro e w2 ⟨cs,bb,rfl,hor,h2⟩;rcases hor with⟨rfl,k,u,hu,hf,rfl⟩|⟨rfl,rfl,hall⟩<;>first
  |(have hk:k<rs.length:=(by have:=(List.getElem?_eq_some_iff.1 hu).1;rwa [Ky]at this);obtain⟨g,hgk⟩: ∃g,rs[k]?=some g:=⟨_,Kh hk⟩;rw[List.getElem?_map,hgk]at hu;obtain rfl:rulV g=u:=(by injection hu);have HF:=Lh (first_find (·.name) t rs k _ hf hgk);simp only[rulV];have V2:=HV1.out.after h2;have c0:=V2.c 0 rfl;have q0:=V2.q 0 rfl;have c1:=V2.c 1 rfl;have q1:=V2.q 1 rfl;have c2:=V2.c 2 rfl;have q2:=V2.q 2 rfl;have c3:=V2.c 3 rfl;have q3:=V2.q 3 rfl;have c4:=V2.c 4 rfl;have q4:=V2.q 4 rfl;have c5:=V2.c 5 rfl;have q5:=V2.q 5 rfl;have c6:=V2.c 6 rfl;have q6:=V2.q 6 rfl;obtain⟨W3,hW3⟩: ∃W3,putL gb 0 [.string g.name, .bool g.page, .int .i64 g.long, .int .i64 g.short, .int .u64 g.factor, .int .i64 g.hold, .int .i64 g.keep] w2=W3:=⟨_,rfl⟩;have HV3:Hid (VarL W3 gb [.string g.name, .bool g.page, .int .i64 g.long, .int .i64 g.short, .int .u64 g.factor, .int .i64 g.hold, .int .i64 g.keep]):=Lh (by rw[←hW3];exact putL_var [.string g.name, .bool g.page, .int .i64 g.long, .int .i64 g.short, .int .u64 g.factor, .int .i64 g.hold, .int .i64 g.keep] [] [.string ⟨#[]⟩, .bool false, .int .i64 0, .int .i64 0, .int .u64 0, .int .i64 0, .int .i64 0] w2 V2 rfl);have HB3:Hid (Below w.heap.size w W3):=Lh (by rw[←hW3];exact putL_below _ HG.out _ _ (below_step HB1.out h2));simp only[putL,Ly]at hW3;clear hu hgk h2 V2 hf hk)
  |(have V2:=HV1.out.after h2;have c0:=V2.c 0 rfl;have q0:=V2.q 0 rfl;have c1:=V2.c 1 rfl;have q1:=V2.q 1 rfl;have c2:=V2.c 2 rfl;have q2:=V2.q 2 rfl;have c3:=V2.c 3 rfl;have q3:=V2.q 3 rfl;have c4:=V2.c 4 rfl;have q4:=V2.q 4 rfl;have c5:=V2.c 5 rfl;have q5:=V2.q 5 rfl;have c6:=V2.c 6 rfl;have q6:=V2.q 6 rfl;obtain⟨W3,hW3⟩: ∃W3,putL gb 0 [.string ⟨#[]⟩, .bool false, .int .i64 0, .int .i64 0, .int .u64 0, .int .i64 0, .int .i64 0] w2=W3:=⟨_,rfl⟩;have HV3:Hid (VarL W3 gb [.string ⟨#[]⟩, .bool false, .int .i64 0, .int .i64 0, .int .u64 0, .int .i64 0, .int .i64 0]):=Lh (by rw[←hW3];exact putL_var [.string ⟨#[]⟩, .bool false, .int .i64 0, .int .i64 0, .int .u64 0, .int .i64 0, .int .i64 0] [] [.string ⟨#[]⟩, .bool false, .int .i64 0, .int .i64 0, .int .u64 0, .int .i64 0, .int .i64 0] w2 V2 rfl);have HB3:Hid (Below w.heap.size w W3):=Lh (by rw[←hW3];exact putL_below _ HG.out _ _ (below_step HB1.out h2));have HA:=Lh (none_find (·.name) t rs hall);simp only[putL,Ly]at hW3;clear h2 V2 hall))
 ·(try simp only[Exit.inBlock,Exit.then])
  refine bodyPost_ret (cell_tmp (fn:=Tryd.f40) rfl (rule_load HV3.out) rfl rfl) rfl ?_
  exact⟨_,_,rfl,Or.inl ⟨rfl,_,HF.out,rfl⟩,HB3.out⟩
 ·(try simp only[Exit.inBlock,Exit.then])
  refine bodyPost_ret (cell_tmp (fn:=Tryd.f40) rfl (rule_load HV3.out) rfl rfl) rfl ?_
  exact⟨_,_,rfl,Or.inr ⟨rfl,HA.out,rfl⟩,HB3.out⟩
end
section
open Go.RowKit
theorem betw_i64 (n a b:Int) (w:World):Calls Tryd.prog 54 #[.int .i64 n, .int .i64 a, .int .i64 b] w fun e w'=>e= .returned (.bool (decide (a≤n∧n≤b)))∧w'=w:=by
 by_cases h:a≤n
 ·by_cases h2:n≤b
  ·rw[decide_eq_true ⟨h,h2⟩]
   go_enter Tryd.func54,Tryd.ntmps54
   go_wp2
   go_ret
   exact⟨rfl,rfl⟩
  ·rw[decide_eq_false (fun hh=>h2 hh.2)]
   go_enter Tryd.func54,Tryd.ntmps54
   go_wp2
   go_ret
   exact⟨rfl,rfl⟩
 ·rw[decide_eq_false (fun hh=>h hh.1)]
  go_enter Tryd.func54,Tryd.ntmps54
  go_wp2
  go_ret
  exact⟨rfl,rfl⟩
theorem betw_int (n a b:Int) (w:World):Calls Tryd.prog 31 #[.int .i64 n, .int .i64 a, .int .i64 b] w fun e w'=>e= .returned (.bool (decide (a≤n∧n≤b)))∧w'=w:=by
 by_cases h:a≤n
 ·by_cases h2:n≤b
  ·rw[decide_eq_true ⟨h,h2⟩]
   go_enter Tryd.func31,Tryd.ntmps31
   go_wp2
   go_ret
   exact⟨rfl,rfl⟩
  ·rw[decide_eq_false (fun hh=>h2 hh.2)]
   go_enter Tryd.func31,Tryd.ntmps31
   go_wp2
   go_ret
   exact⟨rfl,rfl⟩
 ·rw[decide_eq_false (fun hh=>h hh.1)]
  go_enter Tryd.func31,Tryd.ntmps31
  go_wp2
  go_ret
  exact⟨rfl,rfl⟩
theorem betw_u64 (n a b:Int) (w:World):Calls Tryd.prog 77 #[.int .u64 n, .int .u64 a, .int .u64 b] w fun e w'=>e= .returned (.bool (decide (a≤n∧n≤b)))∧w'=w:=by
 by_cases h:a≤n
 ·by_cases h2:n≤b
  ·rw[decide_eq_true ⟨h,h2⟩]
   go_enter Tryd.func77,Tryd.ntmps77
   go_wp2
   go_ret
   exact⟨rfl,rfl⟩
  ·rw[decide_eq_false (fun hh=>h2 hh.2)]
   go_enter Tryd.func77,Tryd.ntmps77
   go_wp2
   go_ret
   exact⟨rfl,rfl⟩
 ·rw[decide_eq_false (fun hh=>h hh.1)]
  go_enter Tryd.func77,Tryd.ntmps77
  go_wp2
  go_ret
  exact⟨rfl,rfl⟩
theorem betw_u32 (n a b:Int) (w:World):Calls Tryd.prog 53 #[.int .u32 n, .int .u32 a, .int .u32 b] w fun e w'=>e= .returned (.bool (decide (a≤n∧n≤b)))∧w'=w:=by
 by_cases h:a≤n
 ·by_cases h2:n≤b
  ·rw[decide_eq_true ⟨h,h2⟩]
   go_enter Tryd.func53,Tryd.ntmps53
   go_wp2
   go_ret
   exact⟨rfl,rfl⟩
  ·rw[decide_eq_false (fun hh=>h2 hh.2)]
   go_enter Tryd.func53,Tryd.ntmps53
   go_wp2
   go_ret
   exact⟨rfl,rfl⟩
 ·rw[decide_eq_false (fun hh=>h hh.1)]
  go_enter Tryd.func53,Tryd.ntmps53
  go_wp2
  go_ret
  exact⟨rfl,rfl⟩
theorem mult_any (n g:Int) (w:World) (h0:0≤n):Calls Tryd.prog 55 #[.int .i64 n, .int .i64 g] w fun e w'=>e= .returned (.bool (decide (1≤g∧n%g=0)))∧w'=w:=by
 by_cases h:1≤g
 ·have ht:n.tmod g=n%g:=Int.tmod_eq_emod_of_nonneg h0
  have hg0: ¬g=0:=by omega
  have hlo:0≤n%g:=Int.emod_nonneg n hg0
  have hhi:n%g≤n:=by
   have e:=Int.mul_ediv_add_emod n g
   have:=Int.mul_nonneg (show 0≤g by omega) (Int.ediv_nonneg h0 (show 0≤g by omega))
   omega
  obtain⟨r,hr⟩: ∃r,n%g=r:=⟨_,rfl⟩
  rw[hr]at ht hlo hhi ⊢
  by_cases h2:r=0
  ·rw[decide_eq_true ⟨h,h2⟩]
   subst h2
   clear hr
   go_enter Tryd.func55,Tryd.ntmps55
   go_wp2
   go_ret
   exact⟨rfl,rfl⟩
  ·rw[decide_eq_false (fun hh=>h2 hh.2)]
   have hrb:(r==0)=false:=by simp;exact h2
   go_enter Tryd.func55,Tryd.ntmps55
   go_wp2
   go_ret
   exact⟨rfl,rfl⟩
 ·rw[decide_eq_false (fun hh=>h hh.1)]
  go_enter Tryd.func55,Tryd.ntmps55
  go_wp2
  go_ret
  exact⟨rfl,rfl⟩
end
end Go.Proofs.YtgmfkbamfnkbgaaDoor
