/-
  Package compile: an objective as a whole: plain; a fault is added.
-/
import Derived.Test.YtalcagmhdppdjaaGreatDoorPkCompileTurns21
namespace Go.Proofs.YtalcagmhdppdjaaGreatDoor
open Or renaming inr→Mx,inl→My
section
open Go.RowKit
section
variable {base:Nat} {fpv:Value} {X:List Flt→Foot→World→Prop} {gb:Nat} {nm:ByteArray}
theorem rul_enters: ∀args W,(callFunc 98 args).run Tryz.prog W= .ok (.enter 98 args) W:=enters_of Tryz.func98 (by kernel_rfl) rfl
theorem cntL_kids (x:It):cntL x.kids≤cntL [x]:=by rw[cntL_unit];omega
theorem rule_handler (hX:CtxC fpv X) {K S:Foot} {w0:World} {x:It} {D:Nat} {wv kv:Value} (hn:x.name=nRule) (hwd:WordsIs w0 S wv x.words) (hkd:ItemsIs D w0 S kv x.kids) (hSK: ∀b,S b→K b) (hKl: ∀b,K b→b<w0.heap.size) (hwo:WordsOk x.words) (hwk: ∀y∈x.kids,WordsOk y.words):HandlerC 1 subG (M1 base fpv X gb nm) K w0 x wv kv 98 #[.pointer (some ⟨gb,0,none⟩)] #[]:=by
 intro W cs F O ib mb hin
 have hp:=find_rul hn
 have hWsz:w0.heap.size≤W.heap.size:=Nat.le_trans hin.isz (Nat.le_of_lt hin.item.s)
 have hwW:WordsIs W S wv x.words:=hwd.keep (fun _ h=>h) (fun b hb=>hin.kept b (hSK b hb))
 have hkW:ItemsIs D W S kv x.kids:=hkd.keep (fun _ h=>h) (fun b hb=>hin.kept b (hSK b hb))
 have hSl: ∀b,S b→b<W.heap.size:=fun b hb=>Nat.lt_of_lt_of_le (hKl b (hSK b hb)) hWsz
 have hmu:MultiS x.name:=by rw[hn];decide
 have hsec:secS x=x.w0.s:=if_pos hmu
 show Calls Tryz.prog 98 #[.pointer (some ⟨gb,0,none⟩), .pointer (some ⟨ib,0,none⟩)] W _
 by_cases hf1:x.words.length=2∧x.block=true
 ·obtain⟨t,u,hx⟩:=lit_of2 hf1.1
  have hto:=hwo t (by rw[hx];simp)
  have huo:=hwo u (by rw[hx];simp)
  have hk:1≤t.k∧t.k≤6:=⟨hto.1.lo,hto.1.hi⟩
  have hk2:1≤u.k∧u.k≤6:=⟨huo.1.lo,huo.1.hi⟩
  have e0:x.w0=t:=by unfold It.w0;rw[hx];rfl
  by_cases hF:FormS spRul x
  ·obtain⟨hb,t',u',hx',hk1,hk3,hpt⟩:=form_rul.mp hF
   rw[hx]at hx'
   injection hx' with hx1 hx2
   injection hx2 with hx2
   subst hx1 hx2
   have hsne:secS x≠⟨#[]⟩:=by rw[hsec,e0];exact(right_name hto.1 hk1).2
   have hkn:=known_two (p:=spRul) (cs:=cs) (by decide) hmu hsne
   rw[hsec,e0]at hkn
   by_cases hf:cntF cs x.name t.s=0
   ·have hnk: ¬KnownS spRul cs x:=fun h=>hkn.mp h hf
    have hlim:=hin.lim x.name spRul hp
    by_cases h4:manyS cs x.name=4
    ·have hc9:codeS 1 cs x=9:=code_long hp hF hnk (by rw[h4];exact Nat.le_refl _)
     refine(rul_long x t u S W gb ib mb wv kv ⟨#[]⟩ hin.item hx hf1.2 hwW hSl hk hk2 (cntF cs) hin.cnt ⟨hk1,hk3,hpt⟩ hin.im hf (by rw[cntF_many];exact h4)).mono ?_
     rintro e W' ⟨rfl,hb⟩
     exact My ⟨by rw[hc9];decide,by rw[hc9],hb⟩
    ·have hc0:codeS 1 cs x=0:=code_fine hp hF hnk (fun e=>h4 (Nat.le_antisymm hlim e)) (fun e=>absurd e.1 (by decide))
     have hfew:=hin.few
     have hck:=cntL_kids x
     refine(rul_set x t u S W gb ib mb wv kv ⟨#[]⟩ hin.item hx hf1.2 hwW hSl hk hk2 (cntF cs) hin.cnt ⟨hk1,hk3,hpt⟩ hin.im (base:=base) (nm:=nm) hX cs F O hin.m hn hf _ (cntF_many cs x.name) h4 hin.io D hkW (fun b hb=>hin.apart b (hSK b hb)) (fun h=>hin.ik (hSK _ h)) hwk (by omega) hin.cs1).mono ?_
     rintro e W' ⟨rfl,h⟩
     rw[hsec,e0]
     exact Mx ⟨hc0,rfl,h⟩
   ·have hc18:codeS 1 cs x=18:=code_known hp hF (hkn.mpr hf)
    refine(rul_known x t u S W gb ib mb wv kv ⟨#[]⟩ hin.item hx hf1.2 hwW hSl hk hk2 (cntF cs) hin.cnt ⟨hk1,hk3,hpt⟩ hin.im hf).mono ?_
    rintro e W' ⟨rfl,hb⟩
    exact My ⟨by rw[hc18];decide,by rw[hc18],hb⟩
  ·have hc6:codeS 1 cs x=6:=code_form hp hF
   by_cases hk1:t.k=1
   ·have hk3: ¬(u.k=1∧(u.s=nPage∨u.s=nTicket)):=fun e=>hF (form_rul.mpr ⟨hf1.2,t,u,hx,hk1,e.1,e.2⟩)
    refine(rul_k2 x t u S W gb ib mb wv kv ⟨#[]⟩ hin.item hx hf1.2 hwW hSl hk hk2 ⟨hk1,hk3⟩).mono ?_
    rintro e W' ⟨rfl,hb⟩
    exact My ⟨by rw[hc6];decide,by rw[hc6],hb⟩
   ·refine(rul_k1 x t u S W gb ib mb wv kv ⟨#[]⟩ hin.item hx hf1.2 hwW hSl hk hk2 hk1).mono ?_
    rintro e W' ⟨rfl,hb⟩
    exact My ⟨by rw[hc6];decide,by rw[hc6],hb⟩
 ·have hc6:codeS 1 cs x=6:=code_form hp (fun h=>by obtain⟨h1,t',u',h2,_⟩:=form_rul.mp h;exact hf1 ⟨by rw[h2];rfl,h1⟩)
  obtain⟨wa,wc,hwv⟩:=hwd.size
  have hit:=hin.item
  rw[hwv]at hit
  refine(rul_form x W gb ib mb wa wc kv ⟨#[]⟩ hit hf1).mono ?_
  rintro e W' ⟨rfl,hb⟩
  exact My ⟨by rw[hc6];decide,by rw[hc6],hb⟩
abbrev tabG:List (ByteArray×Nat×Nat):= [(nTarget,12,11),(nGrain,18,17),(nLate,24,23),(nRolling,30,29),(nCalendar,33,32),(nLabel,36,35),(nRule,39,38)]
def GoalT (b1 gb bx:Nat) (u:Nat→Value) (w:World):Prop:=
 PlainV b1 94 1 999999 (.func (.func 95) #[] #[.pointer (some ⟨bx,0,none⟩)]) (u 11) w∧
 SpanV b1 101 102 1 86400 gb 3 (u 17) w∧SpanV b1 101 102 0 86400 gb 4 (u 23) w∧
 SpanV b1 101 102 1 34560000 gb 5 (u 29) w∧
 u 32= .func (.func 96) #[.pointer (some ⟨gb,0,none⟩)] #[]∧u 35= .func (.func 97) #[.pointer (some ⟨gb,0,none⟩)] #[]∧u 38= .func (.func 98) #[.pointer (some ⟨gb,0,none⟩)] #[]
theorem share_spec {wh:Nat} :NumSpec wh ⟨nTarget,[5],false,1,1,999999⟩ 5 (fun t=>t.k=5) (fun t=>t.n):=span_spec (p:=⟨nTarget,[5],false,1,1,999999⟩) rfl rfl rfl (by decide) (by decide) (by decide) (by decide) (by decide)
theorem subG_none {x:It} (h:x.name≠nRule):subG x= []:=by unfold subG;rw[if_neg h]
theorem M1.var10 {cs:List It} {F:List Flt} {O:Foot} {W:World} (h:M1 base fpv X gb nm cs F O W) {i:Nat} (hi:i<7):O gb∧∃l,VarL W gb l∧i<l.length:=by
 obtain⟨h1,l,h2,h3⟩:=M1.var h
 exact⟨h1,l,h2,by omega⟩
theorem goal_handles (hX:CtxC fpv X) {K S:Foot} {w:World} {b1 bx:Nat} {u:Nat→Value} (h:GoalT b1 gb bx u w) (hbx:w.cell? ⟨bx,0,none⟩=some (.pointer (some ⟨gb,0,none⟩))) (hKx:K bx) (hKn: ∀b,b1≤b→b<w.heap.size→K b) (hKl: ∀b,K b→b<w.heap.size) (hSK: ∀b,S b→K b) (y:It) (hwo:WordsOk y.words) (hwk: ∀z∈y.kids,WordsOk z.words):
  HandlesC 1 subG (M1 base fpv X gb nm) K w (byTab tabG u) S y:=by
 obtain⟨h1,h2,h3,h4,h5,h6,h7⟩:=h
 have hD:=M1.doing (base:=base) (gb:=gb) (nm:=nm) hX
 have num: ∀ {p:Spc} {i:Nat} {v:Value} {cs:List It} {F:List Flt} {O:Foot} {W:World},M1 base fpv X gb nm cs F O W→y.name≠nLabel→y.name≠nRule→(∀lv rv pv,goalL fpv nm (cs++ [y]) lv rv pv=(goalL fpv nm cs lv rv pv).set i v)→i<10→M1 base fpv X gb nm (cs++ [y]) F O (W.setCell ⟨gb,i,none⟩ v):=
  fun hM hl hr hi h10=>M1.num hX hM hi h10 (lab_ne hl _) (rul_ne hr _) (plc_ne hr _)
 by_cases e1:y.name=nTarget
 ·exact plain_handles hD (p:=⟨nTarget,[5],false,1,1,999999⟩) (by rw[e1];rfl) share_spec (subG_none (by rw[e1];decide)) (sec_none (by rw[e1];decide)) share_of h1 hKn hKl (target_sets hbx hKx) (fun _ _ _ _ hM=>M1.var10 hM (by decide)) (fun _ _ _ _ hM hc=>num (p:=⟨nTarget,[5],false,1,1,999999⟩) hM (by rw[e1];decide) (by rw[e1];decide) (fun lv rv pv=>goal_target e1 hc fpv nm lv rv pv) (by decide)) hSK hwo (by rw[e1];rfl)
 by_cases e2:y.name=nGrain
 ·exact span_handles hD (p:=⟨nGrain,[6],false,1,1,86400⟩) (by rw[e2];rfl) (span_spec rfl rfl rfl (by decide) (by decide) (by decide) (by decide) (by decide)) (subG_none (by rw[e2];decide)) (sec_none (by rw[e2];decide)) h2 hKn hKl (fun _ _ _ _ hM=>M1.var10 hM (by decide)) (fun _ _ _ _ hM hc=>num (p:=⟨nTarget,[5],false,1,1,999999⟩) hM (by rw[e2];decide) (by rw[e2];decide) (fun lv rv pv=>goal_grain e2 hc fpv nm lv rv pv) (by decide)) hSK hwo (by rw[e2];rfl)
 by_cases e3:y.name=nLate
 ·exact span_handles hD (p:=⟨nLate,[6],false,1,0,86400⟩) (by rw[e3];rfl) (span_spec rfl rfl rfl (by decide) (by decide) (by decide) (by decide) (by decide)) (subG_none (by rw[e3];decide)) (sec_none (by rw[e3];decide)) h3 hKn hKl (fun _ _ _ _ hM=>M1.var10 hM (by decide)) (fun _ _ _ _ hM hc=>num (p:=⟨nTarget,[5],false,1,1,999999⟩) hM (by rw[e3];decide) (by rw[e3];decide) (fun lv rv pv=>goal_late e3 hc fpv nm lv rv pv) (by decide)) hSK hwo (by rw[e3];rfl)
 by_cases e4:y.name=nRolling
 ·exact span_handles hD (p:=⟨nRolling,[6],false,1,1,34560000⟩) (by rw[e4];rfl) (span_spec rfl rfl rfl (by decide) (by decide) (by decide) (by decide) (by decide)) (subG_none (by rw[e4];decide)) (sec_none (by rw[e4];decide)) h4 hKn hKl (fun _ _ _ _ hM=>M1.var10 hM (by decide)) (fun _ _ _ _ hM hc=>num (p:=⟨nTarget,[5],false,1,1,999999⟩) hM (by rw[e4];decide) (by rw[e4];decide) (fun lv rv pv=>goal_rolling e4 hc fpv nm lv rv pv) (by decide)) hSK hwo (by rw[e4];rfl)
 by_cases e5:y.name=nCalendar
 ·exact Mx ⟨spCal,_,_,_,find_cal e5,by rw[e5];show some (u 32)=_;rw[h5],cal_enters,fun D wv kv hw hk=>calendar_handler hX e5 hw hSK hwo⟩
 by_cases e6:y.name=nLabel
 ·exact Mx ⟨spLab,_,_,_,find_lab e6,by rw[e6];show some (u 35)=_;rw[h6],lab_enters,fun D wv kv hw hk=>label_handler hX e6 hw hSK hKl hwo⟩
 by_cases e7:y.name=nRule
 ·exact Mx ⟨spRul,_,_,_,find_rul e7,by rw[e7];show some (u 38)=_;rw[h7],rul_enters,fun D wv kv hw hk=>rule_handler hX e7 hw hk hSK hKl hwo hwk⟩
 refine My ⟨?_,?_⟩
 ·unfold byTab
  rw[List.find?_eq_none.mpr (fun t ht=>by
   simp only[tabG,List.mem_cons,List.not_mem_nil,or_false]at ht
   rcases ht with rfl|rfl|rfl|rfl|rfl|rfl|rfl<;>simp only[decide_eq_true_eq]<;>exact fun e=>by first|exact e1 e.symm|exact e2 e.symm|exact e3 e.symm|exact e4 e.symm|exact e5 e.symm|exact e6 e.symm|exact e7 e.symm)]
  rfl
 ·unfold findS
  rw[List.find?_eq_none.mpr (fun t ht=>by
   simp only[specsL,List.mem_cons,List.not_mem_nil,or_false]at ht
   rcases ht with rfl|rfl|rfl|rfl|rfl|rfl|rfl<;>simp only[decide_eq_true_eq]<;>exact fun e=>by first|exact e1 e.symm|exact e2 e.symm|exact e3 e.symm|exact e4 e.symm|exact e5 e.symm|exact e6 e.symm|exact e7 e.symm)]
end
theorem goal_miss (x:It):(hasS (goalK x) nTarget=false)↔getS (goalK x) nTarget 0=0:=by
 unfold goalK
 rw[has_zero (p:=⟨nTarget,[5],false,1,1,999999⟩) rfl rfl (by decide)]
theorem has_rule: ∀k:List It,hasS k nRule=false↔(rulC k).length=0
 | []=>by simp[hasS,rulC]
 |x::k=>by
  rw[hasS,rulC,List.length_append]
  by_cases h:x.name=nRule
  ·rw[if_pos h,if_pos h];simp
  ·rw[if_neg h,if_neg h,has_rule k];simp
theorem grain_pos (x:It):1≤getS (goalK x) nGrain 60∧getS (goalK x) nGrain 60≤86400:=by
 rcases getS_between (wh:=1) (sub:=subG) (l:=x.kids) (n:=nGrain) (p:=⟨nGrain,[6],false,1,1,86400⟩) rfl rfl 60 with h|h
 ·unfold goalK;rw[h];decide
 ·exact h
end
section
open Go.RowKit
theorem each_map2 {wh:Nat} {sub:It→List Flt} {M:List It→List Flt→Foot→World→Prop} {fpv:Value} (hD:Doing M fpv) {k:Nat} (hk1:1≤k) (hk4:k≤4) (hSub:SubLe k sub) {L:List It} {D:Nat} {S:Nat→Prop} {v:Value} {w W:World} {B:Nat} {hm:ByteArray→Option Value}
  {F:List Flt} {O:Foot} (hM:M [] F O w) (hb:Below w.heap.size w W) (hH:HIs W B hm) (hB:w.heap.size≤B) (hT:ItemsIs D w S v L) (hSl: ∀b,S b→b<w.heap.size) (hSO: ∀b,S b→¬O b) (hfew:F.length+4*cntL L≤1000000)
  (hE: ∀x∈L,HandlesC wh sub M (fun b=>S b∨(w.heap.size≤b∧b<W.heap.size)) W hm S x):
  Calls Tryz.prog 33 #[fpv,v, .map (some B)] W fun e w'=>e= .returned (.tuple #[])∧∃O',M (lookS wh sub L).1 (F++(lookS wh sub L).2) O' w'∧Frm O W w'∧Grown O O' W.heap.size:=by
 have hOl:=hD.lt _ _ _ _ hM
 refine(each_any hD hk1 hk4 hSub L D S v W B hm hH (fun b=>S b∨(w.heap.size≤b∧b<W.heap.size)) (fun b h=>h.elim (fun h=>Nat.lt_of_lt_of_le (hSl b h) hb.size) (fun h=>h.2)) (Mx ⟨hB,hH.lt⟩) (fun b h=>My h) (hT.keep (fun _ h=>h) (fun b h=>hb.block b (hSl b h))) hE F O
  (hD.keep _ _ _ _ _ hM (fun b h=>hb.block b (hOl b h))) (fun b h ho=>h.elim (fun h=>hSO b h ho) (fun h=>by have:=hOl b ho;omega)) hfew).mono ?_
 rintro e w' ⟨rfl,O',h1,h2,h3⟩
 exact⟨rfl,O',h1,h2,h3⟩
def rpC:List It→List (RlC×Int×Int)
 | []=> []
 |x::k=>(if x.name=nRule then [(ruleC x,x.a,x.b)]else [])++rpC k
theorem rulC_rp: ∀k:List It,rulC k=(rpC k).map (·.1)
 | []=>rfl
 |x::k=>by rw[rulC,rpC,List.map_append,rulC_rp k];split<;>rfl
theorem plcC_rp: ∀k:List It,plcC k=(rpC k).map (·.2)
 | []=>rfl
 |x::k=>by rw[plcC,rpC,List.map_append,plcC_rp k];split<;>rfl
def offOne (g:Int) (r:RlC×Int×Int):List Flt:=if r.1.long%g≠0∨r.1.short%g≠0 then [(8,r.2.1,r.2.2)]else []
theorem offs_rp (g:Int): ∀k:List It,offsS g k=(rpC k).flatMap (offOne g)
 | []=>rfl
 |x::k=>by
  rw[offsS,rpC,List.flatMap_append,offs_rp g k]
  congr 1
  by_cases hx:x.name=nRule
  ·rw[if_pos hx]
   simp only[List.flatMap_cons,List.flatMap_nil,List.append_nil]
   unfold offOne OffS ruleC ruleB
   by_cases h:getS (ruleK x) nLong 0%g≠0∨getS (ruleK x) nShort 0%g≠0
   ·rw[if_pos ⟨hx,h⟩,if_pos h]
   ·rw[if_neg (fun e=>h e.2),if_neg h]
  ·rw[if_neg hx,if_neg (fun e=>hx e.1)];rfl
theorem off_take (g:Int) (l:List (RlC×Int×Int)) (i:Nat) (r:RlC×Int×Int) (h:l[i]?=some r):(l.take (i+1)).flatMap (offOne g)=(l.take i).flatMap (offOne g)++offOne g r:=by
 obtain⟨hi,e⟩:=List.getElem?_eq_some_iff.1 h
 rw[List.take_succ_eq_append_getElem hi,List.flatMap_append,e]
 simp
theorem off_one_le (g:Int) (r:RlC×Int×Int):(offOne g r).length≤1:=by
 unfold offOne;split<;>simp
theorem off_le (g:Int): ∀l:List (RlC×Int×Int),(l.flatMap (offOne g)).length≤l.length
 | []=>Nat.le_refl _
 |r::l=>by
  have h1:=off_one_le g r
  have h2:=off_le g l
  rw[List.flatMap_cons,List.length_append,List.length_cons]
  omega
theorem rp_pos: ∀ {k:List It} {r:RlC×Int×Int},r∈rpC k→(0≤r.1.long∧r.1.long≤34560000)∧0≤r.1.short∧r.1.short≤34560000
 |x::k,r,h=>by
  rw[rpC]at h
  rcases List.mem_append.mp h with h|h
  ·split at h
   ·rw[List.mem_singleton]at h
    subst h
    have h1:=getS_between (wh:=2) (sub:=sub2) (l:=x.kids) (n:=nLong) (p:=⟨nLong,[6],false,1,1,34560000⟩) rfl rfl 0
    have h2:=getS_between (wh:=2) (sub:=sub2) (l:=x.kids) (n:=nShort) (p:=⟨nShort,[6],false,1,1,34560000⟩) rfl rfl 0
    unfold ruleC ruleB ruleK
    simp only at h1 h2 ⊢
    omega
   ·cases h
  ·exact rp_pos h
theorem rolling_pos (x:It):0≤getS (goalK x) nRolling 0∧getS (goalK x) nRolling 0≤34560000:=by
 have h1:=getS_between (wh:=1) (sub:=subG) (l:=x.kids) (n:=nRolling) (p:=⟨nRolling,[6],false,1,1,34560000⟩) rfl rfl 0
 unfold goalK
 simp only at h1
 omega
theorem wholeG_eq (x:It) (k:List It):wholeG x k=(if getS k nTarget 0=0∧False∨hasS k nTarget=false∨(rpC k).length=0 then [(6,x.a,x.b)]else [])++((rpC k).flatMap (offOne (getS k nGrain 60))++(if getS k nRolling 0%getS k nGrain 60≠0 then [(8,x.a,x.b)]else [])):=by
 unfold wholeG
 rw[offs_rp]
 congr 1
 have e:hasS k nRule=false↔(rpC k).length=0:=by rw[has_rule,rulC_rp,List.length_map]
 by_cases h:hasS k nTarget=false∨hasS k nRule=false
 ·rw[if_pos h,if_pos (Mx (h.imp id e.mp))]
 ·rw[if_neg h,if_neg (by rintro(⟨_,h2⟩|h2|h2);exact h2;exact h (My h2);exact h (Mx (e.mpr h2)))]
theorem wholeG_is (x:It):wholeG x (goalK x)=(if getS (goalK x) nTarget 0=0∨(rpC (goalK x)).length=0 then [(6,x.a,x.b)]else [])++((rpC (goalK x)).flatMap (offOne (getS (goalK x) nGrain 60))++(if getS (goalK x) nRolling 0%getS (goalK x) nGrain 60≠0 then [(8,x.a,x.b)]else [])):=by
 rw[wholeG_eq]
 congr 1
 have e:=goal_miss x
 by_cases h:getS (goalK x) nTarget 0=0∨(rpC (goalK x)).length=0
 ·rw[if_pos h,if_pos (Mx (h.imp e.mpr id))]
 ·rw[if_neg h,if_neg (by rintro(⟨_,h2⟩|h2|h2);exact h2;exact h (My (e.mp h2));exact h (Mx h2))]
section
variable {base:Nat} {fpv:Value} {X:List Flt→Foot→World→Prop} {gb:Nat} {nm:ByteArray} {cs:List It} {F:List Flt} {O1:Foot} {lv rv pv:Value} {w w':World}
theorem M1At.add (hX:CtxC fpv X) (h:M1At base fpv X gb nm cs F O1 lv rv pv w) (hl:F.length≤1000000) (c a b:Int):Calls Tryz.prog 57 #[fpv, .int .i64 c, .agg #[.int .i64 a, .int .i64 b]] w fun e w'=>e= .returned (.tuple #[])∧∃O2,M1At base fpv X gb nm cs (F++ [(c,a,b)]) O2 lv rv pv w'∧Frm O1 w w'∧Grown O1 O2 w.heap.size:=by
 refine(hX.add F O1 w c a b h.x hl).mono ?_
 rintro e w' ⟨rfl,O2,q1,q2,q3⟩
 refine⟨rfl,O2,h.move q1 (fun i hi=>q2.keep i (h.olt hi) (h.ox hi)) (fun i hi e=>?_),q2,q3⟩
 rcases q3 i e with e|e
 ·exact h.ox hi e
 ·have:=h.olt hi;omega
theorem M1At.after (hX:CtxC fpv X) (h:M1At base fpv X gb nm cs F O1 lv rv pv w) (hb:Below w.heap.size w w'):M1At base fpv X gb nm cs F O1 lv rv pv w':=
 h.move (hX.keep _ _ _ _ h.x (fun b hb2=>hb.block b (hX.lt _ _ _ h.x b hb2))) (fun i hi=>hb.block i (h.olt hi)) (fun _ hi=>h.ox hi)
structure OffAt (base:Nat) (fpv:Value) (X:List Flt→Foot→World→Prop) (gb:Nat) (nm:ByteArray) (cs:List It) (F:List Flt) (g:Int) (O7:Foot) (lv rv pv:Value) (w7:World) (i:Nat) (O8:Foot) (w:World):Prop where
 at':M1At base fpv X gb nm cs (F++((rpC cs).take i).flatMap (offOne g)) O8 lv rv pv w
 frm:Frm O7 w7 w
 gr:Grown O7 O8 w7.heap.size
theorem OffAt.start {g:Int} (h:M1At base fpv X gb nm cs F O1 lv rv pv w):OffAt base fpv X gb nm cs F g O1 lv rv pv w 0 O1 w:=by
 refine⟨?_,Frm.refl _ _,Grown.refl _ _⟩
 rw[List.take_zero,List.flatMap_nil,List.append_nil];exact h
theorem OffAt.good (hX:CtxC fpv X) {g:Int} {O7 O8:Foot} {w7:World} {i:Nat} {r:RlC×Int×Int} (h:OffAt base fpv X gb nm cs F g O7 lv rv pv w7 i O8 w) (hr:(rpC cs)[i]?=some r) (hg: ¬(r.1.long%g≠0∨r.1.short%g≠0)) (hb:Below w.heap.size w w'):OffAt base fpv X gb nm cs F g O7 lv rv pv w7 (i+1) O8 w':=by
 refine⟨?_,h.frm.trans (Frm.of hb) h.gr,h.gr⟩
 rw[off_take g _ i r hr]
 unfold offOne
 rw[if_neg hg,List.append_nil]
 exact h.at'.after hX hb
theorem OffAt.bad {g:Int} {O7 O8 O9:Foot} {w7 w8:World} {i:Nat} {r:RlC×Int×Int} (h:OffAt base fpv X gb nm cs F g O7 lv rv pv w7 i O8 w) (hr:(rpC cs)[i]?=some r) (hg:r.1.long%g≠0∨r.1.short%g≠0) (hb:Below w.heap.size w w8)
  (hm:M1At base fpv X gb nm cs ((F++((rpC cs).take i).flatMap (offOne g))++ [(8,r.2.1,r.2.2)]) O9 lv rv pv w') (hf:Frm O8 w8 w') (hgr:Grown O8 O9 w8.heap.size):OffAt base fpv X gb nm cs F g O7 lv rv pv w7 (i+1) O9 w':=by
 have hs:=h.frm.size
 have hs2:=hb.size
 refine⟨?_,(h.frm.trans (Frm.of hb) h.gr).trans hf h.gr,fun j hj=>?_⟩
 ·rw[off_take g _ i r hr,←List.append_assoc]
  unfold offOne
  rw[if_pos hg]
  exact hm
 ·rcases hgr j hj with h1|h1
  ·exact h.gr j h1
  ·exact Mx (by omega)
end
theorem rem_is {l g:Int} (h0:0≤l) (_h9:l≤34560000) (g1:1≤g) (g9:g≤86400):l.tmod g=l%g∧IntKind.i64.wrap (l%g)=l%g:=by
 have h1:=Int.emod_nonneg l (by omega:g≠0)
 have h2:=Int.emod_lt_of_pos l (by omega:0<g)
 exact⟨Int.tmod_eq_emod_of_nonneg h0,by rw[IntKind.wrap_i64];omega⟩
end
end Go.Proofs.YtalcagmhdppdjaaGreatDoor
