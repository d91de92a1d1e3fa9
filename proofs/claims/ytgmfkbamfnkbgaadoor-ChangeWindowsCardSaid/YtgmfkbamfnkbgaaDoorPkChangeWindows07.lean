/-
  Package show: whether all labels are right, and of unlike names: walked.
-/
import Derived.Test.YtgmfkbamfnkbgaaDoorPkChangeWindows06
set_option maxRecDepth 100000
set_option maxHeartbeats 8000000
namespace Go.Proofs.YtgmfkbamfnkbgaaDoor
open Lib renaming hid→Lh
open List renaming setIfInBounds_toArray→Lq,set_cons_zero→Lj,set_cons_succ→Lk,getElem?_eq_getElem→Kh,take_succ_cons→Kj,length_map→Ky,take_zero→Jh
open Nat renaming reduceAdd→Lx,zero_add→Ly,le_trans→Kz
open Act renaming put→Mq
open Go.RowKit.Below renaming refl→Mj
section
open Go.RowKit Go.Lib
theorem VarL.cellsAt {sz:Nat} {w:World} {p:Nat} {ys:List (List Value)} (h:VarL w p ys.flatten) (hw: ∀u∈ys,u.length=sz):CellsAt sz w (some ⟨p,0,none⟩) ys:=
 ⟨hw,fun i hi=>⟨p,0,rfl,fun j hj=>by
  rw[Ly]
  exact h.c (i*sz+j) (getD_flatten ys i j hw hi hj)⟩⟩
theorem info_i64:(Tryd.prog.info? 2).map (fun i=>(i.zero,i.size,i.bytes))=some (some (.int .i64 0),1,8):=by kernel_rfl
def GivesN (l:List Int) (w:World) (e:Ending) (w':World):Prop:= ∃v,e= .returned v∧RowK 2 1 w' w.heap.size v (l.map numL)∧Below w.heap.size w w'
def takeW (rs:List RlC) (i:Nat):List Int:=(rs.take i).flatMap (fun r=> [r.long,r.short])
theorem takeW_len (rs:List RlC) (i:Nat):(takeW rs i).length≤2*rs.length:=by
 unfold takeW
 rw[List.length_flatMap]
 have: ∀l:List RlC,(l.map (fun r=>([r.long,r.short]:List Int).length)).sum=2*l.length:=fun l=>by
  induction l with
  |nil=>rfl
  |cons x l ih=>rw[List.map_cons,List.sum_cons,ih,List.length_cons];simp;omega
 rw[this,List.length_take]
 omega
theorem takeW_succ (rs:List RlC) (i:Nat) {r:RlC} (h:rs[i]?=some r):takeW rs (i+1)=takeW rs i++ [r.long,r.short]:=by
 unfold takeW
 rw[List.take_add_one,h,List.flatMap_append]
 rfl
theorem takeW_all (rs:List RlC) {n:Nat} (h:rs.length=n):takeW rs n=rs.flatMap (fun r=> [r.long,r.short]):=by
 unfold takeW
 rw[←h,List.take_length]
theorem win_any (g:GlC) (u:List Value) (w:World) (hu:GolI w u g) (hl:g.rules.length≤400000):Calls Tryd.prog 15 #[.agg u.toArray] w (GivesN (winS g) w):=by
 obtain⟨lv,rv,rfl,i1,i2⟩:=hu
 obtain⟨a1,k1,rfl,_⟩:=i1.size
 obtain⟨a2,k2,rfl,hc2⟩:=i2.size
 obtain⟨n1,hn1⟩: ∃n,(g.labels.map labV).length=n:=⟨_,rfl⟩
 obtain⟨n,hn⟩: ∃n,(g.rules.map rulV).length=n:=⟨_,rfl⟩
 obtain⟨gb,W0,hgb,hW0,V0,b0,z0⟩:=boxL w (golL g (.slice a1 (g.labels.map labV).length k1) (.slice a2 (g.rules.map rulV).length k2)) 44
 rw[hn1,hn]at hW0 V0 ⊢
 rw[hn]at i2 hc2
 have hnr:g.rules.length=n:=by rw[←hn,Ky]
 have HI:=Lh (i2.below b0)
 have HV0:=Lh V0
 have HB0:=Lh b0
 have HW:=Lh (win_of g)
 have HAW:Hid (allW g=takeW g.rules n++(if g.rolling≠0 then [g.rolling]else [])):=Lh (by rw[takeW_all _ hnr];rfl)
 have HTL:=Lh (fun i=>takeW_len g.rules i)
 have HTS:=Lh (fun i r h=> @takeW_succ g.rules i r h)
 have HLN:Hid (g.rules.length=n∧g.rules.length≤400000):=Lh ⟨hnr,hl⟩
 have HRV:Hid (∀i,i<n→∃r,g.rules[i]?=some r∧(g.rules.map rulV)[i]?=some (rulV r)):=Lh (fun i hi=>⟨g.rules[i],Kh (by omega),by rw[List.getElem?_map,Kh (by omega)];rfl⟩)
 have c4:=V0.c 4 rfl
 have c7:=V0.c 7 rfl
 obtain⟨B,hB⟩: ∃B,W0.heap.size=B:=⟨_,rfl⟩
 have HBB:Hid (W0.heap.size=B∧w.heap.size≤B):=Lh ⟨hB,by have:=b0.size;omega⟩
 obtain⟨nm,tg,gn,la,ro,ca,L,R⟩:=g
 simp only[golL]at hW0 c4 c7 HV0 HW HAW HTL HTS HLN HRV HI ⊢
 clear i1 i2 hn1 hn hnr hl V0 b0 hB
 go_enter Tryd.func15,Tryd.ntmps15
 go_wp2
 go_loopw [3,9] (fun v3 v9 wr=> ∃i:Nat,i≤n∧v9= .int .i64 (i:Int)∧RowK 2 1 wr B v3 ((takeW R i).map numL)∧Below B W0 wr) (fun _ v9 _=>n-(intOf v9).toNat)
 case atStart=>exact⟨0,Nat.zero_le _,rfl,RowK.nil _ _ _ _,Mj _ _⟩
 case round=>
  obtain⟨i,hi,rfl,hrow,hb⟩:=hrel
  have HR:=Lh hrow
  have hbw:Below W0.heap.size W0 wr:=by rw[HBB.out.1];exact hb
  have HB:=Lh hbw
  by_cases hin:i<n
  ·obtain⟨r,hr,hru⟩:=HRV.out i hin
   obtain⟨b,off,rfl,hlt,hcell⟩:=HI.out.at i _ hru
   simp only[rulV]at hcell
   have f0:wr.cell? ⟨b,off+i*7,none⟩=some (.string r.name):=(hbw.cell (p:=⟨b,off+i*7,none⟩) hlt).trans (hcell 0 _ rfl)
   have f1:wr.cell? ⟨b,off+i*7+1,none⟩=some (.bool r.page):=(hbw.cell (p:=⟨b,off+i*7+1,none⟩) hlt).trans (hcell 1 _ rfl)
   have f2:wr.cell? ⟨b,off+i*7+2,none⟩=some (.int .i64 r.long):=(hbw.cell (p:=⟨b,off+i*7+2,none⟩) hlt).trans (hcell 2 _ rfl)
   have f3:wr.cell? ⟨b,off+i*7+3,none⟩=some (.int .i64 r.short):=(hbw.cell (p:=⟨b,off+i*7+3,none⟩) hlt).trans (hcell 3 _ rfl)
   have f4:wr.cell? ⟨b,off+i*7+4,none⟩=some (.int .u64 r.factor):=(hbw.cell (p:=⟨b,off+i*7+4,none⟩) hlt).trans (hcell 4 _ rfl)
   have f5:wr.cell? ⟨b,off+i*7+5,none⟩=some (.int .i64 r.hold):=(hbw.cell (p:=⟨b,off+i*7+5,none⟩) hlt).trans (hcell 5 _ rfl)
   have f6:wr.cell? ⟨b,off+i*7+6,none⟩=some (.int .i64 r.keep):=(hbw.cell (p:=⟨b,off+i*7+6,none⟩) hlt).trans (hcell 6 _ rfl)
   have HTI:=Lh (HTS.out i r hr)
   have hln:=HLN.out
   have hi1:IntKind.i64.wrap ((i:Int)+1)=((i+1:Nat):Int):=by rw[IntKind.wrap_i64];omega
   obtain⟨xb,W1,hxb,hW1,V1,b1,z1⟩:=boxL wr [.string ⟨#[]⟩, .bool false, .int .i64 0, .int .i64 0, .int .u64 0, .int .i64 0, .int .i64 0] 52
   have c0:=V1.c 0 rfl;have q0:=V1.q 0 rfl;have c1:=V1.c 1 rfl;have q1:=V1.q 1 rfl;have c2:=V1.c 2 rfl;have q2:=V1.q 2 rfl;have c3:=V1.c 3 rfl;have q3:=V1.q 3 rfl
   have c4:=V1.c 4 rfl;have q4:=V1.q 4 rfl;have c5:=V1.c 5 rfl;have q5:=V1.q 5 rfl;have c6:=V1.c 6 rfl;have q6:=V1.q 6 rfl
   obtain⟨W2,hW2⟩: ∃W2,putL xb 0 [.string r.name, .bool r.page, .int .i64 r.long, .int .i64 r.short, .int .u64 r.factor, .int .i64 r.hold, .int .i64 r.keep] W1=W2:=⟨_,rfl⟩
   have HV2:Hid (VarL W2 xb [.string r.name, .bool r.page, .int .i64 r.long, .int .i64 r.short, .int .u64 r.factor, .int .i64 r.hold, .int .i64 r.keep]):=Lh (by rw[←hW2];exact putL_var [.string r.name, .bool r.page, .int .i64 r.long, .int .i64 r.short, .int .u64 r.factor, .int .i64 r.hold, .int .i64 r.keep] [] [.string ⟨#[]⟩, .bool false, .int .i64 0, .int .i64 0, .int .u64 0, .int .i64 0, .int .i64 0] W1 V1 rfl)
   have hb2:Below wr.heap.size wr W2:=by rw[←hW2];exact putL_below _ (by omega) _ _ b1
   have d2:=HV2.out.c 2 rfl
   have d3:=HV2.out.c 3 rfl
   simp only[putL,Ly]at hW2
   obtain⟨yb,W3,hyb,hW3,V3,b3,z3⟩:=boxL W2 [.int .i64 r.long, .int .i64 r.short] 2
   have hb3:=below_step hb2 b3
   have HR3:=Lh (HR.out.below hb3)
   have HB3:=Lh (below_step HB.out hb3)
   have HCE:Hid (CellsAt 1 W3 (some ⟨yb,0,none⟩) ([r.long,r.short].map numL)):=Lh (VarL.cellsAt (ys:= [r.long,r.short].map numL) V3 (num_wid _))
   have HLE:Hid (((takeW R i).map numL).length+([r.long,r.short].map numL).length≤1000000):=Lh (by have:=HTL.out i;have:=HLN.out;rw[Ky];simp;omega)
   have HSZ:Hid (B≤W3.heap.size):=Lh (by have:=HB3.out.size;have:=HBB.out;omega)
   clear hln hr hru hlt hcell hb hbw hrow b1 z1 V1 hb2 b3 z3 V3 hb3
   go_wp2_with (at_builtin;(refine wp_rowKs (T:=47) (t:=2) (sz:=1) rfl _ _ rfl Tryd.underlying47 info_i64 rfl (by decide) (by decide) B _ _ rfl HR3.out (some ⟨yb,0,none⟩) 2 2 ([r.long,r.short].map numL) rfl rfl HCE.out (num_one _) HLE.out HSZ.out ?_))
   intro v' w' hrow' ho' _
   have hb':Below W0.heap.size W0 w':=HB3.out.trans (by rw[HBB.out.1];exact ho'.bel)
   have HR4:Hid (RowK 2 1 w' B v' ((takeW R (i+1)).map numL)):=Lh (by rw[HTI.out,List.map_append];exact hrow')
   have HB4:=Lh hb'
   clear hrow' ho' hb' f0 f1 f2 f3 f4 f5 f6 c0 c1 c2 c3 c4 c5 c6 q0 q1 q2 q3 q4 q5 q6 d2 d3
   go_wp2
   go_roundw
   case rel=>exact⟨i+1,by omega,by go_num,HR4.out,by have:=HB4.out;rw[HBB.out.1]at this;exact this⟩
   case measure=>simp[intOf];omega
  ·have en:n=i:=by omega
   subst en
   have x4:=(HV0.out.after hbw).c 4 rfl
   have HSZ:Hid (B≤wr.heap.size):=Lh (by have:=hbw.size;have:=HBB.out;omega)
   have HLE:=Lh (show(takeW R n).length≤800000 by have:=HTL.out n;have:=HLN.out;omega)
   clear hrow hb hbw c4 c7
   by_cases hro:ro=0
   ·subst hro
    have HAE:Hid (compact ((takeW R n).mergeSort fun x y=>decide (x≤y))=winS ⟨nm,tg,gn,la,0,ca,L,R⟩):=Lh (by rw[←HW.out,HAW.out,if_neg (by simp),List.append_nil])
    have HS:=Lh (sort_row B _ (takeW R n) wr HR.out (by have:=HLE.out;omega) HSZ.out)
    go_wp2_with (first
     |(go_at_call 29;(with_reducible refine(HS.out).mono ?_);rintro e w1 ⟨rfl,h1,h2⟩;have HB1:=Lh h2;have HC:=Lh (compact_row B _ _ w1 h1 (by rw[List.length_mergeSort];have:=HLE.out;omega) (Kz HSZ.out h2.size));clear h1 h2)
     |(go_at_call 30;(with_reducible refine(HC.out).mono ?_);rintro e w2 ⟨v',rfl,h3,h4⟩;have HR5:=Lh h3;have HB5:=Lh h4;clear h3 h4))
    go_ret
    exact⟨_,rfl,by rw[←HAE.out];exact HR5.out.weaken HBB.out.2,HB0.out.trans ((HB.out.mono (by have:=HBB.out;omega)).trans ((HB1.out.trans HB5.out).mono HBB.out.2))⟩
   ·have HAE:Hid (compact ((takeW R n++ [ro]).mergeSort fun x y=>decide (x≤y))=winS ⟨nm,tg,gn,la,ro,ca,L,R⟩):=Lh (by rw[←HW.out,HAW.out,if_pos hro])
    obtain⟨yb,W3,hyb,hW3,V3,b3,z3⟩:=boxL wr [.int .i64 ro] 2
    have HR3:=Lh (HR.out.below b3)
    have HB3:=Lh (below_step HB.out b3)
    have HCE:Hid (CellsAt 1 W3 (some ⟨yb,0,none⟩) ([ro].map numL)):=Lh (VarL.cellsAt (ys:= [ro].map numL) V3 (num_wid _))
    have HLE2:Hid (((takeW R n).map numL).length+([ro].map numL).length≤1000000):=Lh (by have:=HLE.out;rw[Ky];simp;omega)
    have HSZ3:Hid (B≤W3.heap.size):=Lh (by have:=b3.size;have:=HSZ.out;omega)
    clear b3 z3 V3
    go_wp2_with (at_builtin;(refine wp_rowKs (T:=47) (t:=2) (sz:=1) rfl _ _ rfl Tryd.underlying47 info_i64 rfl (by decide) (by decide) B _ _ rfl HR3.out (some ⟨yb,0,none⟩) 1 1 ([ro].map numL) rfl rfl HCE.out (num_one _) HLE2.out HSZ3.out ?_))
    intro v' w4 hrow' ho' _
    have h4:RowK 2 1 w4 B v' ((takeW R n++ [ro]).map numL):=by rw[List.map_append];exact hrow'
    have HB4:Hid (Below W0.heap.size W0 w4):=Lh (HB3.out.trans (by rw[HBB.out.1];exact ho'.bel))
    have HS4:Hid (B≤w4.heap.size):=Lh (Kz HSZ3.out ho'.bel.size)
    have HLE4:Hid ((takeW R n++ [ro]).length≤1000000):=Lh (by have:=HLE.out;simp;omega)
    have HS:=Lh (sort_row B v' _ w4 h4 HLE4.out HS4.out)
    clear hrow' ho' h4
    go_wp2_with (first
     |(go_at_call 29;(with_reducible refine(HS.out).mono ?_);rintro e w1 ⟨rfl,h1,h2⟩;have HB1:=Lh h2;have HC:=Lh (compact_row B v' _ w1 h1 (by rw[List.length_mergeSort];exact HLE4.out) (Kz HS4.out h2.size));clear h1 h2)
     |(go_at_call 30;(with_reducible refine(HC.out).mono ?_);rintro e w2 ⟨v6,rfl,h3,h4⟩;have HR5:=Lh h3;have HB5:=Lh h4;clear h3 h4))
    go_ret
    exact⟨_,rfl,by rw[←HAE.out];exact HR5.out.weaken HBB.out.2,HB0.out.trans ((HB4.out.mono (by have:=HBB.out;omega)).trans ((HB1.out.trans HB5.out).mono HBB.out.2))⟩
end
section
open Go.RowKit
theorem GivesQ.is {A:Prop} {f:FuncId} {args:Array Value} {w:World} {q:Bool} (hq:q=true↔A) (h:Calls Tryd.prog f args w (GivesQ A w)):Calls Tryd.prog f args w fun e w'=>e= .returned (.bool q)∧Below w.heap.size w w':=by
 refine h.mono ?_
 rintro e w' ⟨q',rfl,h',g⟩
 obtain rfl:q'=q:=by cases q<;>cases q'<;>simp_all
 exact⟨rfl,g⟩
theorem ch {q:Bool} {X:Prop} (h:X):q=false∨(q=true∧X):=by
 cases q
 ·exact Or.inl rfl
 ·exact Or.inr ⟨rfl,h⟩
theorem eqb (q:Bool):q=false∨q=true:=by cases q<;>simp
theorem shq_of (A:Prop): ∃q:Bool,q=true↔A:=by
 by_cases h:A
 ·exact⟨true,fun _=>h,fun _=>rfl⟩
 ·exact⟨false,fun e=>Bool.noConfusion e,fun e=>(h e).elim⟩
theorem wlab_any (l:ByteArray×ByteArray) (w:World) (env:Env w) (hm:l.1.size≤4294967296) (hm2:l.2.size≤4294967296):Calls Tryd.prog 57 #[.agg (labV l).toArray] w (GivesQ (LabOk l) w):=by
 obtain⟨s,t⟩:=l
 simp only at hm hm2
 obtain⟨g,W1,hg,hW1,V1,b1,z1⟩:=boxL w [.string s, .string t] 65
 obtain⟨q0,h0⟩:=shq_of (NameL (runesOf (nums s)))
 obtain⟨q1,h1⟩:=shq_of (GoodL (runesOf (nums t)))
 obtain⟨m,hmm⟩: ∃m,(runesOf (nums t)).length=m:=⟨_,rfl⟩
 have HQ:Hid ((q0&&(q1&&decide ((m:Int)≤120)))=true↔LabOk (s,t)):=Lh (by
  rw[Bool.and_eq_true,Bool.and_eq_true,decide_eq_true_eq,h0,h1,←hmm]
  exact and_congr_right fun _=>and_congr_right fun _=>by simp only;omega)
 have HN:=Lh (GivesQ.is h0 (tname_any s W1 (env.step b1) hm))
 have HG:=Lh (fun W (b:Below W1.heap.size W1 W)=>GivesQ.is h1 (tgood_any t W (env.step (below_step b1 b)) hm2))
 have HC:=Lh (fun W (b:Below W1.heap.size W1 W)=>by have:=tcount_any t W (env.step (below_step b1 b)) hm2;rw[hmm]at this;exact this)
 have HB:=Lh b1
 have HV:=Lh V1
 have c0:=V1.c 0 rfl
 clear env hm hm2 b1 z1 h0 h1 V1 hmm
 show Calls Tryd.prog 57 #[.agg #[.string s, .string t]] w _
 rcases ch (q:=q0) (eqb q1)with rfl|⟨rfl,rfl|rfl⟩
 all_goals
  go_enter Tryd.func57,Tryd.ntmps57
  go_wp2_with (first
   |(go_at_call 52;(with_reducible refine(HN.out).mono ?_);rintro e W2 ⟨rfl,h⟩;have DD:=Lh h;have c1:=(HV.out.after h).c 1 rfl;clear h)
   |(go_at_call 82;(with_reducible refine(HG.out _ DD.out).mono ?_);rintro e W3 ⟨rfl,h⟩;have DE:=Lh (below_step DD.out h);have c2:=(HV.out.after DE.out).c 1 rfl;clear h)
   |(go_at_call 83;(with_reducible refine(HC.out _ DE.out).mono ?_);rintro e W4 ⟨rfl,h⟩;have DF:=Lh (below_step DE.out h);clear h))
  go_ret
  exact⟨_,rfl,by simpa using HQ.out,below_step HB.out (by first|exact DF.out|exact DE.out|exact DD.out)⟩
end
section
open Go.RowKit
def TVs (l:List Value) (i:Nat) (v:Value) (_:World):Prop:=v=l.getD i undef
theorem TVs.keep (l:List Value) (i:Nat) (v:Value) (w w':World) (h:TVs l i v w) (_:Below w.heap.size w w'):TVs l i v w':=h
theorem str_same (a b:ByteArray):(a.toList==b.toList)=decide (a=b):=by
 rw[ByteArray.toList_eq,ByteArray.toList_eq]
 obtain⟨⟨a⟩⟩:=a
 obtain⟨⟨b⟩⟩:=b
 by_cases h:a=b<;>simp[h]
def NamedK (Q:ByteArray→List Value→Prop) (us:List (List Value)) (ns:List ByteArray):Prop:=us.length=ns.length∧∀(i:Nat) (u:List Value) (s:ByteArray),us[i]?=some u→ns[i]?=some s→Q s u
theorem NamedK.take {Q:ByteArray→List Value→Prop} {us:List (List Value)} {ns:List ByteArray} (h:NamedK Q us ns) (n:Nat):NamedK Q (us.take n) (ns.take n):=by
 refine⟨by rw[List.length_take,List.length_take,h.1],fun i u s hu hs=>?_⟩
 have hi:i<(us.take n).length:=(List.getElem?_eq_some_iff.1 hu).1
 rw[List.length_take]at hi
 rw[List.getElem?_take_of_lt (by omega)]at hu hs
 exact h.2 i u s hu hs
def AllN (P:Nat→Prop) (ns:List ByteArray) (n:Nat):Prop:= ∀(j:Nat) (y:ByteArray),j<n→ns[j]?=some y→P j∧∀(k:Nat) (z:ByteArray),k<j→ns[k]?=some z→z≠y
theorem NamedK.row {Q:ByteArray→List Value→Prop} {us:List (List Value)} {ns:List ByteArray} (h:NamedK Q us ns) {i:Nat} (hi:i<us.length): ∃s u,us[i]?=some u∧ns[i]?=some s∧Q s u:=by
 have h1:us[i]?=some us[i]:=Kh hi
 have h2:ns[i]?=some (ns[i]'(by rw[←h.1];exact hi)):=Kh _
 exact⟨_,_,h1,h2,h.2 i _ _ h1 h2⟩
def labelQ (s:ByteArray) (u:List Value):Prop:= ∃(y1:ByteArray),u= [.string s, .string y1]
theorem label_name (s:ByteArray) (y1:ByteArray) (w:World):Calls Tryd.prog 58 #[.agg #[.string s, .string y1]] w fun e w'=>e= .returned (.string s)∧Below w.heap.size w w':=by
 obtain⟨yb,W1,hyb,hW1,V1,b1,z1⟩:=boxL w [.string s, .string y1] 65
 have c0:=V1.c 0 rfl
 have HB:=Lh b1
 clear b1 V1 z1
 go_enter Tryd.func58,Tryd.ntmps58
 go_wp2
 go_ret
 exact⟨rfl,HB.out⟩
theorem label_same (s t:ByteArray) (y1:ByteArray) (x1:ByteArray) (nb xb:Nat) (w:World) (hn:VarL w nb [.func (.func 58) #[] #[]]) (hx:VarL w xb [.string t, .string x1]):
  Calls Tryd.prog 80 #[.agg #[.string s, .string y1], .pointer (some ⟨nb,0,none⟩), .pointer (some ⟨xb,0,none⟩)] w fun e w'=>e= .returned (.bool (decide (s=t)))∧Below w.heap.size w w':=by
 obtain⟨yb,W1,hyb,hW1,V1,b1,z1⟩:=boxL w [.string s, .string y1] 65
 have HB:=Lh b1
 have HC:Hid (∀W,Below W1.heap.size W1 W→W.cell? ⟨nb,0,none⟩=some (.func (.func 58) #[] #[])∧(W.cell? ⟨yb,0,none⟩=some (.string s)∧W.cell? ⟨yb,1,none⟩=some (.string y1))∧W.cell? ⟨xb,0,none⟩=some (.string t)∧W.cell? ⟨xb,1,none⟩=some (.string x1)):=Lh (fun W b=>
  ⟨((hn.after b1).after b).c 0 rfl,⟨(V1.after b).c 0 rfl,(V1.after b).c 1 rfl⟩,((hx.after b1).after b).c 0 rfl,((hx.after b1).after b).c 1 rfl⟩)
 have HNY:=Lh (fun W=>label_name s y1 W)
 have HNX:=Lh (fun W=>label_name t x1 W)
 obtain⟨q,hq⟩: ∃q,decide (s=t)=q:=⟨_,rfl⟩
 have HE:Hid ((s.toList==t.toList)=q):=Lh ((str_same s t).trans hq)
 rw[hq]
 clear b1 V1 z1 hn hx hq
 go_enter Tryd.func80,Tryd.ntmps80
 go_wp2
 refine wp_region_mix 6 (TVs [.func (.func 58) #[] #[], .agg #[.string s, .string y1], .string s, .func (.func 58) #[] #[], .agg #[.string t, .string x1], .string t]) (fun _=>false) (by kernel_rfl) (by kernel_rfl) (TVs.keep _) (fun _ _ _ h=>by cases h) ?_ ?_
 ·refine⟨?_,?_,?_,?_,?_,?_,trivial⟩
  ·intro u W hb hd
   obtain⟨n0,_⟩:=HC.out W hb
   simp only[Kj,Jh,putAll,Mq,Lq,Lk,Lj,Ly,Lx]
   go_wp2
   first|exact⟨rfl,Mj _ _⟩|exact⟨_,rfl,rfl,Mj _ _⟩|exact⟨_,rfl,rfl,Mj _ _,fun h=>by simp at h⟩
  ·intro u W hb hd
   obtain⟨_,⟨y00,y01⟩,_⟩:=HC.out W hb
   simp only[Kj,Jh,putAll,Mq,Lq,Lk,Lj,Ly,Lx]
   go_wp2
   first|exact⟨rfl,Mj _ _⟩|exact⟨_,rfl,rfl,Mj _ _⟩|exact⟨_,rfl,rfl,Mj _ _,fun h=>by simp at h⟩
  ·intro u W hb hd
   have e0:u 0= .func (.func 58) #[] #[]:=hd.1 rfl (by decide)
   have e1:u 1= .agg #[.string s, .string y1]:=hd.2.1 rfl (by decide)
   simp only[Kj,Jh,putAll,Mq,Lq,Lk,Lj,Ly,Lx]
   rw[e0,e1]
   go_wp2_with (go_at_call 58;(with_reducible refine(HNY.out _).mono ?_);rintro e W2 ⟨rfl,g⟩)
   first|exact⟨rfl,g⟩|exact⟨_,rfl,rfl,g⟩|exact⟨_,rfl,rfl,g,fun h=>by simp at h⟩
  ·intro u W hb hd
   obtain⟨n0,_⟩:=HC.out W hb
   simp only[Kj,Jh,putAll,Mq,Lq,Lk,Lj,Ly,Lx]
   go_wp2
   first|exact⟨rfl,Mj _ _⟩|exact⟨_,rfl,rfl,Mj _ _⟩|exact⟨_,rfl,rfl,Mj _ _,fun h=>by simp at h⟩
  ·intro u W hb hd
   obtain⟨_,_,x00,x01⟩:=HC.out W hb
   simp only[Kj,Jh,putAll,Mq,Lq,Lk,Lj,Ly,Lx]
   go_wp2
   first|exact⟨rfl,Mj _ _⟩|exact⟨_,rfl,rfl,Mj _ _⟩|exact⟨_,rfl,rfl,Mj _ _,fun h=>by simp at h⟩
  ·intro u W hb hd
   have e0:u 3= .func (.func 58) #[] #[]:=hd.1 rfl (by decide)
   have e1:u 4= .agg #[.string t, .string x1]:=hd.2.1 rfl (by decide)
   simp only[Kj,Jh,putAll,Mq,Lq,Lk,Lj,Ly,Lx]
   rw[e0,e1]
   go_wp2_with (go_at_call 58;(with_reducible refine(HNX.out _).mono ?_);rintro e W2 ⟨rfl,g⟩)
   first|exact⟨rfl,g⟩|exact⟨_,rfl,rfl,g⟩|exact⟨_,rfl,rfl,g,fun h=>by simp at h⟩
 ·intro u W hb hT _
  have e2:u 2= .string s:=hT 2 (by decide)
  have e5:u 5= .string t:=hT 5 (by decide)
  have HB2:=Lh (below_step HB.out hb)
  have he:=HE.out
  clear hb hT
  simp only[Kj,Jh,List.drop_succ_cons,List.drop_zero,putAll,Mq,Lq,Lk,Lj,Ly,Lx]
  rw[e2,e5]
  go_wp2
  go_ret
  exact⟨rfl,HB2.out⟩
theorem label_index (t:ByteArray) (x1:ByteArray) (nb xb:Nat) (us:List (List Value)) (ns:List ByteArray) (v:Value) (w:World) (hv:InK 2 w v us) (hN:NamedK labelQ us ns) (hl:us.length≤1000000) (hn:VarL w nb [.func (.func 58) #[] #[]]) (hx:VarL w xb [.string t, .string x1]):
  Calls Tryd.prog 93 #[v, .func (.func 80) #[] #[.pointer (some ⟨nb,0,none⟩), .pointer (some ⟨xb,0,none⟩)]] w fun e w'=>(∃i:Int,e= .returned (.int .i64 i)∧((0≤i∧∃k,k<us.length∧ns[k]?=some t)∨(i= -1∧∀(k:Nat) y,k<us.length→ns[k]?=some y→y≠t)))∧Below w.heap.size w w':=by
 obtain⟨a,cap,rfl,hc⟩:=hv.size
 obtain⟨n,hnn⟩: ∃n,us.length=n:=⟨_,rfl⟩
 rw[hnn]at hv hl ⊢
 have HV:=Lh hv
 have HNM:=Lh hN
 have HNB:=Lh hn
 have HXB:=Lh hx
 have HL:=Lh hnn
 clear hv hN hn hx hc hnn
 go_enter Tryd.func93,Tryd.ntmps93
 go_wp2
 go_loopw [8] (fun v8 wr=> ∃i:Nat,i≤n∧v8= .int .i64 (i:Int)∧Below w.heap.size w wr∧∀(k:Nat) y,k<i→ns[k]?=some y→y≠t) (fun v8 _=>n-(intOf v8).toNat)
 case atStart=>exact⟨0,Nat.zero_le _,rfl,Mj _ _,fun k y hk=>by omega⟩
 case round=>
  obtain⟨i,hi,rfl,hb,hW⟩:=hrel
  have HB:=Lh hb
  have HW:=Lh hW
  clear hW
  by_cases hin:i<n
  ·obtain⟨s,r,hu,hs,hr⟩:=HNM.out.row (i:=i) (by rw[HL.out];exact hin)
   obtain⟨y1,rfl⟩:=hr
   obtain⟨b,off,rfl,hlt,hcell⟩:=HV.out.at i _ hu
   have f0:wr.cell? ⟨b,off+i*2,none⟩=some (.string s):=(hb.cell (p:=⟨b,off+i*2,none⟩) hlt).trans (hcell 0 _ rfl)
   have f1:wr.cell? ⟨b,off+i*2+1,none⟩=some (.string y1):=(hb.cell (p:=⟨b,off+i*2+1,none⟩) hlt).trans (hcell 1 _ rfl)
   have HS:=Lh (label_same s t y1 x1 nb xb wr (HNB.out.after hb) (HXB.out.after hb))
   have HSN:=Lh hs
   have hi1:IntKind.i64.wrap ((i:Int)+1)=((i+1:Nat):Int):=by rw[IntKind.wrap_i64];omega
   clear hu hs hlt hcell hb
   by_cases he:s=t
   ·subst he
    rw[decide_eq_true rfl]at HS
    have HI:Hid ((0:Int)≤(i:Int)∧i<n):=Lh ⟨by omega,hin⟩
    go_wp2_with (go_at_call 80;(with_reducible refine(HS.out).mono ?_);rintro e w2 ⟨rfl,h2⟩;have G2:=Lh (below_step HB.out h2);clear h2)
    go_ret
    exact⟨⟨_,rfl,Or.inl ⟨HI.out.1,i,HI.out.2,HSN.out⟩⟩,G2.out⟩
   ·have HNE:=Lh he
    rw[decide_eq_false he]at HS
    clear he
    go_wp2_with (go_at_call 80;(with_reducible refine(HS.out).mono ?_);rintro e w2 ⟨rfl,h2⟩;have G2:=Lh (below_step HB.out h2);clear h2)
    go_roundw
    case rel=>exact⟨i+1,by omega,by go_num,G2.out,fun k y hk hy=>by
     rcases Nat.lt_or_ge k i with hx|hx
     ·exact HW.out k y hx hy
     ·obtain rfl:k=i:=by omega
      rw[HSN.out]at hy
      injection hy with hy
      rw[←hy];exact HNE.out⟩
    case measure=>simp[intOf];omega
  ·have en:n=i:=by omega
   subst en
   clear hb
   go_wp2
   go_ret
   exact⟨⟨_,rfl,Or.inr ⟨rfl,HW.out⟩⟩,HB.out⟩
theorem label_contains (t:ByteArray) (x1:ByteArray) (nb xb:Nat) (us:List (List Value)) (ns:List ByteArray) (v:Value) (w:World) (hv:InK 2 w v us) (hN:NamedK labelQ us ns) (hl:us.length≤1000000) (hn:VarL w nb [.func (.func 58) #[] #[]]) (hx:VarL w xb [.string t, .string x1]):
  Calls Tryd.prog 81 #[v, .func (.func 80) #[] #[.pointer (some ⟨nb,0,none⟩), .pointer (some ⟨xb,0,none⟩)]] w (GivesQ (∃k,k<us.length∧ns[k]?=some t) w):=by
 have HI:=Lh (label_index t x1 nb xb us ns v w hv hN hl hn hx)
 obtain⟨a1,c1,rfl,_⟩:=hv.size
 clear hv hN hn hx
 go_enter Tryd.func81,Tryd.ntmps81
 go_wp2_with (go_at_call 93;(with_reducible refine(HI.out).mono ?_);rintro e w2 ⟨⟨i,rfl,(⟨hi,hall⟩|⟨rfl,hall⟩)⟩,h2⟩<;>(have HA:=Lh hall;have G2:=Lh h2;clear hall h2))
 ·go_ret
  exact GivesQ.yes HA.out G2.out
 ·go_ret
  exact GivesQ.no (fun⟨k,h1,h2⟩=>HA.out k _ h1 h2 rfl) G2.out
theorem label_all (P:Nat→Prop) (us:List (List Value)) (ns:List ByteArray) (v:Value) (w:World) (hv:InK 2 w v us) (hN:NamedK labelQ us ns) (hl:us.length≤1000000)
  (HR0: ∀(i:Nat) (u:List Value),us[i]?=some u→∀W,Below w.heap.size w W→Calls Tryd.prog 57 #[(.agg u.toArray)] W (GivesQ (P i) W)):
  Calls Tryd.prog 56 #[v,(.func (.func 57) #[] #[]), .func (.func 58) #[] #[]] w (GivesQ (AllN P ns us.length) w):=by
 obtain⟨nb,W0,hnb,hW0,V0,b0,z0⟩:=boxL w [.func (.func 58) #[] #[]] 90
 obtain⟨a,cap,rfl,hc⟩:=hv.size
 obtain⟨n,hnn⟩: ∃n,us.length=n:=⟨_,rfl⟩
 rw[hnn]at hv hl hc ⊢
 have HV:=Lh hv
 have HNM:=Lh hN
 have HNB:=Lh V0
 have HL:=Lh hnn
 have HRR:=Lh HR0
 have HB0:=Lh b0
 clear hv hN hnn HR0 V0 b0 z0
 go_enter Tryd.func56,Tryd.ntmps56
 go_wp2
 go_loopw [12] (fun v12 wr=> ∃i:Nat,i≤n∧v12= .int .i64 (i:Int)∧Below W0.heap.size W0 wr∧AllN P ns i) (fun v12 _=>n-(intOf v12).toNat)
 case atStart=>exact⟨0,Nat.zero_le _,rfl,Mj _ _,fun j y hj=>by omega⟩
 case round=>
  obtain⟨i,hi,rfl,hb0,hW⟩:=hrel
  have hb:=below_step HB0.out hb0
  have HB:=Lh hb
  have HB0r:=Lh hb0
  have HW:=Lh hW
  clear hW
  by_cases hin:i<n
  ·obtain⟨s,r,hu,hs,hr⟩:=HNM.out.row (i:=i) (by rw[HL.out];exact hin)
   obtain⟨y1,rfl⟩:=hr
   have HTK:=Lh (HV.out.take i (by rw[HL.out];exact hi))
   have HNK:=Lh (HNM.out.take i)
   have HTL:Hid ((us.take i).length=i):=Lh (by rw[List.length_take,HL.out];omega)
   obtain⟨b,off,rfl,hlt,hcell⟩:=HV.out.at i _ hu
   have f0:wr.cell? ⟨b,off+i*2,none⟩=some (.string s):=(hb.cell (p:=⟨b,off+i*2,none⟩) hlt).trans (hcell 0 _ rfl)
   have f1:wr.cell? ⟨b,off+i*2+1,none⟩=some (.string y1):=(hb.cell (p:=⟨b,off+i*2+1,none⟩) hlt).trans (hcell 1 _ rfl)
   have HSN:=Lh hs
   have HRI:=Lh (HRR.out i _ hu)
   have hi1:IntKind.i64.wrap ((i:Int)+1)=((i+1:Nat):Int):=by rw[IntKind.wrap_i64];omega
   obtain⟨xb,W1,hxb,hW1,V1,b1,z1⟩:=boxL wr [.string ⟨#[]⟩, .string ⟨#[]⟩] 65
   have c0:=V1.c 0 rfl
   have q0:=V1.q 0 rfl
   have c1:=V1.c 1 rfl
   have q1:=V1.q 1 rfl
   obtain⟨W2,hW2⟩: ∃W2,putL xb 0 [.string s, .string y1] W1=W2:=⟨_,rfl⟩
   have HV2:Hid (VarL W2 xb [.string s, .string y1]):=Lh (by rw[←hW2];exact putL_var [.string s, .string y1] [] [.string ⟨#[]⟩, .string ⟨#[]⟩] W1 V1 rfl)
   have hb2:Below wr.heap.size wr W2:=by rw[←hW2];exact putL_below _ (by omega) _ _ b1
   have HB2:=Lh (below_step hb hb2)
   have HN2:=Lh (HNB.out.after (below_step hb0 hb2))
   have HBT:=Lh hb2
   have d0:=HV2.out.c 0 rfl
   have d1:=HV2.out.c 1 rfl
   have hi4:(i:Int)≤(cap:Int):=by omega
   have HIN:=Lh hin
   simp only[putL,Ly]at hW2
   clear hu hs hlt hcell hb hb0 b1 z1 V1 hb2
   have HRC:=Lh (HRI.out W2 HB2.out)
   by_cases hP:P i
   ·have HP:=Lh hP
    clear hP
    by_cases hk: ∃k,k<i∧ns[k]?=some s
    ·have HK:=Lh hk
     clear hk
     go_wp2_with (first
      |(go_at_call 57;(with_reducible refine(HRC.out).mono ?_);rintro e w3 ⟨q,rfl,hq,h3⟩;obtain rfl:q=true:=hq.mpr HP.out;have G3:=Lh h3;clear hq h3;have HC:=Lh (label_contains s y1 nb xb (us.take i) (ns.take i) _ w3 (HTK.out.below (below_step HB2.out G3.out)) HNK.out (by rw[HTL.out];omega) (HN2.out.after G3.out) (HV2.out.after G3.out));rw[HTL.out]at HC)
      |(go_at_call 81;(with_reducible refine(HC.out).mono ?_);rintro e w4 ⟨q,rfl,hq,h4⟩;obtain rfl:q=true:=hq.mpr (by obtain⟨k,h1,h2⟩:=HK.out;exact⟨k,h1,by rw[List.getElem?_take_of_lt h1];exact h2⟩);have G4:=Lh (below_step (below_step HB2.out G3.out) h4);clear hq h4))
     go_ret
     exact GivesQ.no (fun h=>by obtain⟨k,h1,h2⟩:=HK.out;exact(h i s HIN.out HSN.out).2 k s h1 h2 rfl) G4.out
    ·have HK:=Lh hk
     clear hk
     go_wp2_with (first
      |(go_at_call 57;(with_reducible refine(HRC.out).mono ?_);rintro e w3 ⟨q,rfl,hq,h3⟩;obtain rfl:q=true:=hq.mpr HP.out;have G3:=Lh h3;clear hq h3;have HC:=Lh (label_contains s y1 nb xb (us.take i) (ns.take i) _ w3 (HTK.out.below (below_step HB2.out G3.out)) HNK.out (by rw[HTL.out];omega) (HN2.out.after G3.out) (HV2.out.after G3.out));rw[HTL.out]at HC)
      |(go_at_call 81;(with_reducible refine(HC.out).mono ?_);rintro e w4 ⟨q,rfl,hq,h4⟩;obtain rfl:q=false:=(by cases q with|false=>rfl|true=>exact(HK.out (by obtain⟨k,h1,h2⟩:=hq.mp rfl;exact⟨k,h1,by rw[List.getElem?_take_of_lt h1]at h2;exact h2⟩)).elim);have G4:=Lh (below_step HBT.out (below_step G3.out h4));clear hq h4))
     go_roundw
     case rel=>exact⟨i+1,by omega,by go_num,below_step HB0r.out G4.out,fun j y hj hy=>by
      rcases Nat.lt_or_ge j i with hx|hx
      ·exact HW.out j y hx hy
      ·obtain rfl:j=i:=by omega
       rw[HSN.out]at hy
       injection hy with hy
       subst hy
       exact⟨HP.out,fun k z hk hz e=>HK.out ⟨k,hk,by rw[hz,e]⟩⟩⟩
     case measure=>simp[intOf];omega
   ·have HP:=Lh hP
    clear hP
    go_wp2_with (go_at_call 57;(with_reducible refine(HRC.out).mono ?_);rintro e w3 ⟨q,rfl,hq,h3⟩;obtain rfl:q=false:=(by cases q with|false=>rfl|true=>exact(HP.out (hq.mp rfl)).elim);have G3:=Lh (below_step HB2.out h3);clear hq h3)
    go_ret
    exact GivesQ.no (fun h=>HP.out (h i s HIN.out HSN.out).1) G3.out
  ·have en:n=i:=by omega
   subst en
   clear hb hb0
   go_wp2
   go_ret
   exact GivesQ.yes HW.out HB.out
end
end Go.Proofs.YtgmfkbamfnkbgaaDoor
