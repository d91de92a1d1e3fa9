/-
  CompileTurns: of any source of up to 5000 bytes that has no fault, with any two neighbours of unlike names turned, in its list, a goal's or a rule's, the config is the same.
-/
import Derived.Test.YtalcagmhdppdjaaGreatDoorPkCompileTurns27
import Derived.Test.YtalcagmhdppdjaaGreatDoorCards
import Derived.Test.YtalcagmhdppdjaaGreatDoorTie
import Derived.Below
import Derived.LaidMore
import Derived.Lay
import Derived.SevenTiedAt
import Derived.Stop.Joined
set_option maxRecDepth 100000
set_option maxHeartbeats 16000000
namespace Go.Proofs.YtalcagmhdppdjaaGreatDoor
open Lib renaming hid→Lh
open Nat renaming reduceAdd→Lx,zero_add→Ly,lt_of_lt_of_le→Kx
open StepsU renaming cons→Mh
open List renaming getD_eq_getElem?_getD→Mk,getElem?_eq_getElem→Kh,take_succ_cons→Kj,length_map→Ky,take_zero→Jh
open Or renaming inr→Mx,inl→My
section
open Go.RowKit
def parL (r:Except (Int×Int×Int) (List It)):List It:=match r with
 | .ok L=>L
 | .error _=> []
theorem parse_items (s:ByteArray) (w:World) (env:Env w):Calls Tryz.prog 15 #[.string s] w fun e w'=> ∃v c a b,e= .returned (.tuple #[v, .agg #[.int .i64 c, .int .i64 a, .int .i64 b]])∧ItemsIs 5 w' (fun b=>w.heap.size≤b∧b<w'.heap.size) v (parL (treR s))∧Below w.heap.size w w':=
 (parse_any s w env).mono (by
  rintro e w' ⟨hb,⟨c,a,b,h,rfl⟩|⟨L,v,h,rfl,hi⟩⟩
  ·rw[h];exact⟨_,c,a,b,rfl,ItemsIs.none' _ _ _ _ _,hb⟩
  ·rw[h];exact⟨v,0,0,0,rfl,hi,hb⟩)
theorem par_fine (s:ByteArray):cntL (parL (treR s))≤300∧depL (parL (treR s))≤4∧RightL (parL (treR s))∧LightL (parL (treR s)):=by
 cases h:treR s with
 |error x=>exact⟨by show cntL []≤300;simp[cntL],by show depL []≤4;simp[depL],⟨by show depL []≤4;simp[depL],by show cntL []≤300;simp[cntL],by show EachR [];simp[EachR]⟩,by show LightL [];simp[LightL]⟩
 |ok L=>obtain⟨h1,h2,h3,_,h5⟩:=treR_fine h;exact⟨h1,h2,h3,h5⟩
theorem kids_set {d:Nat} {w:World} {S S2:Nat→Prop} {base g n c:Nat} {ps:List ItV} {a:Nat} {p:ItV} {v2:Value} {K:List It} (hrow:RowK 47 6 w base (.slice (some ⟨g,0,none⟩) n c) ((ps.set a ⟨p.x.with K,p.wv,v2⟩).map ItV.cells)) (hp:ps[a]?=some p) (hw: ∀q∈ps,WordsIs w S q.wv q.x.words) (hk: ∀q∈ps,ItemsIs d w S q.kv q.x.kids) (h2:ItemsIs d w S2 v2 K) (hg: ∀b,S b∨S2 b→b≠g):ItemsIs (d+1) w (fun b=>(S b∨S2 b)∨b=g) (.slice (some ⟨g,0,none⟩) n c) ((ps.set a ⟨p.x.with K,p.wv,v2⟩).map ItV.x):=by
 have hpm:=List.mem_of_getElem? hp
 have hl:ListIs d w (fun b=>S b∨S2 b) base (.slice (some ⟨g,0,none⟩) n c) (ps.set a ⟨p.x.with K,p.wv,v2⟩):=by
  refine⟨hrow,fun q hq=>?_,fun q hq=>?_,fun b e h=>?_⟩
  ·rcases List.mem_or_eq_of_mem_set hq with hq|rfl
   ·exact(hw q hq).keep (fun _ h=>My h) (fun _ _=>rfl)
   ·have:(p.x.with K).words=p.x.words:=by obtain⟨⟨nm,ws,bk,kd,pa,pb⟩,wv,kv⟩:=p;rfl
    show WordsIs w _ p.wv (p.x.with K).words
    rw[this]
    exact(hw p hpm).keep (fun _ h=>My h) (fun _ _=>rfl)
  ·rcases List.mem_or_eq_of_mem_set hq with hq|rfl
   ·exact(hk q hq).keep (fun _ h=>My h) (fun _ _=>rfl)
   ·show ItemsIs d w _ v2 (p.x.with K).kids
    rw[with_kids]
    exact h2.keep (fun _ h=>Mx h) (fun _ _=>rfl)
  ·have e':some g=some b:=e
   injection e' with e'
   exact hg b h e'.symm
 exact hl.items (fun b h=>My h) (fun b e=>by have e':some g=some b:=e;injection e' with e';exact Mx e'.symm)
theorem cells_set (ps:List ItV) (a:Nat) (p:ItV) (hp:ps[a]?=some p) (K:List It) (v2:Value):(ps.set a ⟨p.x.with K,p.wv,v2⟩).map ItV.cells=(ps.map ItV.cells).set a (((ps.map ItV.cells).getD a []).set 3 v2):=by
 rw[List.map_set,Mk,List.getElem?_map,hp]
 obtain⟨⟨nm,ws,bk,kd,pa,pb⟩,wv,kv⟩:=p
 rfl
theorem mod_out (f:It→It) (i:Int) (L:List It) (h: ¬(0≤i∧i<L.length)):modL f i L=L:=by unfold modL;rw[if_neg h]
theorem mod_in (f:It→It) (a:Nat) (L:List It) (h:a<L.length):modL f (a:Int) L=L.set a (f (L.getD a default)):=by
 unfold modL
 rw[if_pos ⟨by omega,by omega⟩,Int.toNat_natCast]
theorem turn_is (L:List It) (i j k:Int) (ps:List ItV) (hx:ps.map ItV.x=swL L i) (a:Nat) (ha:i=(a:Int)) (p:ItV) (hp:ps[a]?=some p) (v2:Value):(ps.set a ⟨p.x.with (modL (turnR k) j (swL p.x.kids j)),p.wv,v2⟩).map ItV.x=turnL L i j k:=by
 subst ha
 obtain⟨hlt,_⟩:=List.getElem?_eq_some_iff.mp hp
 have hlen:(swL L (a:Int)).length=ps.length:=by rw[←hx,Ky]
 have hg:(swL L (a:Int)).getD a default=p.x:=by rw[←hx,Mk,List.getElem?_map,hp];rfl
 unfold turnL
 rw[mod_in _ a _ (by rw[hlen];exact hlt),hg,List.map_set,hx]
 rfl
structure JSw (S:Nat→Prop) (K:List It) (wo:World) (u:Nat→Value) (L:Nat→Bool) (W:World):Prop where
 bel:Below wo.heap.size wo W
 cal:L 16=true→∃ps,ListIs 2 W S wo.heap.size (u 16) ps∧ps.map ItV.x=K
theorem JSw.start (S:Nat→Prop) (K:List It) (wo:World) (u:Nat→Value):JSw S K wo u (fun _=>false) wo.drew:=⟨(Below.refl _ _).drew,fun h=>(by cases h)⟩
theorem JSw.light {S:Nat→Prop} {K:List It} {wo W:World} {u:Nat→Value} {L:Nat→Bool} (h:JSw S K wo u L W) {j:Nat} (hj:j≠16) (v:Value):JSw S K wo (upd u j v) (setL L j) W:=by
 have e:setL L j 16=L 16:=setL_ne L (Ne.symm hj)
 have e2:upd u j v 16=u 16:=by unfold upd;rw[if_neg (Ne.symm hj)]
 exact⟨h.bel,by rw[e,e2];exact h.cal⟩
theorem JSw.call {S:Nat→Prop} {K:List It} {wo W W':World} {u:Nat→Value} {L:Nat→Bool} (h:JSw S K wo u L W) {v:Value} {ps:List ItV} (hl:ListIs 2 W' S W.heap.size v ps) (hx:ps.map ItV.x=K) (hb:Below W.heap.size W W'):JSw S K wo (upd u 16 v) (setL L 16) W':=by
 have e2:upd u 16 v 16=v:=by unfold upd;rw[if_pos rfl]
 exact⟨below_step h.bel hb,fun _=>⟨ps,by rw[e2];exact⟨hl.row.weaken h.bel.size,hl.ws,hl.ks,hl.out⟩,hx⟩⟩
def TSw (l:List Value):Nat→Value→World→Prop:=fun k v _=>k≠16→v=l.getD k undef
theorem cmpturns_walk (s:ByteArray) (i j k:Int) (w:World) (env:Env w) (bi: -9223372036854775808≤i∧i≤9223372036854775807) (bj: -9223372036854775808≤j∧j≤9223372036854775807) (bk: -9223372036854775808≤k∧k≤9223372036854775807):Calls Tryz.prog 5 #[.string s, .int .i64 i, .int .i64 j, .int .i64 k] w fun e w'=>e= .returned (.bool true)∧Below w.heap.size w w':=by
 obtain⟨L,hL⟩: ∃L,parL (treR s)=L:=⟨_,rfl⟩
 have hpf:=par_fine s
 rw[hL]at hpf
 obtain⟨h1,h2,h3,h4⟩:=hpf
 obtain⟨c,F,hcf⟩:=comp_ex L
 have hsm:=comp_small hcf
 have HA:=Lh (cmp_awake w env)
 have HE:Hid (∀W,Below w.heap.size w W→Env W):=Lh (fun W hW=>env.step hW)
 have HP:Hid (∀W,Below w.heap.size w W→Calls Tryz.prog 15 #[.string s] W fun e w'=> ∃v c a b,e= .returned (.tuple #[v, .agg #[.int .i64 c, .int .i64 a, .int .i64 b]])∧ItemsIs 5 w' (fun b=>W.heap.size≤b∧b<w'.heap.size) v L∧Below W.heap.size W w'):=Lh (fun W hW=>by rw[←hL];exact parse_items s W (HE.out W hW))
 have HZERO:Hid (F≠ []→c.goals.length=0):=Lh (fun hF=>by
  rcases hcf with⟨_,rfl,_⟩|⟨_,_,rfl,_⟩|⟨_,_,_,rfl⟩
  ·rfl
  ·rfl
  ·exact absurd rfl hF)
 have HTURN:Hid (F= []→CompS (turnL L i j k) c F∧LightL (turnL L i j k)∧cntL (turnL L i j k)≤1000000∧depL (turnL L i j k)≤900000):=Lh (fun hF=>by
  rcases hcf with⟨hn,_,_⟩|⟨_,hn,_,hq⟩|⟨_,hq,hc,_⟩
  ·exact absurd h3 hn
  ·rw[hF]at hq;exact absurd hq.symm hn
  ·obtain⟨t1,t2⟩:=turn_conf hq i j k
   have t3:=turn_right h3 i j k
   refine⟨Mx (Mx ⟨t3,t1,by rw[hc,t2],hF⟩),turn_light i j k h4,?_,?_⟩
   ·have:=t3.many;omega
   ·have:=t3.deep;omega)
 have HSM:Hid (∀W ba bb cv dv,ConfV W ba cv c→ConfV W bb dv c→Calls Tryz.prog 10 #[cv,dv] W fun e w'=>e= .returned (.bool true)∧Below W.heap.size W w'):=Lh (fun W ba bb cv dv h1 h2=>same_yes c ba bb cv dv W h1 h2 hsm.1)
 have HSF:Hid (∀W ba bb fv gv,FltsV W ba fv F→FltsV W bb gv F→Calls Tryz.prog 11 #[fv,gv] W fun e w'=>e= .returned (.bool true)∧Below W.heap.size W w'):=Lh (fun W ba bb fv gv h1 h2=>sff_yes F ba bb fv gv W h1 h2 hsm.2)
 obtain⟨gn,hgn⟩: ∃y,c.goals.length=y:=⟨_,rfl⟩
 obtain⟨r0,hr0⟩: ∃y,c.room=y:=⟨_,rfl⟩
 obtain⟨r1,hr1⟩: ∃y,c.reserve=y:=⟨_,rfl⟩
 obtain⟨r2,hr2⟩: ∃y,c.first=y:=⟨_,rfl⟩
 obtain⟨r3,hr3⟩: ∃y,c.cap=y:=⟨_,rfl⟩
 obtain⟨r4,hr4⟩: ∃y,c.again=y:=⟨_,rfl⟩
 obtain⟨fn,hfn⟩: ∃y,F.length=y:=⟨_,rfl⟩
 have HCM:Hid (∀W S v,Below w.heap.size w W→ItemsIs 5 W S v L→(∀b,S b→b<W.heap.size)→Calls Tryz.prog 13 #[v] W fun e w'=> ∃ga gc fa fc,e= .returned (.tuple #[.agg #[.slice ga gn gc, .int .i64 r0, .int .i64 r1, .int .i64 r2, .int .i64 r3, .int .i64 r4], .slice fa fn fc])∧ConfV w' W.heap.size (.agg #[.slice ga gn gc, .int .i64 r0, .int .i64 r1, .int .i64 r2, .int .i64 r3, .int .i64 r4]) c∧FltsV w' W.heap.size (.slice fa fn fc) F∧Below W.heap.size W w'):=Lh (fun W S v hW hi hS=>by have h:=comp_cf hcf 5 S v W (HE.out W hW) hi hS (by omega) (by omega) h4;unfold GivesCf at h;rw[hgn,hr0,hr1,hr2,hr3,hr4,hfn]at h;exact h)
 have HCT:Hid (F= []→∀W S v,Below w.heap.size w W→ItemsIs 5 W S v (turnL L i j k)→(∀b,S b→b<W.heap.size)→Calls Tryz.prog 13 #[v] W fun e w'=> ∃ga gc fa fc,e= .returned (.tuple #[.agg #[.slice ga gn gc, .int .i64 r0, .int .i64 r1, .int .i64 r2, .int .i64 r3, .int .i64 r4], .slice fa fn fc])∧ConfV w' W.heap.size (.agg #[.slice ga gn gc, .int .i64 r0, .int .i64 r1, .int .i64 r2, .int .i64 r3, .int .i64 r4]) c∧FltsV w' W.heap.size (.slice fa fn fc) F∧Below W.heap.size W w'):=Lh (fun hF W S v hW hi hS=>by obtain⟨t1,t2,t3,t4⟩:=HTURN.out hF;have h:=comp_cf t1 5 S v W (HE.out W hW) hi hS t3 t4 t2;unfold GivesCf at h;rw[hgn,hr0,hr1,hr2,hr3,hr4,hfn]at h;exact h)
 have HZG:Hid (0<fn→gn=0):=Lh (fun h=>by rw[←hgn];exact HZERO.out (fun e=>by rw[e]at hfn;rw[←hfn]at h;exact absurd h (by decide)))
 have HFZ:Hid (fn=0→F= []):=Lh (fun h=>List.eq_nil_of_length_eq_zero (hfn.trans h))
 obtain⟨ln,hln⟩: ∃y,L.length=y:=⟨_,rfl⟩
 have HLEN:=Lh hln
 have HLL:Hid (ln≤300):=Lh (by have:=len_cnt L;omega)
 have HSWP:Hid (∀W S v,ItemsIs 5 W S v L→(∀b,S b→b<W.heap.size)→Calls Tryz.prog 16 #[v, .int .i64 i] W (GivesSw 4 S (swL L i) W)):=Lh (fun W S v hi hS=>swapped_any 4 S L v i W hi hS (by have:=len_cnt L;omega) bi.1 bi.2)
 have HCNT:=Lh h1
 have HBJ:=Lh (And.intro bj bk)
 have HBI:=Lh bi
 clear hcf hsm env hgn hr0 hr1 hr2 hr3 hr4 hfn hL h1 h2 h3 h4 hln bi bj bk
 by_cases h5:5000<s.size
 ·have h5':(5000:Int)<(s.size:Int):=by omega
  go_enter Tryz.func5,Tryz.ntmps5
  go_wp2_with (go_at_call 7;(with_reducible refine(HA.out).mono ?_);rintro e w1 ⟨rfl,g1⟩;have G1:=Lh g1;clear g1)
  go_ret
  exact⟨rfl,G1.out⟩
 have h5': ¬(5000:Int)<(s.size:Int):=by omega
 by_cases hf0:0<fn
 ·have hf1:(fn:Int)>0:=by omega
  obtain rfl:gn=0:=HZG.out hf0
  go_enter Tryz.func5,Tryz.ntmps5
  go_wp2_with (first
   |(go_at_call 7;(with_reducible refine(HA.out).mono ?_);rintro e w1 ⟨rfl,g1⟩;have G1:=Lh g1;clear g1)
   |(go_at_call 15;(with_reducible refine(HP.out _ G1.out).mono ?_);rintro e w2 ⟨v,c0,c1,c2,rfl,hit,g2⟩;obtain⟨va,vc,hvv⟩:=hit.size;rw[HLEN.out]at hvv;subst hvv;obtain⟨fb,Wa,w3,hfb,hWa,hw3,Va,Vb,h23,hz3⟩:=freshL w2 [.int .i64 0, .int .i64 0, .int .i64 0] [.int .i64 c0, .int .i64 c1, .int .i64 c2] 41 rfl;simp only[putL,Ly,Lx]at hw3;have z0:=Va.c 0 rfl;have z1:=Va.c 1 rfl;have z2:=Va.c 2 rfl;have zq0:=Va.q 0 rfl;have zq1:=Va.q 1 rfl;have zq2:=Va.q 2 rfl;have G3:=Lh (below_step (below_step G1.out g2) h23);have HI3:=Lh (hit.belowS (fun b hb=>hb.2) h23);have HIS3:Hid (∀b,(w1.heap.size≤b∧b<w2.heap.size)→b<w3.heap.size):=Lh (fun b hb=>Kx hb.2 h23.size);clear hit g2 Va Vb h23 hz3)
   |(go_at_call 13;(with_reducible refine(HCM.out _ _ _ G3.out HI3.out HIS3.out).mono ?_);rintro e w5 ⟨ga1,gc1,fa1,fc1,rfl,hcv1,hfl1,g5⟩;obtain⟨p1,Wa1,Wb1,hp1,hWa1,hWb1,Va1,Vb1,hb1,hz1⟩:=freshL w5 [.slice none 0 0, .int .i64 0, .int .i64 0, .int .i64 0, .int .i64 0, .int .i64 0] [.slice ga1 0 gc1, .int .i64 r0, .int .i64 r1, .int .i64 r2, .int .i64 r3, .int .i64 r4] 27 rfl;simp only[putL,Ly,Lx]at hWb1;have G5:=Lh (below_step (below_step G3.out g5) hb1);have HC1:=Lh (hcv1.after hb1);have HF1:=Lh (hfl1.below hb1);have HV1:=Lh Vb1;have z10:=Va1.c 0 rfl;have zq10:=Va1.q 0 rfl;have z11:=Va1.c 1 rfl;have zq11:=Va1.q 1 rfl;have z12:=Va1.c 2 rfl;have zq12:=Va1.q 2 rfl;have z13:=Va1.c 3 rfl;have zq13:=Va1.q 3 rfl;have z14:=Va1.c 4 rfl;have zq14:=Va1.q 4 rfl;have z15:=Va1.c 5 rfl;have zq15:=Va1.q 5 rfl;have HSZ5:=Lh (below_step g5 hb1).size;have HI5:=Lh (HI3.out.belowS HIS3.out (below_step g5 hb1));have x0:=HV1.out.c 0 rfl;clear hcv1 hfl1 g5 Va1 Vb1 hb1 hz1))
  go_ret
  exact⟨rfl,G5.out⟩
 obtain rfl:fn=0:=by omega
 have HF0:Hid (F= []):=Lh (HFZ.out rfl)
 have HCT2:=Lh (HCT.out HF0.out)
 clear HCT
 go_enter Tryz.func5,Tryz.ntmps5
 go_upto_region 10 with(first
  |(go_at_call 7;(with_reducible refine(HA.out).mono ?_);rintro e w1 ⟨rfl,g1⟩;have G1:=Lh g1;clear g1)
  |(go_at_call 15;(with_reducible refine(HP.out _ G1.out).mono ?_);rintro e w2 ⟨v,c0,c1,c2,rfl,hit,g2⟩;obtain⟨va,vc,hvv⟩:=hit.size;rw[HLEN.out]at hvv;subst hvv;obtain⟨fb,Wa,w3,hfb,hWa,hw3,Va,Vb,h23,hz3⟩:=freshL w2 [.int .i64 0, .int .i64 0, .int .i64 0] [.int .i64 c0, .int .i64 c1, .int .i64 c2] 41 rfl;simp only[putL,Ly,Lx]at hw3;have z0:=Va.c 0 rfl;have z1:=Va.c 1 rfl;have z2:=Va.c 2 rfl;have zq0:=Va.q 0 rfl;have zq1:=Va.q 1 rfl;have zq2:=Va.q 2 rfl;have G3:=Lh (below_step (below_step G1.out g2) h23);have HI3:=Lh (hit.belowS (fun b hb=>hb.2) h23);have HIS3:Hid (∀b,(w1.heap.size≤b∧b<w2.heap.size)→b<w3.heap.size):=Lh (fun b hb=>Kx hb.2 h23.size);clear hit g2 Va Vb h23 hz3)
  |(go_at_call 13;(with_reducible refine(HCM.out _ _ _ G3.out HI3.out HIS3.out).mono ?_);rintro e w5 ⟨ga1,gc1,fa1,fc1,rfl,hcv1,hfl1,g5⟩;obtain⟨p1,Wa1,Wb1,hp1,hWa1,hWb1,Va1,Vb1,hb1,hz1⟩:=freshL w5 [.slice none 0 0, .int .i64 0, .int .i64 0, .int .i64 0, .int .i64 0, .int .i64 0] [.slice ga1 gn gc1, .int .i64 r0, .int .i64 r1, .int .i64 r2, .int .i64 r3, .int .i64 r4] 27 rfl;simp only[putL,Ly,Lx]at hWb1;have G5:=Lh (below_step (below_step G3.out g5) hb1);have HC1:=Lh (hcv1.after hb1);have HF1:=Lh (hfl1.below hb1);have HV1:=Lh Vb1;have z10:=Va1.c 0 rfl;have zq10:=Va1.q 0 rfl;have z11:=Va1.c 1 rfl;have zq11:=Va1.q 1 rfl;have z12:=Va1.c 2 rfl;have zq12:=Va1.q 2 rfl;have z13:=Va1.c 3 rfl;have zq13:=Va1.q 3 rfl;have z14:=Va1.c 4 rfl;have zq14:=Va1.q 4 rfl;have z15:=Va1.c 5 rfl;have zq15:=Va1.q 5 rfl;have HSZ5:=Lh (below_step g5 hb1).size;have HI5:=Lh (HI3.out.belowS HIS3.out (below_step g5 hb1));clear hcv1 hfl1 g5 Va1 Vb1 hb1 hz1)
  |(go_at_call 16;(with_reducible refine(HSWP.out _ _ _ HI5.out (fun b hb=>Kx (HIS3.out b hb) HSZ5.out)).mono ?_);rintro e w6 ⟨v6,ps,rfl,hl6,hx6,g6⟩;obtain⟨a6,c6,hv6⟩:=hl6.row.size;have hn6:(ps.map ItV.cells).length=ln:=(by rw[Ky,←Ky (f:=ItV.x),hx6,swL_len];exact HLEN.out);rw[hn6]at hv6;subst hv6;have HL6:=Lh hl6;have HG6o:=Lh g6;have HX6:=Lh hx6;have G6:=Lh (below_step G5.out g6);have HV6:=Lh (HV1.out.after g6);have HC6:=Lh (HC1.out.after g6);have HPN:Hid (ps.length=ln):=Lh (by rw[Ky]at hn6;exact hn6);have HSZ6:=Lh g6.size;have HS6:Hid (∀b,(w1.heap.size≤b∧b<w2.heap.size)→b<Wb1.heap.size):=Lh (fun b hb=>Kx (HIS3.out b hb) HSZ5.out);clear hl6 hx6 g6 hn6))
 clear hfb hWa hw3 z0 z1 z2 zq0 zq1 zq2 hp1 hWa1 hWb1 z10 z11 z12 z13 z14 z15 zq10 zq11 zq12 zq13 zq14 zq15
 by_cases hi0:0≤i
 ·obtain⟨a,rfl⟩: ∃a:Nat,i=(a:Int):=⟨i.toNat,by omega⟩
  by_cases hin:a<ln
  ·have hin':(a:Int)<(ln:Int):=by omega
   have hap:a<ps.length:=by rw[HPN.out];exact hin
   obtain⟨p,hp⟩: ∃p,ps[a]?=some p:=⟨_,Kh hap⟩
   have hpm:=List.mem_of_getElem? hp
   obtain⟨g,cg,hgv,hg1,hg2,_⟩:=HL6.out.row.form (by rw[Ky];omega)
   rw[Ky,HPN.out]at hgv
   simp only[Value.slice.injEq]at hgv
   obtain⟨rfl,_,rfl⟩:=hgv
   have hpc:(ps.map ItV.cells).getD a []=p.cells:=by rw[Mk,List.getElem?_map,hp];rfl
   have f30:=HL6.out.row.at a 3 (by rw[Ky];exact hap) (by decide)
   rw[hpc]at f30
   have f3:w6.cell? ⟨g,a*6+3,none⟩=some p.kv:=f30
   clear f30
   have q3:=HL6.out.row.free (a*6+3)
   obtain⟨ka,kc,hkv⟩:=(HL6.out.ks p hpm).size
   obtain⟨kl,hkl⟩: ∃y,p.x.kids.length=y:=⟨_,rfl⟩
   rw[hkl]at hkv
   rw[hkv]at f3
   have HKS:Hid (Calls Tryz.prog 16 #[.slice ka kl kc, .int .i64 j] w6 (GivesSw 3 (fun b=>w1.heap.size≤b∧b<w2.heap.size) (swL p.x.kids j) w6)):=Lh (by
    rw[←hkv]
    exact swapped_any 3 _ p.x.kids p.kv j w6 (HL6.out.ks p hpm) (fun b hb=>Kx (HS6.out b hb) HSZ6.out) (by
     have h1:p.x∈swL L (a:Int):=by rw[←HX6.out];exact List.mem_map.mpr ⟨p,hpm,rfl⟩
     have h2:=cnt_kid p.x ((swL_mem L _ p.x).mp h1)
     have h3:=len_cnt p.x.kids
     have h4:=HCNT.out
     omega) HBJ.out.1.1 HBJ.out.1.2)
   have HKL:=Lh hkl
   have HP:=Lh hp
   have HGL:Hid (Wb1.heap.size≤g∧g<w6.heap.size):=Lh ⟨hg1,hg2⟩
   have HFQ:=Lh (And.intro f3 q3)
   have HKVE:=Lh hkv
   have hcp:(0:Int)≤(a:Int):=by omega
   clear hap hpm hpc hkl hkv hp hg1 hg2 q3
   go_upto_region 12 with(go_at_call 16;(with_reducible refine(HKS.out).mono ?_);rintro e w7 ⟨v7,ps2,rfl,hl7,hx7,g7⟩;obtain⟨a7,c7,hv7⟩:=hl7.row.size;have hn7:(ps2.map ItV.cells).length=kl:=(by rw[Ky,←Ky (f:=ItV.x),hx7,swL_len];exact HKL.out);rw[hn7]at hv7;subst hv7;have HL7:=Lh hl7;have HX7:=Lh hx7;have HG7:=Lh g7;have HPN2:Hid (ps2.length=kl):=Lh (by rw[Ky]at hn7;exact hn7);have t3:=CK.of g7 _ _ HFQ.out.1;have tq:=(World.frozen?_of_block (a:=⟨g,a*6+3,none⟩) (g7.block g HGL.out.2)).trans HFQ.out.2;clear hl7 hx7 g7 hn7)
   obtain⟨W8,hW8⟩: ∃W8,w7.setCell ⟨g,a*6+3,none⟩ (.slice a7 kl c7)=W8:=⟨_,rfl⟩
   rw[hW8]
   have hk8: ∀b,b≠g→W8.heap[b]?=w7.heap[b]?:=fun b hb=>by rw[←hW8];exact lset_else _ _ _ _ _ hb
   have hz8:W8.heap.size=w7.heap.size:=by rw[←hW8];simp
   have h6z:=HSZ6.out
   have h7z:=HG7.out.size
   have hgl:=HGL.out
   have r6:=HL6.out.row.below HG7.out
   have r8:=r6.set a 3 (.slice a7 kl c7) (by rw[Ky,HPN.out];exact hin) (by decide) rfl
   rw[hW8]at r8
   have HR8:=Lh r8
   have HB8:Hid (Below Wb1.heap.size Wb1 W8):=Lh (by rw[←hW8];exact((HG6o.out).trans (HG7.out.mono h6z)).setCell (p:=⟨g,a*6+3,none⟩) hgl.1 _)
   have G8:=Lh (below_step G5.out HB8.out)
   have HC8:=Lh (HC1.out.after HB8.out)
   have HV8:=Lh (HV1.out.after HB8.out)
   have HL8:Hid (ListIs 3 W8 (fun b=>w1.heap.size≤b∧b<w2.heap.size) w6.heap.size (.slice a7 kl c7) ps2):=Lh (HL7.out.keep (fun _ h=>h) (fun b hb=>hk8 b (fun e=>by have:=HS6.out b hb;omega)) (fun b hb=>hk8 b (fun e=>by have:=(HL7.out.row.lt hb).1;omega)) HL7.out.out)
   have HPW:Hid (∀q∈ps,WordsIs W8 (fun b=>w1.heap.size≤b∧b<w2.heap.size) q.wv q.x.words∧ItemsIs 4 W8 (fun b=>w1.heap.size≤b∧b<w2.heap.size) q.kv q.x.kids):=Lh (fun q hq=>⟨(HL6.out.ws q hq).keep (fun _ h=>h) (fun b hb=>(hk8 b (fun e=>by have:=HS6.out b hb;omega)).trans (HG7.out.block b (by have:=HS6.out b hb;omega))),(HL6.out.ks q hq).keep (fun _ h=>h) (fun b hb=>(hk8 b (fun e=>by have:=HS6.out b hb;omega)).trans (HG7.out.block b (by have:=HS6.out b hb;omega)))⟩)
   have HZ8:Hid (w6.heap.size≤W8.heap.size):=Lh (by omega)
   have u3:W8.cell? ⟨g,a*6+3,none⟩=some (.slice a7 kl c7):=by rw[←hW8];exact World.cell?_setCell_same' _ _ _ (by rw[t3];rfl)
   have HU3:=Lh u3
   clear hk8 hz8 h6z h7z hgl r6 r8 f3 t3 tq hW8
   by_cases hj0:0≤j
   ·obtain⟨b,rfl⟩: ∃b:Nat,j=(b:Int):=⟨j.toNat,by omega⟩
    by_cases hjn:b<kl
    ·have hjn':(b:Int)<(kl:Int):=by omega
     have hbp:b<ps2.length:=by rw[HPN2.out];exact hjn
     obtain⟨q,hq⟩: ∃q,ps2[b]?=some q:=⟨_,Kh hbp⟩
     have hqm:=List.mem_of_getElem? hq
     obtain⟨g2,cg2,hgv2,hg3,hg4,_⟩:=HL8.out.row.form (by rw[Ky];omega)
     rw[Ky,HPN2.out]at hgv2
     simp only[Value.slice.injEq]at hgv2
     obtain⟨rfl,_,e7⟩:=hgv2
     clear e7
     have hqc:(ps2.map ItV.cells).getD b []=q.cells:=by rw[Mk,List.getElem?_map,hq];rfl
     have k30:=HL8.out.row.at b 3 (by rw[Ky];exact hbp) (by decide)
     rw[hqc]at k30
     have k3:W8.cell? ⟨g2,b*6+3,none⟩=some q.kv:=k30
     clear k30
     have kq:=HL8.out.row.free (b*6+3)
     obtain⟨ta,tc,htv⟩:=(HL8.out.ks q hqm).size
     obtain⟨tl,htl⟩: ∃y,q.x.kids.length=y:=⟨_,rfl⟩
     rw[htl]at htv
     have HSW3:Hid (∀W,Below W8.heap.size W8 W→Calls Tryz.prog 16 #[.slice ta tl tc, .int .i64 k] W (GivesSw 2 (fun b=>w1.heap.size≤b∧b<w2.heap.size) (swL q.x.kids k) W)):=Lh (fun W hW=>by
      rw[←htv]
      exact swapped_any 2 _ q.x.kids q.kv k W ((HL8.out.ks q hqm).belowS (fun b hb=>by have h1:=HS6.out b hb;have h2:=HZ8.out;have h3:=HSZ6.out;omega) hW) (fun b hb=>by have h1:=HS6.out b hb;have h2:=HZ8.out;have h3:=HSZ6.out;have h4:=hW.size;omega) (by
       have h1:p.x∈swL L (a:Int):=by rw[←HX6.out];exact List.mem_map.mpr ⟨p,List.mem_of_getElem? HP.out,rfl⟩
       have h2:=cnt_kid p.x ((swL_mem L _ p.x).mp h1)
       have h3:q.x∈swL p.x.kids (b:Int):=by rw[←HX7.out];exact List.mem_map.mpr ⟨q,hqm,rfl⟩
       have h4:=cnt_kid q.x ((swL_mem _ _ q.x).mp h3)
       have h5:=len_cnt q.x.kids
       have h6:=HCNT.out
       omega) HBJ.out.2.1 HBJ.out.2.2)
     have HQ:=Lh hq
     have HT3:Hid (W8.cell? ⟨g2,b*6+3,none⟩=some (.slice ta tl tc)):=Lh (by rw[←htv];exact k3)
     have HKQ:=Lh kq
     have HG2:Hid (w6.heap.size≤g2∧g2<W8.heap.size):=Lh ⟨hg3,hg4⟩
     have HIA:Hid ((a:Int)<(ln:Int)):=Lh hin'
     have HJB:Hid ((b:Int)<(kl:Int)):=Lh hjn'
     have HIA0:Hid (0≤(a:Int)):=Lh (by omega)
     have HJB0:Hid (0≤(b:Int)):=Lh (by omega)
     have HQM:=Lh hqm
     clear hbp hq hqm hqc k3 kq htv htl hg3 hg4
     go_wp2
     refine wp_region_mixu 19 (TSw [.slice (some ⟨g,0,none⟩) ln c6, .int .i64 (a:Int), .pointer (some ⟨g,a*6,none⟩), .pointer (some ⟨g,a*6+3,none⟩), .slice (some ⟨g2,0,none⟩) kl c7, .int .i64 (b:Int), .slice (some ⟨g,0,none⟩) ln c6, .int .i64 (a:Int), .pointer (some ⟨g,a*6,none⟩), .pointer (some ⟨g,a*6+3,none⟩), .slice (some ⟨g2,0,none⟩) kl c7, .int .i64 (b:Int), .pointer (some ⟨g2,b*6,none⟩), .pointer (some ⟨g2,b*6+3,none⟩), .slice ta tl tc, .int .i64 k,undef, .pointer (some ⟨g2,b*6,none⟩), .pointer (some ⟨g2,b*6+3,none⟩)]) (JSw (fun b=>w1.heap.size≤b∧b<w2.heap.size) (swL q.x.kids k) W8) (by kernel_rfl) (by kernel_rfl) (fun u=>JSw.start _ _ W8 u) ?_ ?_
     ·simp only[Kj,Jh]
      refine(Mh ?_ (Mh ?_ (Mh ?_ (Mh ?_ (Mh ?_ (Mh ?_ (Mh ?_ (Mh ?_ (Mh ?_ (Mh ?_ (Mh ?_ (Mh ?_ (Mh ?_ (Mh ?_ (Mh ?_ (Mh ?_ (Mh ?_ (Mh ?_ (Mh ?_ StepsU.nil)))))))))))))))))))
      all_goals(intro u0 W9 J9 hL hJ hd;simp only[putAll,Act.put,List.setIfInBounds_toArray,List.set_cons_succ,List.set_cons_zero,Ly,Lx])
      ·have hj1:=hJ.light (j:=0) (by decide)
       go_wp2
       first|exact hj1 _|exact fun _=>rfl|exact⟨fun _=>rfl,hj1 _,k4⟩|exact⟨_,rfl,fun _=>rfl,hj1 _,k4⟩|exact⟨fun _=>rfl,hj1 _⟩|exact⟨_,rfl,fun _=>rfl,hj1 _⟩
      ·have hj1:=hJ.light (j:=1) (by decide)
       go_wp2
       first|exact hj1 _|exact fun _=>rfl|exact⟨fun _=>rfl,hj1 _,k4⟩|exact⟨_,rfl,fun _=>rfl,hj1 _,k4⟩|exact⟨fun _=>rfl,hj1 _⟩|exact⟨_,rfl,fun _=>rfl,hj1 _⟩
      ·have e0:u0 0= .slice (some ⟨g,0,none⟩) ln c6:=(hd.1 rfl (by decide)).2 (by decide)
       have e1:u0 1= .int .i64 (a:Int):=(hd.2.1 rfl (by decide)).2 (by decide)
       have hin2:=HIA.out
       have hin3:=HIA0.out
       rw[e0,e1]
       have hj1:=hJ.light (j:=2) (by decide)
       go_wp2
       first|exact hj1 _|exact fun _=>rfl|exact⟨fun _=>rfl,hj1 _,k4⟩|exact⟨_,rfl,fun _=>rfl,hj1 _,k4⟩|exact⟨fun _=>rfl,hj1 _⟩|exact⟨_,rfl,fun _=>rfl,hj1 _⟩
      ·have e2:u0 2= .pointer (some ⟨g,a*6,none⟩):=(hd.1 rfl (by decide)).2 (by decide)
       rw[e2]
       have hj1:=hJ.light (j:=3) (by decide)
       go_wp2
       first|exact hj1 _|exact fun _=>rfl|exact⟨fun _=>rfl,hj1 _,k4⟩|exact⟨_,rfl,fun _=>rfl,hj1 _,k4⟩|exact⟨fun _=>rfl,hj1 _⟩|exact⟨_,rfl,fun _=>rfl,hj1 _⟩
      ·have e3:u0 3= .pointer (some ⟨g,a*6+3,none⟩):=(hd.1 rfl (by decide)).2 (by decide)
       have c3:=CK.of hJ.bel _ _ HU3.out
       rw[e3]
       have hj1:=hJ.light (j:=4) (by decide)
       go_wp2
       first|exact hj1 _|exact fun _=>rfl|exact⟨fun _=>rfl,hj1 _,k4⟩|exact⟨_,rfl,fun _=>rfl,hj1 _,k4⟩|exact⟨fun _=>rfl,hj1 _⟩|exact⟨_,rfl,fun _=>rfl,hj1 _⟩
      ·have hj1:=hJ.light (j:=5) (by decide)
       go_wp2
       first|exact hj1 _|exact fun _=>rfl|exact⟨fun _=>rfl,hj1 _,k4⟩|exact⟨_,rfl,fun _=>rfl,hj1 _,k4⟩|exact⟨fun _=>rfl,hj1 _⟩|exact⟨_,rfl,fun _=>rfl,hj1 _⟩
      ·have hj1:=hJ.light (j:=6) (by decide)
       go_wp2
       first|exact hj1 _|exact fun _=>rfl|exact⟨fun _=>rfl,hj1 _,k4⟩|exact⟨_,rfl,fun _=>rfl,hj1 _,k4⟩|exact⟨fun _=>rfl,hj1 _⟩|exact⟨_,rfl,fun _=>rfl,hj1 _⟩
      ·have hj1:=hJ.light (j:=7) (by decide)
       go_wp2
       first|exact hj1 _|exact fun _=>rfl|exact⟨fun _=>rfl,hj1 _,k4⟩|exact⟨_,rfl,fun _=>rfl,hj1 _,k4⟩|exact⟨fun _=>rfl,hj1 _⟩|exact⟨_,rfl,fun _=>rfl,hj1 _⟩
      ·have e6:u0 6= .slice (some ⟨g,0,none⟩) ln c6:=(hd.1 rfl (by decide)).2 (by decide)
       have e7:u0 7= .int .i64 (a:Int):=(hd.2.1 rfl (by decide)).2 (by decide)
       have hin2:=HIA.out
       have hin3:=HIA0.out
       rw[e6,e7]
       have hj1:=hJ.light (j:=8) (by decide)
       go_wp2
       first|exact hj1 _|exact fun _=>rfl|exact⟨fun _=>rfl,hj1 _,k4⟩|exact⟨_,rfl,fun _=>rfl,hj1 _,k4⟩|exact⟨fun _=>rfl,hj1 _⟩|exact⟨_,rfl,fun _=>rfl,hj1 _⟩
      ·have e8:u0 8= .pointer (some ⟨g,a*6,none⟩):=(hd.1 rfl (by decide)).2 (by decide)
       rw[e8]
       have hj1:=hJ.light (j:=9) (by decide)
       go_wp2
       first|exact hj1 _|exact fun _=>rfl|exact⟨fun _=>rfl,hj1 _,k4⟩|exact⟨_,rfl,fun _=>rfl,hj1 _,k4⟩|exact⟨fun _=>rfl,hj1 _⟩|exact⟨_,rfl,fun _=>rfl,hj1 _⟩
      ·have e9:u0 9= .pointer (some ⟨g,a*6+3,none⟩):=(hd.1 rfl (by decide)).2 (by decide)
       have c3:=CK.of hJ.bel _ _ HU3.out
       rw[e9]
       have hj1:=hJ.light (j:=10) (by decide)
       go_wp2
       first|exact hj1 _|exact fun _=>rfl|exact⟨fun _=>rfl,hj1 _,k4⟩|exact⟨_,rfl,fun _=>rfl,hj1 _,k4⟩|exact⟨fun _=>rfl,hj1 _⟩|exact⟨_,rfl,fun _=>rfl,hj1 _⟩
      ·have hj1:=hJ.light (j:=11) (by decide)
       go_wp2
       first|exact hj1 _|exact fun _=>rfl|exact⟨fun _=>rfl,hj1 _,k4⟩|exact⟨_,rfl,fun _=>rfl,hj1 _,k4⟩|exact⟨fun _=>rfl,hj1 _⟩|exact⟨_,rfl,fun _=>rfl,hj1 _⟩
      ·have e10:u0 10= .slice (some ⟨g2,0,none⟩) kl c7:=(hd.1 rfl (by decide)).2 (by decide)
       have e11:u0 11= .int .i64 (b:Int):=(hd.2.1 rfl (by decide)).2 (by decide)
       have hjn2:=HJB.out
       have hjn3:=HJB0.out
       rw[e10,e11]
       have hj1:=hJ.light (j:=12) (by decide)
       go_wp2
       first|exact hj1 _|exact fun _=>rfl|exact⟨fun _=>rfl,hj1 _,k4⟩|exact⟨_,rfl,fun _=>rfl,hj1 _,k4⟩|exact⟨fun _=>rfl,hj1 _⟩|exact⟨_,rfl,fun _=>rfl,hj1 _⟩
      ·have e12:u0 12= .pointer (some ⟨g2,b*6,none⟩):=(hd.1 rfl (by decide)).2 (by decide)
       rw[e12]
       have hj1:=hJ.light (j:=13) (by decide)
       go_wp2
       first|exact hj1 _|exact fun _=>rfl|exact⟨fun _=>rfl,hj1 _,k4⟩|exact⟨_,rfl,fun _=>rfl,hj1 _,k4⟩|exact⟨fun _=>rfl,hj1 _⟩|exact⟨_,rfl,fun _=>rfl,hj1 _⟩
      ·have e13:u0 13= .pointer (some ⟨g2,b*6+3,none⟩):=(hd.1 rfl (by decide)).2 (by decide)
       have c3:=CK.of hJ.bel _ _ HT3.out
       rw[e13]
       have hj1:=hJ.light (j:=14) (by decide)
       go_wp2
       first|exact hj1 _|exact fun _=>rfl|exact⟨fun _=>rfl,hj1 _,k4⟩|exact⟨_,rfl,fun _=>rfl,hj1 _,k4⟩|exact⟨fun _=>rfl,hj1 _⟩|exact⟨_,rfl,fun _=>rfl,hj1 _⟩
      ·have hj1:=hJ.light (j:=15) (by decide)
       go_wp2
       first|exact hj1 _|exact fun _=>rfl|exact⟨fun _=>rfl,hj1 _,k4⟩|exact⟨_,rfl,fun _=>rfl,hj1 _,k4⟩|exact⟨fun _=>rfl,hj1 _⟩|exact⟨_,rfl,fun _=>rfl,hj1 _⟩
      ·have e14:u0 14= .slice ta tl tc:=(hd.1 rfl (by decide)).2 (by decide)
       have e15:u0 15= .int .i64 k:=(hd.2.1 rfl (by decide)).2 (by decide)
       have HCALL:=Lh (HSW3.out W9 hJ.bel)
       rw[e14,e15]
       go_wp2_with (go_at_call 16;(with_reducible refine(HCALL.out).mono ?_);rintro e W2 ⟨v9,ps3,rfl,hl9,hx9,g9⟩;have hj1:=hJ.call hl9 hx9 g9)
       first|exact⟨fun q=>absurd rfl q,hj1,k4⟩|exact⟨fun q=>absurd rfl q,k4⟩|exact⟨_,rfl,fun q=>absurd rfl q,hj1,k4⟩|exact hj1
      ·have e4:u0 4= .slice (some ⟨g2,0,none⟩) kl c7:=(hd.1 rfl (by decide)).2 (by decide)
       have e5:u0 5= .int .i64 (b:Int):=(hd.2.1 rfl (by decide)).2 (by decide)
       have hjn2:=HJB.out
       have hjn3:=HJB0.out
       rw[e4,e5]
       have hj1:=hJ.light (j:=17) (by decide)
       go_wp2
       first|exact hj1 _|exact fun _=>rfl|exact⟨fun _=>rfl,hj1 _,k4⟩|exact⟨_,rfl,fun _=>rfl,hj1 _,k4⟩|exact⟨fun _=>rfl,hj1 _⟩|exact⟨_,rfl,fun _=>rfl,hj1 _⟩
      ·have e17:u0 17= .pointer (some ⟨g2,b*6,none⟩):=(hd.1 rfl (by decide)).2 (by decide)
       rw[e17]
       have hj1:=hJ.light (j:=18) (by decide)
       go_wp2
       first|exact hj1 _|exact fun _=>rfl|exact⟨fun _=>rfl,hj1 _,k4⟩|exact⟨_,rfl,fun _=>rfl,hj1 _,k4⟩|exact⟨fun _=>rfl,hj1 _⟩|exact⟨_,rfl,fun _=>rfl,hj1 _⟩
     ·intro u0 W9 J9 hall hJ ht
      have e18:u0 18= .pointer (some ⟨g2,b*6+3,none⟩):=ht 18 (by decide) (by decide)
      obtain⟨ps3,hl9,hx9⟩:=hJ.cal (hall 16 (by decide))
      have HB9:=Lh hJ.bel
      simp only[Kj,Jh,List.drop_succ_cons,List.drop_zero,putAll,Act.put,List.setIfInBounds_toArray,List.set_cons_succ,List.set_cons_zero,Ly,Lx]
      obtain⟨a9,c9,hv9⟩:=hl9.row.size
      obtain⟨n9,hn9⟩: ∃y,(ps3.map ItV.cells).length=y:=⟨_,rfl⟩
      rw[hn9]at hv9
      rw[hv9]at hl9
      obtain⟨W10,hW10⟩: ∃W10,W9.setCell ⟨g2,b*6+3,none⟩ (.slice a9 n9 c9)=W10:=⟨_,rfl⟩
      have hk10: ∀x,x≠g2→W10.heap[x]?=W9.heap[x]?:=fun x hx=>by rw[←hW10];exact lset_else _ _ _ _ _ hx
      have hz10:W10.heap.size=W9.heap.size:=by rw[←hW10];simp
      have r9:=(HL8.out.row.below HB9.out).set b 3 (.slice a9 n9 c9) (by rw[Ky,HPN2.out];exact hjn) (by decide) rfl
      rw[hW10]at r9
      have hgg:=HG2.out
      have hg1:=HGL.out
      have hz9:=HB9.out.size
      have hz8:=HZ8.out
      have h6z:=HSZ6.out
      have hS: ∀x,(w1.heap.size≤x∧x<w2.heap.size)→x<W8.heap.size∧x≠g2∧x≠g:=fun x hx=>by have:=HS6.out x hx;omega
      have hkS: ∀x,(w1.heap.size≤x∧x<w2.heap.size)→W10.heap[x]?=W8.heap[x]?:=fun x hx=>(hk10 x (hS x hx).2.1).trans (HB9.out.block x (hS x hx).1)
      have hl10:ListIs 2 W10 (fun x=>w1.heap.size≤x∧x<w2.heap.size) W8.heap.size (.slice a9 n9 c9) ps3:=hl9.keep (fun _ h=>h) (fun x hx=>hk10 x (hS x hx).2.1) (fun x hx=>hk10 x (fun e=>by have:=(hl9.row.lt hx).1;omega)) hl9.out
      have h2:=hl10.items (S':=fun x=>(w1.heap.size≤x∧x<w2.heap.size)∨(W8.heap.size≤x∧x<W10.heap.size)) (fun x hx=>My hx) (fun x hx=>Mx (hl10.row.lt hx))
      rw[hx9]at h2
      have h3:=kids_set (base:=w6.heap.size) (K:=swL q.x.kids k) (by rw[cells_set ps2 b q HQ.out];exact r9) HQ.out (fun y hy=>(HL8.out.ws y hy).keep (fun _ h=>h) hkS) (fun y hy=>(HL8.out.ks y hy).keep (fun _ h=>h) hkS) h2 (fun x hx e=>by
       rcases hx with hx|hx|hx
       ·exact(hS x hx).2.1 e
       ·exact(hS x hx).2.1 e
       ·omega)
      have ek:(ps2.set b ⟨q.x.with (swL q.x.kids k),q.wv, .slice a9 n9 c9⟩).map ItV.x=modL (turnR k) (b:Int) (swL p.x.kids (b:Int)):=by
       have hlen:(swL p.x.kids (b:Int)).length=ps2.length:=by rw[←HX7.out,Ky]
       have hg:(swL p.x.kids (b:Int)).getD b default=q.x:=by rw[←HX7.out,Mk,List.getElem?_map,HQ.out];rfl
       rw[mod_in _ b _ (by rw[hlen,HPN2.out];exact hjn),hg,List.map_set,HX7.out];rfl
      rw[ek]at h3
      have r10:=HR8.out.kept (w':=W10) (fun x e=>by
       have e':some g=some x:=e
       injection e' with e'
       exact(hk10 x (fun e2=>by omega)).trans (HB9.out.block x (by omega)))
      have h4:=kids_set (base:=Wb1.heap.size) (K:=modL (turnR k) (b:Int) (swL p.x.kids (b:Int))) (by rw[cells_set ps a p HP.out];exact r10) HP.out (fun y hy=>(HPW.out y hy).1.keep (fun _ h=>h) hkS) (fun y hy=>(HPW.out y hy).2.keep (fun _ h=>h) hkS) h3 (fun x hx e=>by
       rcases hx with hx|(hx|hx|hx)|hx
       ·exact(hS x hx).2.2 e
       ·exact(hS x hx).2.2 e
       ·exact(hS x hx).2.2 e
       ·omega
       ·omega)
      rw[turn_is L (a:Int) (b:Int) k ps HX6.out a rfl p HP.out]at h4
      have HFI:=Lh h4
      have HFS:Hid (∀x,_→x<W10.heap.size):=Lh (show∀x,(((w1.heap.size≤x∧x<w2.heap.size)∨(((w1.heap.size≤x∧x<w2.heap.size)∨((w1.heap.size≤x∧x<w2.heap.size)∨(W8.heap.size≤x∧x<W10.heap.size)))∨x=g2))∨x=g)→x<W10.heap.size from fun x hx=>by
       rcases hx with(hx|(hx|hx|hx)|hx)|hx
       ·have:=(hS x hx).1;omega
       ·have:=(hS x hx).1;omega
       ·have:=(hS x hx).1;omega
       ·exact hx.2
       ·omega
       ·omega)
      have HB10:Hid (Below Wb1.heap.size Wb1 W10):=Lh (by rw[←hW10];exact(HB8.out.trans (HB9.out.mono (by have:=HB8.out.size;omega))).setCell (p:=⟨g2,b*6+3,none⟩) (Nat.le_trans h6z hgg.1) _)
      have GEND:=Lh (below_step G5.out HB10.out)
      have HC6e:=Lh (HC1.out.after HB10.out)
      have HV6e:=Lh (HV1.out.after HB10.out)
      have c3:=CK.of HB9.out _ _ HT3.out
      have q3:=(World.frozen?_of_block (a:=⟨g2,b*6+3,none⟩) (HB9.out.block g2 HG2.out.2)).trans HKQ.out
      clear hk10 hz10 r9 hgg hg1 hz9 hz8 h6z hS hkS hl10 h2 h3 ek r10 h4 hl9 hx9 hJ hall ht hn9
      rw[hv9,e18]
      have HCF:=Lh (HCT2.out _ _ _ GEND.out HFI.out HFS.out)
      go_wp2_with (first
       |(go_at_call 13;(with_reducible refine(HCF.out).mono ?_);rintro e w9 ⟨ga2,gc2,fa2,fc2,rfl,hcv2,hfl2,g9⟩;obtain⟨p2,Wa2,Wb2,hp2,hWa2,hWb2,Va2,Vb2,hb2,hz2⟩:=freshL w9 [.slice none 0 0, .int .i64 0, .int .i64 0, .int .i64 0, .int .i64 0, .int .i64 0] [.slice ga2 gn gc2, .int .i64 r0, .int .i64 r1, .int .i64 r2, .int .i64 r3, .int .i64 r4] 27 rfl;simp only[putL,Ly,Lx]at hWb2;have G9:=Lh (below_step (below_step GEND.out g9) hb2);have HC2:=Lh (hcv2.after hb2);have HF2:=Lh (hfl2.below hb2);have HV2:=Lh Vb2;have z20:=Va2.c 0 rfl;have zq20:=Va2.q 0 rfl;have z21:=Va2.c 1 rfl;have zq21:=Va2.q 1 rfl;have z22:=Va2.c 2 rfl;have zq22:=Va2.q 2 rfl;have z23:=Va2.c 3 rfl;have zq23:=Va2.q 3 rfl;have z24:=Va2.c 4 rfl;have zq24:=Va2.q 4 rfl;have z25:=Va2.c 5 rfl;have zq25:=Va2.q 5 rfl;have HC1f:=Lh (HC6e.out.after (below_step g9 hb2));have HV1f:=Lh (HV6e.out.after (below_step g9 hb2));have x10:=HV1f.out.c 0 rfl;have x20:=Vb2.c 0 rfl;have x11:=HV1f.out.c 1 rfl;have x21:=Vb2.c 1 rfl;have x12:=HV1f.out.c 2 rfl;have x22:=Vb2.c 2 rfl;have x13:=HV1f.out.c 3 rfl;have x23:=Vb2.c 3 rfl;have x14:=HV1f.out.c 4 rfl;have x24:=Vb2.c 4 rfl;have x15:=HV1f.out.c 5 rfl;have x25:=Vb2.c 5 rfl;clear hcv2 hfl2 g9 Va2 Vb2 hb2 hz2)
       |(go_at_call 10;(with_reducible refine(HSM.out _ _ _ _ _ HC1f.out HC2.out).mono ?_);rintro e wf ⟨rfl,gf⟩;have GF:=Lh (below_step G9.out gf);clear gf))
      go_ret
      exact⟨rfl,GF.out⟩
    ·have hjr: ¬(0≤(b:Int)∧(b:Int)<(kl:Int)):=by omega
     have hjn': ¬(b:Int)<(kl:Int):=by omega
     have HFI:Hid (ItemsIs 5 W8 (fun b=>((w1.heap.size≤b∧b<w2.heap.size)∨((w1.heap.size≤b∧b<w2.heap.size)∨(w6.heap.size≤b∧b<W8.heap.size)))∨b=g) (.slice (some ⟨g,0,none⟩) ln c6) (turnL L (a:Int) (b:Int) k)):=Lh (by
      have h2:=HL8.out.items (S':=fun b=>(w1.heap.size≤b∧b<w2.heap.size)∨(w6.heap.size≤b∧b<W8.heap.size)) (fun b hb=>My hb) (fun b hb=>Mx (HL8.out.row.lt hb))
      rw[HX7.out]at h2
      have h3:=kids_set (base:=Wb1.heap.size) (K:=swL p.x.kids (b:Int)) (by rw[cells_set ps a p HP.out];exact HR8.out) HP.out (fun q hq=>(HPW.out q hq).1) (fun q hq=>(HPW.out q hq).2) h2 (fun b hb e=>by
       have h1:=HGL.out
       rcases hb with hb|hb|hb
       ·have:=HS6.out b hb;omega
       ·have:=HS6.out b hb;omega
       ·omega)
      have e:=turn_is L (a:Int) (b:Int) k ps HX6.out a rfl p HP.out (.slice a7 kl c7)
      rw[mod_out _ _ _ (by rw[swL_len,HKL.out];exact hjr)]at e
      rw[e]at h3
      exact h3)
     have HFS:Hid (∀b,(((w1.heap.size≤b∧b<w2.heap.size)∨((w1.heap.size≤b∧b<w2.heap.size)∨(w6.heap.size≤b∧b<W8.heap.size)))∨b=g)→b<W8.heap.size):=Lh (fun b hb=>by
      have h1:=HGL.out
      have h2:=HZ8.out
      have h3:=HSZ6.out
      rcases hb with(hb|hb|hb)|hb
      ·have:=HS6.out b hb;omega
      ·have:=HS6.out b hb;omega
      ·exact hb.2
      ·omega)
     have GEND:=G8
     have HC6e:=HC8
     have HV6e:=HV8
     have HCF:=Lh (HCT2.out _ _ _ GEND.out HFI.out HFS.out)
     go_wp2_with (first
      |(go_at_call 13;(with_reducible refine(HCF.out).mono ?_);rintro e w9 ⟨ga2,gc2,fa2,fc2,rfl,hcv2,hfl2,g9⟩;obtain⟨p2,Wa2,Wb2,hp2,hWa2,hWb2,Va2,Vb2,hb2,hz2⟩:=freshL w9 [.slice none 0 0, .int .i64 0, .int .i64 0, .int .i64 0, .int .i64 0, .int .i64 0] [.slice ga2 gn gc2, .int .i64 r0, .int .i64 r1, .int .i64 r2, .int .i64 r3, .int .i64 r4] 27 rfl;simp only[putL,Ly,Lx]at hWb2;have G9:=Lh (below_step (below_step GEND.out g9) hb2);have HC2:=Lh (hcv2.after hb2);have HF2:=Lh (hfl2.below hb2);have HV2:=Lh Vb2;have z20:=Va2.c 0 rfl;have zq20:=Va2.q 0 rfl;have z21:=Va2.c 1 rfl;have zq21:=Va2.q 1 rfl;have z22:=Va2.c 2 rfl;have zq22:=Va2.q 2 rfl;have z23:=Va2.c 3 rfl;have zq23:=Va2.q 3 rfl;have z24:=Va2.c 4 rfl;have zq24:=Va2.q 4 rfl;have z25:=Va2.c 5 rfl;have zq25:=Va2.q 5 rfl;have HC1f:=Lh (HC6e.out.after (below_step g9 hb2));have HV1f:=Lh (HV6e.out.after (below_step g9 hb2));have x10:=HV1f.out.c 0 rfl;have x20:=Vb2.c 0 rfl;have x11:=HV1f.out.c 1 rfl;have x21:=Vb2.c 1 rfl;have x12:=HV1f.out.c 2 rfl;have x22:=Vb2.c 2 rfl;have x13:=HV1f.out.c 3 rfl;have x23:=Vb2.c 3 rfl;have x14:=HV1f.out.c 4 rfl;have x24:=Vb2.c 4 rfl;have x15:=HV1f.out.c 5 rfl;have x25:=Vb2.c 5 rfl;clear hcv2 hfl2 g9 Va2 Vb2 hb2 hz2)
      |(go_at_call 10;(with_reducible refine(HSM.out _ _ _ _ _ HC1f.out HC2.out).mono ?_);rintro e wf ⟨rfl,gf⟩;have GF:=Lh (below_step G9.out gf);clear gf))
     go_ret
     exact⟨rfl,GF.out⟩
   ·have hjr: ¬(0≤j∧j<(kl:Int)):=by omega
    have HFI:Hid (ItemsIs 5 W8 (fun b=>((w1.heap.size≤b∧b<w2.heap.size)∨((w1.heap.size≤b∧b<w2.heap.size)∨(w6.heap.size≤b∧b<W8.heap.size)))∨b=g) (.slice (some ⟨g,0,none⟩) ln c6) (turnL L (a:Int) j k)):=Lh (by
     have h2:=HL8.out.items (S':=fun b=>(w1.heap.size≤b∧b<w2.heap.size)∨(w6.heap.size≤b∧b<W8.heap.size)) (fun b hb=>My hb) (fun b hb=>Mx (HL8.out.row.lt hb))
     rw[HX7.out]at h2
     have h3:=kids_set (base:=Wb1.heap.size) (K:=swL p.x.kids j) (by rw[cells_set ps a p HP.out];exact HR8.out) HP.out (fun q hq=>(HPW.out q hq).1) (fun q hq=>(HPW.out q hq).2) h2 (fun b hb e=>by
      have h1:=HGL.out
      rcases hb with hb|hb|hb
      ·have:=HS6.out b hb;omega
      ·have:=HS6.out b hb;omega
      ·omega)
     have e:=turn_is L (a:Int) j k ps HX6.out a rfl p HP.out (.slice a7 kl c7)
     rw[mod_out _ _ _ (by rw[swL_len,HKL.out];exact hjr)]at e
     rw[e]at h3
     exact h3)
    have HFS:Hid (∀b,(((w1.heap.size≤b∧b<w2.heap.size)∨((w1.heap.size≤b∧b<w2.heap.size)∨(w6.heap.size≤b∧b<W8.heap.size)))∨b=g)→b<W8.heap.size):=Lh (fun b hb=>by
     have h1:=HGL.out
     have h2:=HZ8.out
     have h3:=HSZ6.out
     rcases hb with(hb|hb|hb)|hb
     ·have:=HS6.out b hb;omega
     ·have:=HS6.out b hb;omega
     ·exact hb.2
     ·omega)
    have GEND:=G8
    have HC6e:=HC8
    have HV6e:=HV8
    have HCF:=Lh (HCT2.out _ _ _ GEND.out HFI.out HFS.out)
    go_wp2_with (first
     |(go_at_call 13;(with_reducible refine(HCF.out).mono ?_);rintro e w9 ⟨ga2,gc2,fa2,fc2,rfl,hcv2,hfl2,g9⟩;obtain⟨p2,Wa2,Wb2,hp2,hWa2,hWb2,Va2,Vb2,hb2,hz2⟩:=freshL w9 [.slice none 0 0, .int .i64 0, .int .i64 0, .int .i64 0, .int .i64 0, .int .i64 0] [.slice ga2 gn gc2, .int .i64 r0, .int .i64 r1, .int .i64 r2, .int .i64 r3, .int .i64 r4] 27 rfl;simp only[putL,Ly,Lx]at hWb2;have G9:=Lh (below_step (below_step GEND.out g9) hb2);have HC2:=Lh (hcv2.after hb2);have HF2:=Lh (hfl2.below hb2);have HV2:=Lh Vb2;have z20:=Va2.c 0 rfl;have zq20:=Va2.q 0 rfl;have z21:=Va2.c 1 rfl;have zq21:=Va2.q 1 rfl;have z22:=Va2.c 2 rfl;have zq22:=Va2.q 2 rfl;have z23:=Va2.c 3 rfl;have zq23:=Va2.q 3 rfl;have z24:=Va2.c 4 rfl;have zq24:=Va2.q 4 rfl;have z25:=Va2.c 5 rfl;have zq25:=Va2.q 5 rfl;have HC1f:=Lh (HC6e.out.after (below_step g9 hb2));have HV1f:=Lh (HV6e.out.after (below_step g9 hb2));have x10:=HV1f.out.c 0 rfl;have x20:=Vb2.c 0 rfl;have x11:=HV1f.out.c 1 rfl;have x21:=Vb2.c 1 rfl;have x12:=HV1f.out.c 2 rfl;have x22:=Vb2.c 2 rfl;have x13:=HV1f.out.c 3 rfl;have x23:=Vb2.c 3 rfl;have x14:=HV1f.out.c 4 rfl;have x24:=Vb2.c 4 rfl;have x15:=HV1f.out.c 5 rfl;have x25:=Vb2.c 5 rfl;clear hcv2 hfl2 g9 Va2 Vb2 hb2 hz2)
     |(go_at_call 10;(with_reducible refine(HSM.out _ _ _ _ _ HC1f.out HC2.out).mono ?_);rintro e wf ⟨rfl,gf⟩;have GF:=Lh (below_step G9.out gf);clear gf))
    go_ret
    exact⟨rfl,GF.out⟩
  ·have hir: ¬(0≤(a:Int)∧(a:Int)<(ln:Int)):=by omega
   have hin': ¬(a:Int)<(ln:Int):=by omega
   have HFI:Hid (ItemsIs 5 w6 (fun b=>(w1.heap.size≤b∧b<w2.heap.size)∨(Wb1.heap.size≤b∧b<w6.heap.size)) (.slice a6 ln c6) (turnL L (a:Int) j k)):=Lh (by
    have h:=HL6.out.items (S':=fun b=>(w1.heap.size≤b∧b<w2.heap.size)∨(Wb1.heap.size≤b∧b<w6.heap.size)) (fun b hb=>My hb) (fun b hb=>Mx (HL6.out.row.lt hb))
    rw[HX6.out]at h
    have e:turnL L (a:Int) j k=swL L (a:Int):=by unfold turnL;exact mod_out _ _ _ (by rw[swL_len,HLEN.out];exact hir)
    rw[e];exact h)
   have HFS:Hid (∀b,((w1.heap.size≤b∧b<w2.heap.size)∨(Wb1.heap.size≤b∧b<w6.heap.size))→b<w6.heap.size):=Lh (fun b hb=>hb.elim (fun h=>Kx (HS6.out b h) HSZ6.out) (fun h=>h.2))
   have GEND:=G6
   have HC6e:=HC6
   have HV6e:=HV6
   have HCF:=Lh (HCT2.out _ _ _ GEND.out HFI.out HFS.out)
   go_wp2_with (first
    |(go_at_call 13;(with_reducible refine(HCF.out).mono ?_);rintro e w9 ⟨ga2,gc2,fa2,fc2,rfl,hcv2,hfl2,g9⟩;obtain⟨p2,Wa2,Wb2,hp2,hWa2,hWb2,Va2,Vb2,hb2,hz2⟩:=freshL w9 [.slice none 0 0, .int .i64 0, .int .i64 0, .int .i64 0, .int .i64 0, .int .i64 0] [.slice ga2 gn gc2, .int .i64 r0, .int .i64 r1, .int .i64 r2, .int .i64 r3, .int .i64 r4] 27 rfl;simp only[putL,Ly,Lx]at hWb2;have G9:=Lh (below_step (below_step GEND.out g9) hb2);have HC2:=Lh (hcv2.after hb2);have HF2:=Lh (hfl2.below hb2);have HV2:=Lh Vb2;have z20:=Va2.c 0 rfl;have zq20:=Va2.q 0 rfl;have z21:=Va2.c 1 rfl;have zq21:=Va2.q 1 rfl;have z22:=Va2.c 2 rfl;have zq22:=Va2.q 2 rfl;have z23:=Va2.c 3 rfl;have zq23:=Va2.q 3 rfl;have z24:=Va2.c 4 rfl;have zq24:=Va2.q 4 rfl;have z25:=Va2.c 5 rfl;have zq25:=Va2.q 5 rfl;have HC1f:=Lh (HC6e.out.after (below_step g9 hb2));have HV1f:=Lh (HV6e.out.after (below_step g9 hb2));have x10:=HV1f.out.c 0 rfl;have x20:=Vb2.c 0 rfl;have x11:=HV1f.out.c 1 rfl;have x21:=Vb2.c 1 rfl;have x12:=HV1f.out.c 2 rfl;have x22:=Vb2.c 2 rfl;have x13:=HV1f.out.c 3 rfl;have x23:=Vb2.c 3 rfl;have x14:=HV1f.out.c 4 rfl;have x24:=Vb2.c 4 rfl;have x15:=HV1f.out.c 5 rfl;have x25:=Vb2.c 5 rfl;clear hcv2 hfl2 g9 Va2 Vb2 hb2 hz2)
    |(go_at_call 10;(with_reducible refine(HSM.out _ _ _ _ _ HC1f.out HC2.out).mono ?_);rintro e wf ⟨rfl,gf⟩;have GF:=Lh (below_step G9.out gf);clear gf))
   go_ret
   exact⟨rfl,GF.out⟩
 ·have hir: ¬(0≤i∧i<(ln:Int)):=by omega
  have HFI:Hid (ItemsIs 5 w6 (fun b=>(w1.heap.size≤b∧b<w2.heap.size)∨(Wb1.heap.size≤b∧b<w6.heap.size)) (.slice a6 ln c6) (turnL L i j k)):=Lh (by
   have h:=HL6.out.items (S':=fun b=>(w1.heap.size≤b∧b<w2.heap.size)∨(Wb1.heap.size≤b∧b<w6.heap.size)) (fun b hb=>My hb) (fun b hb=>Mx (HL6.out.row.lt hb))
   rw[HX6.out]at h
   have e:turnL L i j k=swL L i:=by unfold turnL;exact mod_out _ _ _ (by rw[swL_len,HLEN.out];exact hir)
   rw[e];exact h)
  have HFS:Hid (∀b,((w1.heap.size≤b∧b<w2.heap.size)∨(Wb1.heap.size≤b∧b<w6.heap.size))→b<w6.heap.size):=Lh (fun b hb=>hb.elim (fun h=>Kx (HS6.out b h) HSZ6.out) (fun h=>h.2))
  have GEND:=G6
  have HC6e:=HC6
  have HV6e:=HV6
  have HCF:=Lh (HCT2.out _ _ _ GEND.out HFI.out HFS.out)
  go_wp2_with (first
   |(go_at_call 13;(with_reducible refine(HCF.out).mono ?_);rintro e w9 ⟨ga2,gc2,fa2,fc2,rfl,hcv2,hfl2,g9⟩;obtain⟨p2,Wa2,Wb2,hp2,hWa2,hWb2,Va2,Vb2,hb2,hz2⟩:=freshL w9 [.slice none 0 0, .int .i64 0, .int .i64 0, .int .i64 0, .int .i64 0, .int .i64 0] [.slice ga2 gn gc2, .int .i64 r0, .int .i64 r1, .int .i64 r2, .int .i64 r3, .int .i64 r4] 27 rfl;simp only[putL,Ly,Lx]at hWb2;have G9:=Lh (below_step (below_step GEND.out g9) hb2);have HC2:=Lh (hcv2.after hb2);have HF2:=Lh (hfl2.below hb2);have HV2:=Lh Vb2;have z20:=Va2.c 0 rfl;have zq20:=Va2.q 0 rfl;have z21:=Va2.c 1 rfl;have zq21:=Va2.q 1 rfl;have z22:=Va2.c 2 rfl;have zq22:=Va2.q 2 rfl;have z23:=Va2.c 3 rfl;have zq23:=Va2.q 3 rfl;have z24:=Va2.c 4 rfl;have zq24:=Va2.q 4 rfl;have z25:=Va2.c 5 rfl;have zq25:=Va2.q 5 rfl;have HC1f:=Lh (HC6e.out.after (below_step g9 hb2));have HV1f:=Lh (HV6e.out.after (below_step g9 hb2));have x10:=HV1f.out.c 0 rfl;have x20:=Vb2.c 0 rfl;have x11:=HV1f.out.c 1 rfl;have x21:=Vb2.c 1 rfl;have x12:=HV1f.out.c 2 rfl;have x22:=Vb2.c 2 rfl;have x13:=HV1f.out.c 3 rfl;have x23:=Vb2.c 3 rfl;have x14:=HV1f.out.c 4 rfl;have x24:=Vb2.c 4 rfl;have x15:=HV1f.out.c 5 rfl;have x25:=Vb2.c 5 rfl;clear hcv2 hfl2 g9 Va2 Vb2 hb2 hz2)
   |(go_at_call 10;(with_reducible refine(HSM.out _ _ _ _ _ HC1f.out HC2.out).mono ?_);rintro e wf ⟨rfl,gf⟩;have GF:=Lh (below_step G9.out gf);clear gf))
  go_ret
  exact⟨rfl,GF.out⟩
end
section
open Go.ChangeShapes Go.WideShapes Go.ChangeAt Go.RowKit Go.Joins
open Go.ChangeMaps (open_string shut_string)
theorem cmpturns_own:ownKnob Tryz.prog.godebug=none:=by kernel_rfl
theorem cmpturns_int (x:Int) (h:(Lit.int .i64 x).wf=true): -9223372036854775808≤x∧x≤9223372036854775807:=by
 simpa [Lit.wf,IntKind.min,IntKind.max,IntKind.signed,IntKind.bits] using h
theorem cmpturns_lifted (os:Os) (started:os.Started) (H:Type) (enc:TypeId×Value→H):
  ReturnsInHanded {} Tryz.checked os 5 .any (fun w args=>(Rows.compileTurnsSpec.pre enc Tryz.prog Tryz.f5 Rows.compileTurnsRow.domain false w args∧laidMetH Tryz.prog Rows.compileTurnsRow.laid w)∧sizedMet enc Tryz.prog Tryz.f5 (OpenSpec.ofChange Rows.compileTurnsSpec) false w args) (Rows.compileTurnsSpec.post enc Tryz.prog Tryz.f5 false true false false):=by
 refine returnsInHanded_of_change_and (C:=Tryz.checked) (X:=fun w _=>laidMetH Tryz.prog Rows.compileTurnsRow.laid w) (fun _ _ _ hh h=>h.of_heap hh) cmpturns_own started (by kernel_rfl) Tryz.func5
  (ChangeSpec.witness_shaped (enc:=enc) (C:=Tryz.checked) (os:=os) (X:=fun w _=>laidMetH Tryz.prog Rows.compileTurnsRow.laid w) false (World.laidAll Tryz.prog os Rows.compileTurnsRow.laid) #[.string ⟨#[]⟩, .int .i64 0, .int .i64 0, .int .i64 0] 8 (World.laidAll_os _ _ _)
   (World.shaped_of_ZipB (by kernel_rfl) (by kernel_rfl)) (by kernel_rfl) (by kernel_rfl) (by kernel_rfl)
   (by rw[MakeChecks.laidMetH_plain _ _ _ (by kernel_rfl)];exact laidMet_laidAll _ (by kernel_rfl) (by kernel_rfl))) ?_
 intro W base args ds gs before hval0 hW _ _ hlaid _
 have hlaid2:laidMetH Tryz.prog Rows.compileTurnsRow.laid W:=hlaid
 rw[MakeChecks.laidMetH_plain _ _ _ (by kernel_rfl)]at hlaid2
 have htab:Env W:=utf_of_laid hlaid2 (by first|exact List.mem_of_getElem? (i:=1) (by kernel_rfl)|exact List.mem_of_getElem? (i:=0) (by kernel_rfl)|exact List.mem_of_getElem? (i:=2) (by kernel_rfl)|exact List.mem_of_getElem? (i:=3) (by kernel_rfl)|exact List.mem_of_getElem? (i:=4) (by kernel_rfl)) (by first|exact List.mem_of_getElem? (i:=0) (by kernel_rfl)|exact List.mem_of_getElem? (i:=1) (by kernel_rfl)|exact List.mem_of_getElem? (i:=2) (by kernel_rfl)|exact List.mem_of_getElem? (i:=3) (by kernel_rfl)|exact List.mem_of_getElem? (i:=4) (by kernel_rfl))
 clear hlaid hlaid2
 have hval: ∀(j:Nat) t v,Tryz.f5.params[j]?=some t→args[j]?=some v→Value.okWide Tryz.prog W .any base t v:=hval0
 have hW':=hW
 obtain⟨p,q,hA0,hV,rfl,hfz,hnd⟩:=hW
 have hA:DataW.TrodAll enc Tryz.prog W 0 (fun _=>true) true Tryz.f5.params.toList args.toList ds p:=hA0
 rw[Tryz.params5]at hA hval
 obtain⟨v0,vs0,d0,ds0,p0,q0,hargs,rfl,rfl,h0,r0⟩:=trodAll_cons hA
 obtain⟨v1,vs1,d1,ds1,p1,q1,rfl,rfl,rfl,h1,r1⟩:=trodAll_cons r0
 obtain⟨v2,vs2,d2,ds2,p2,q2,rfl,rfl,rfl,h2,r2⟩:=trodAll_cons r1
 obtain⟨v3,vs3,d3,ds3,p3,q3,rfl,rfl,rfl,h3,r3⟩:=trodAll_cons r2
 obtain⟨rfl,rfl,rfl⟩:=trodAll_nil r3
 obtain rfl:args= #[v0,v1,v2,v3]:=by cases args;simp_all
 obtain⟨rfl,rfl⟩:=trodVars_none hV
 obtain⟨x0,rfl,rfl,rfl,w0⟩:=open_string Tryz.underlying9 (hval 0 9 v0 rfl rfl) h0
 obtain⟨x1,rfl,rfl,rfl,w1⟩:=open_int Tryz.underlying3 (hval 1 3 v1 rfl rfl) h1
 obtain⟨x2,rfl,rfl,rfl,w2⟩:=open_int Tryz.underlying3 (hval 2 3 v2 rfl rfl) h2
 obtain⟨x3,rfl,rfl,rfl,w3⟩:=open_int Tryz.underlying3 (hval 3 3 v3 rfl rfl) h3
 clear hA0 hval0
 simp only[List.append_nil]at hW'
 refine(cmpturns_walk x0 x1 x2 x3 W htab (cmpturns_int x1 w1) (cmpturns_int x2 w2) (cmpturns_int x3 w3)).mono fun e W' ⟨he,bel⟩=>?_
 subst he
 exact⟨_,rfl,_,_,_,[],[],[],hW',trodAll_mk1 (shut_bool Tryz.underlying4 _),(trodAll_cons_mk (shut_string Tryz.underlying9 w0) (trodAll_cons_mk (shut_int Tryz.underlying3 w1) (trodAll_cons_mk (shut_int Tryz.underlying3 w2) (trodAll_cons_mk (shut_int Tryz.underlying3 w3) trodAll_mk0)))),rfl,bel.frame _,fun h=>by cases h⟩
theorem cmpturns_over:Rows.compileTurnsRow.holds Tryz.pinned (OpenSpec.ofChange Rows.compileTurnsSpec):=
 OpenClaim.holds_of_wide 5 Tryz.f5 rfl rfl rfl rfl rfl rfl rfl ⟨rfl,rfl,rfl,rfl,rfl⟩ rfl rfl rfl rfl rfl (by kernel_rfl) Tryz.func5 (by kernel_rfl)
  (of_decide_eq_true (by kernel_rfl)) (by unfold Func.isWrapper;first|(rw[if_pos (by decide+kernel)];kernel_rfl)|(rw[if_neg (by decide+kernel)];exact⟨rfl,rfl⟩))
  (fun os started H enc _=>cmpturns_lifted os started H enc)
theorem compile_turns_proved:Rows.CompileTurnsCardSaid:=
 Claim7.holds_tied_plain_at .later [] Rows.compileTurnsCard.laidKinds true Rows.compileTurnsCard.stood.harness Rows.compileTurnsCard.stood.looks cmpturns_over (fun _ h=>by cases h) (by kernel_rfl) (fun _ h=>by cases h) compileTurns_row_tie rfl ⟨rfl,rfl⟩ (by kernel_rfl) rfl
  (fun f fn hf hfn=>by
   obtain rfl:f=5:=Option.some.inj ((show Tryz.prog.funcNamed "firebell/firebelllaw16.CompileTurns" =some 5 by kernel_rfl).symm.trans hf)|>.symm
   obtain rfl:fn=Tryz.f5:=(Option.some.inj (Tryz.func5.symm.trans hfn)).symm
   exact⟨by kernel_rfl,fun j t ht=>by
    rw[Tryz.params5]at ht
    have hm:t∈ [9,3]:=by first|simpa using Array.mem_of_getElem? ht|(have h:=Array.mem_of_getElem? ht;simp at h ⊢;omega)|(have h:=Array.mem_of_getElem? ht;simp at h ⊢;rcases h with h|h|h<;>simp[h])
    have hall:([9,3].all fun u=> !Tryz.prog.wantsStandIn u)=true:=by kernel_rfl
    exact(show Tryz.prog.wantsStandIn t=false by simpa using List.all_eq_true.1 hall t hm)⟩)
  (by kernel_rfl)
end
end Go.Proofs.YtalcagmhdppdjaaGreatDoor
