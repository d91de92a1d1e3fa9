/-
  Package layout's Print, from its items: walked.
-/
import Derived.Test.YtiapmjkaappcfaaGreatDoorPkShowGoals10
set_option maxRecDepth 100000
set_option maxHeartbeats 16000000
namespace Go.Proofs.YtiapmjkaappcfaaGreatDoor
open Lib renaming hid→Lh
open Go.RowKit.Below renaming refl→Mj
open List renaming getD_eq_getElem?_getD→Mk,getElem?_eq_getElem→Kh,length_append→Kq,length_map→Ky,length_cons→Jq,mem_cons_of_mem→Jy,mem_cons_self→Jz
open Nat renaming le_refl→Mz
section
open Go.RowKit
def headL (d:Nat) (nm:ByteArray) (wd:List Tk3) (bk:Bool):List Int:=indP d++(nums nm++(wordsP wd++(if bk then [32,123,10]else [59,10])))
def strC (p:List Int):List Value:= [.string (strOfNums p)]
theorem strC_one (ps:List (List Int)): ∀u∈ps.map strC,∀x∈u,x.oneCell'=true:=fun u hu x hx=>by
 obtain⟨p,_,rfl⟩:=List.mem_map.mp hu
 rw[List.mem_singleton.mp hx];rfl
theorem info_str:(Tryz.prog.info? 9).map (fun i=>(i.zero,i.size,i.bytes))=some (some (.string ⟨#[]⟩),1,16):=by kernel_rfl
def partsW (nm:ByteArray) (wd:List Tk3) (i:Nat):List (List Int):=nums nm::(wd.take i).flatMap fun t=> [[32],prT t.k t.s t.n.toNat]
theorem partsW_next {nm:ByteArray} {wd:List Tk3} {i:Nat} (h:i<wd.length):partsW nm wd (i+1)=partsW nm wd i++ [[32],prT (wd.getD i {}).k (wd.getD i {}).s (wd.getD i {}).n.toNat]:=by
 unfold partsW
 rw[List.take_add_one,Mk,Kh h,List.flatMap_append]
 simp
theorem partsW_len (nm:ByteArray) (wd:List Tk3): ∀i,i≤wd.length→(partsW nm wd i).length=1+2*i
 |0,_=>by simp[partsW]
 |i+1,h=>by rw[partsW_next (by omega),Kq,partsW_len nm wd i (by omega)];simp;omega
theorem partsW_flat (nm:ByteArray) (wd:List Tk3):(partsW nm wd wd.length).flatten=nums nm++wordsP wd:=by
 unfold partsW wordsP
 rw[List.take_length,List.flatten_cons]
 congr 1
 induction wd with
 |nil=>rfl
 |cons t wd ih=>simp[List.flatMap_cons,ih]
theorem row_parts {w:World} {base:Nat} {v:Value} {ps:List (List Int)} (h:RowK 9 1 w base v (ps.map strC)):PartsIs w v ps:=by
 obtain⟨a,cap,hv⟩:=h.size
 rw[Ky]at hv
 rcases h.own.2 with⟨rfl,h0⟩|⟨g,cap2,cur,rfl,hb,hg,hn,_⟩
 ·rw[Ky]at h0
  exact⟨none,0,by rw[h0],by omega,fun i hi=>by omega⟩
 ·rw[Ky]at hn h
  refine⟨some ⟨g,0,none⟩,cap2,by rw[Ky],hn,fun i hi=>?_⟩
  have hc:=h.at i 0 (by rw[Ky];exact hi) (by decide)
  have e:(ps.map strC).getD i []=strC (ps.getD i []):=by
   rw[Mk,List.getElem?_map,Kh hi,Mk,Kh hi];rfl
  rw[e]at hc
  replace hc:w.cell? ⟨g,i*1+0,none⟩=some (.string (strOfNums (ps.getD i []))):=hc
  refine⟨g,0,cur,_,rfl,hg,?_⟩
  have e2:i*1+0=0+i:=by omega
  rw[e2]at hc
  exact hc
theorem row_one (w:World) (base:Nat) (hb:base≤w.heap.size) (s:List Int) (S:ByteArray) (hS:strOfNums s=S):RowK 9 1 (w.alloc (.cells #[.string S] 9)) base (.slice (some ⟨w.heap.size,0,none⟩) 1 1) ([s].map strC):=by
 subst hS
 refine⟨⟨by simp[strC], .inr ⟨w.heap.size,1, #[.string (strOfNums s)],rfl,hb,heap_alloc_new w _,Mz _,by decide,rfl,rfl⟩⟩,fun u hu=>?_,strC_one [s]⟩
 rw[List.mem_singleton.mp hu];rfl
theorem cells_two (w:World) (s p:List Int) (S X:ByteArray) (hS:strOfNums s=S) (hX:strOfNums p=X):CellsAt 1 (w.alloc (.cells #[.string S, .string X] 9)) (some ⟨w.heap.size,0,none⟩) ([s,p].map strC):=by
 subst hS hX
 refine⟨fun u hu=>?_,fun i hi=>⟨w.heap.size,0,rfl,fun j hj=>?_⟩⟩
 ·obtain⟨q,_,rfl⟩:=List.mem_map.mp hu;rfl
 ·obtain rfl:j=0:=by omega
  simp at hi
  have:i=0∨i=1:=by omega
  rcases this with rfl|rfl<;>simp[strC]
theorem cells_one (w:World) (s:List Int) (S:ByteArray) (hS:strOfNums s=S):CellsAt 1 (w.alloc (.cells #[.string S] 9)) (some ⟨w.heap.size,0,none⟩) ([s].map strC):=by
 subst hS
 refine⟨fun u hu=>?_,fun i hi=>⟨w.heap.size,0,rfl,fun j hj=>?_⟩⟩
 ·obtain⟨q,_,rfl⟩:=List.mem_map.mp hu;rfl
 ·obtain rfl:j=0:=by omega
  simp at hi
  obtain rfl:i=0:=by omega
  simp[strC]
theorem fresh5 (V:World) (x0 x1 x2 x3 x4:Value): ∃W0 W1,V.alloc (.cells #[.int .i64 0, .string ⟨#[]⟩, .int .u64 0, .int .i64 0, .int .i64 0] 89)=W0∧put5 W0 V.heap.size x0 x1 x2 x3 x4=W1∧
  Var5 W0 V.heap.size (.int .i64 0) (.string ⟨#[]⟩) (.int .u64 0) (.int .i64 0) (.int .i64 0)∧Var5 W1 V.heap.size x0 x1 x2 x3 x4∧Below V.heap.size V W1:=
 ⟨_,_,rfl,rfl,Var5.fresh _ _ _ _ _ _ _ _ rfl,(Var5.fresh _ _ _ _ _ _ _ _ rfl).put _ _ _ _ _,below_put5 ((Mj _ _).alloc (Mz _) _) (Mz _) _ _ _ _ _⟩
theorem words_short: ∀(wd:List Tk3),(∀t∈wd,WordR t)→(∀t∈wd,t.s.size≤2000∧0≤t.n∧t.n≤18446744073709551615)→(wordsP wd).length≤2001*wd.length
 | [],_,_=>by simp[wordsP]
 |t::wd,h,hl=>by
  have h1:=h t (Jz ..)
  have h2:=hl t (Jz ..)
  have hp:=print_short (k:=t.k) (s:=t.s) (n:=t.n.toNat) (by rw[nat_n h2.2.1];exact h1.right) (by omega) h2.1
  have ih:=words_short wd (fun x hx=>h x (Jy _ hx)) (fun x hx=>hl x (Jy _ hx))
  have e:wordsP (t::wd)=32::(prT t.k t.s t.n.toNat++wordsP wd):=by simp[wordsP]
  rw[e]
  simp only[Jq,Kq]
  omega
theorem words_bytes {wd:List Tk3} (h: ∀t∈wd,WordR t) (hl: ∀t∈wd,0≤t.n) (nm:ByteArray) (i:Nat): ∀p∈partsW nm wd i,∀z∈p,0≤z∧z≤255:=fun p hp z hz=>by
 unfold partsW at hp
 rcases List.mem_cons.mp hp with rfl|hp
 ·exact nums_byte nm z hz
 ·obtain⟨t,ht,hp⟩:=List.mem_flatMap.mp hp
  have ht2:=List.mem_of_mem_take ht
  simp only[List.mem_cons,List.not_mem_nil,or_false]at hp
  rcases hp with rfl|rfl
  ·rw[List.mem_singleton.mp hz];omega
  ·exact print_byte (by rw[nat_n (hl t ht2)];exact(h t ht2).right) z hz
theorem lpitem_any (S:Nat→Prop) (B b:Nat) (op:Int) (zs:List Int) (d:Nat) (nm:ByteArray) (wd:List Tk3) (bk:Bool) (kv:Value) (pa pb:Int) (wv:Value) (w:World) (env:EnvQ w) (h:PrF B b op zs w) (hw:WordsIs w S wv wd) (hd1:1≤d) (hd4:d≤4)
  (hwr: ∀t∈wd,WordR t) (hwl:wd.length≤6) (hl:LightX (.mk nm wd bk [] pa pb)) (hlen:zs.length≤10000000000) (hBw:B≤w.heap.size):
  Calls Tryz.prog 95 #[.pointer (some ⟨b,0,none⟩), .int .i64 (d:Int), .agg #[.string nm,wv, .bool bk,kv, .int .i64 pa, .int .i64 pb]] w fun e w'=>e= .returned (.tuple #[])∧PrF B b (if bk then(d:Int)else op) (zs++headL d nm wd bk) w'∧KF B b w w':=by
 obtain⟨wa,wc,rfl⟩:=hw.size
 obtain⟨n,hn⟩: ∃n,wd.length=n:=⟨_,rfl⟩
 obtain⟨W0,hW0⟩: ∃W,w.alloc (.cells #[.string nm, .slice wa n wc, .bool bk,kv, .int .i64 pa, .int .i64 pb] 47)=W:=⟨_,rfl⟩
 have V0:Var6 W0 w.heap.size (.string nm) (.slice wa n wc) (.bool bk) kv (.int .i64 pa) (.int .i64 pb):=by rw[←hW0];exact Var6.fresh _ _ _ _ _ _ _ _ _ rfl
 have g0:Below w.heap.size w W0:=by rw[←hW0];exact(Mj _ _).alloc (Mz _) _
 obtain⟨W1,hW1⟩: ∃W,W0.alloc (.cells #[.string nm] 9)=W:=⟨_,rfl⟩
 have g1:Below w.heap.size w W1:=by rw[←hW1];exact g0.alloc g0.size _
 have hR0:RowK 9 1 W1 (w.heap.size+1) (.slice (some ⟨W0.heap.size,0,none⟩) 1 1) ((partsW nm wd 0).map strC):=by
  rw[←hW1]
  have:=row_one W0 (w.heap.size+1) (by rw[←hW0];simp) (nums nm) nm (strOfNums_nums nm)
  simpa [partsW] using this
 have V1:Var6 W1 w.heap.size (.string nm) (.slice wa n wc) (.bool bk) kv (.int .i64 pa) (.int .i64 pb):=by rw[←hW1];exact V0.after ((Mj _ _).alloc (Mz _) _)
 have HV1:=Lh V1
 have HR0:=Lh hR0
 have HG1:=Lh g1
 have HE:=Lh env
 have HP:=Lh h
 have HWD:=Lh hw
 have HWR:=Lh hwr
 have HL:=Lh hl
 have HLEN:=Lh hlen
 have HB:=Lh hBw
 have HN:=Lh hn
 obtain⟨c0,c1,c2,_,_,_,_,_⟩:=V0
 obtain⟨d0,d1,d2,_,_,_,_,_⟩:=V1
 rw[hn]at hwl ⊢
 clear h hw env hwr hl hlen hBw hn g0 g1 hR0
 go_enter Tryz.func95,Tryz.ntmps95
 go_wp2
 go_loopw [6,15] (fun v6 v15 wr=> ∃(i:Nat) (va:Option Addr) (vl vc:Nat),i≤n∧v6= .slice va vl vc∧v15= .int .i64 (i:Int)∧RowK 9 1 wr (w.heap.size+1) (.slice va vl vc) ((partsW nm wd i).map strC)∧Below w.heap.size w wr∧wr.heap[w.heap.size]?=W1.heap[w.heap.size]?∧w.heap.size<wr.heap.size) (fun _ v15 _=>n-(intOf v15).toNat)
 case atStart=>exact⟨0,_,_,_,Nat.zero_le _,rfl,rfl,HR0.out,HG1.out,rfl,HV1.out.s⟩
 case round=>
  obtain⟨i,va,vl,vc,hi,rfl,rfl,hrow,hb,hx,hxs⟩:=hrel
  have HRO:=Lh hrow
  have HBR:=Lh hb
  have HX:=Lh hx
  have HXS:=Lh hxs
  by_cases hin:i<n
  ·have hwi:=HWD.out.below hb
   obtain⟨a',cap',he,hc,hcell⟩:=hwi
   injection he with e1 e2 e3
   subst e1
   obtain⟨b1,o1,rfl,s1,f0,f1,f2,f3,f4⟩:=hcell i (by rw[HN.out];exact hin)
   have hmem:wd.getD i {} ∈wd:=by
    rw[Mk,Kh (by rw[HN.out];exact hin)]
    exact List.getElem_mem _
   have hlx:=HL.out.2.2 _ hmem
   have hwx:=HWR.out _ hmem
   have hnx:=partsW_next (nm:=nm) (wd:=wd) (i:=i) (by rw[HN.out];exact hin)
   have hln:=partsW_len nm wd i (by rw[HN.out];omega)
   obtain⟨⟨k,s,m0,x,y⟩,ht⟩: ∃t,wd.getD i {} =t:=⟨_,rfl⟩
   rw[ht]at f0 f1 f2 f3 f4 hlx hwx hnx
   simp only at f0 f1 f2 f3 f4 hlx hnx
   obtain⟨m,rfl⟩: ∃m:Nat,m0=(m:Int):=⟨m0.toNat,by omega⟩
   rw[Int.toNat_natCast]at hnx
   have hwright:=hwx.right
   simp only at hwright
   obtain⟨W2,W3,hW2,hW3,v2,v3,g3⟩:=fresh5 wr (.int .i64 k) (.string s) (.int .u64 (m:Int)) (.int .i64 x) (.int .i64 y)
   have G3:=Lh (hb.trans (g3.mono hb.size))
   have HPT:=ptok_any k s m x y W3 (HE.out.step G3.out) (by omega) (by omega) hwright
   obtain⟨X,hX⟩: ∃X,strOfNums (prT k s m)=X:=⟨_,rfl⟩
   rw[hX]at HPT
   have HPT2:=Lh HPT
   have HAP:Hid (∀w5,Below W3.heap.size W3 w5→RowK 9 1 (w5.alloc (.cells #[.string ⟨#[32]⟩, .string X] 9)) (w.heap.size+1) (.slice va vl vc) ((partsW nm wd i).map strC)∧CellsAt 1 (w5.alloc (.cells #[.string ⟨#[32]⟩, .string X] 9)) (some ⟨w5.heap.size,0,none⟩) ([[32],prT k s m].map strC)∧w.heap.size+1≤(w5.alloc (.cells #[.string ⟨#[32]⟩, .string X] 9)).heap.size∧
     Below w.heap.size w (w5.alloc (.cells #[.string ⟨#[32]⟩, .string X] 9))∧(w5.alloc (.cells #[.string ⟨#[32]⟩, .string X] 9)).heap[w.heap.size]?=W1.heap[w.heap.size]?):=Lh (fun w5 g5=>by
    have g35:=g3.trans (g5.mono g3.size)
    have g6:Below wr.heap.size wr (w5.alloc (.cells #[.string ⟨#[32]⟩, .string X] 9)):=g35.alloc g35.size _
    exact⟨hrow.below g6,cells_two w5 [32] (prT k s m) _ _ rfl hX,by have:=g6.size;omega,hb.trans (g6.mono hb.size),(g6.block _ hxs).trans hx⟩)
   have HNX:Hid ((partsW nm wd (i+1)).map strC=(partsW nm wd i).map strC++ [[32],prT k s m].map strC):=Lh (by rw[hnx,List.map_append])
   have HLN:Hid (((partsW nm wd i).map strC).length+([[32],prT k s m].map strC).length≤1000000):=Lh (by rw[Ky,hln];simp;omega)
   have hi1:IntKind.i64.wrap ((i:Int)+1)=((i+1:Nat):Int):=by rw[IntKind.wrap_i64];omega
   obtain⟨q,hq⟩: ∃q,wr.heap.size=q:=⟨_,rfl⟩
   rw[hq]at v2 v3 hW3
   obtain⟨y0,y1,y2,y3,y4,yq,ys⟩:=v2
   obtain⟨t0,t1,t2,t3,t4,_,_⟩:=v3
   have z0:=yq 0
   have z1:=yq 1
   have z2:=yq 2
   have z3:=yq 3
   have z4:=yq 4
   unfold put5 at hW3
   clear hcell e2 e3 hc hmem hlx hwx hnx hln ht hwright g3 HPT hrow hb hx hxs hX yq ys s1
   go_wp2_with (first
    |(go_at_call 156;(with_reducible refine(HPT2.out).mono ?_);rintro e w5 ⟨rfl,g5⟩;have HA:=Lh (HAP.out w5 g5);clear g5)
    |(at_builtin;(refine wp_rowKs (T:=206) (t:=9) (sz:=1) rfl _ _ rfl Tryz.underlying206 info_str rfl (by decide) (by decide) (w.heap.size+1) _ _ rfl HA.out.1 (some ⟨w5.heap.size,0,none⟩) 2 2 ([[32],prT k s m].map strC) rfl rfl HA.out.2.1 (strC_one _) (by have:=HLN.out;simpa using this) HA.out.2.2.1 ?_)))
   intro v' w6 hrow6 ho6 _
   have HB6:=Lh (HA.out.2.2.2.1.trans (ho6.bel.mono (Nat.le_succ _)))
   have HX6:=Lh ((ho6.bel.block w.heap.size (Nat.lt_succ_self _)).trans HA.out.2.2.2.2)
   have HS6:=Lh (Nat.lt_of_lt_of_le (Nat.lt_of_succ_le HA.out.2.2.1) ho6.size)
   have HROW6:=Lh hrow6
   obtain⟨va2,vc2,rfl⟩:=hrow6.size
   obtain⟨vl2,hvl⟩: ∃n,(List.map strC (partsW nm wd i)++ [strC [32],strC (prT k s m)]).length=n:=⟨_,rfl⟩
   rw[hvl]at HROW6
   rw[hvl]
   clear hrow6 ho6 hvl
   go_wp2
   go_roundw
   case rel=>exact⟨i+1,va2,vl2,vc2,by omega,rfl,by go_num,by rw[HNX.out];exact HROW6.out,HB6.out,HX6.out,HS6.out⟩
   case measure=>simp[intOf];omega
  ·have en:n=i:=by omega
   subst en
   have x2:=(World.cell?_of_block (a:=⟨w.heap.size,2,none⟩) hx).trans HV1.out.c2
   have HLP:=Lh (partsW_len nm wd n (by rw[HN.out];omega))
   have HLN2:Hid (((partsW nm wd n).map strC).length+1≤1000000):=Lh (by rw[Ky,HLP.out];omega)
   have HWSH:Hid ((wordsP wd).length≤12006):=Lh (by
    have:=words_short wd HWR.out HL.out.2.2
    have:=HN.out
    omega)
   have hp:=HP.out
   clear hrow hb hx hxs
   cases bk with
   |false=>
    obtain⟨W5,hW5⟩: ∃W5,wr.alloc (.cells #[.string ⟨#[59]⟩] 9)=W5:=⟨_,rfl⟩
    have g5:Below wr.heap.size wr W5:=by rw[←hW5];exact(Mj _ _).alloc (Mz _) _
    have HROW5:=Lh (HRO.out.below g5)
    have HCE:Hid (CellsAt 1 W5 (some ⟨wr.heap.size,0,none⟩) ([[59]].map strC)):=Lh (by rw[←hW5];exact cells_one wr [59] _ rfl)
    have HSZ:Hid (w.heap.size+1≤W5.heap.size):=Lh (by have:=g5.size;have:=HXS.out;omega)
    have HB5:=Lh (HBR.out.trans (g5.mono HBR.out.size))
    have hfl:(partsW nm wd n++ [[59]]).flatten=nums nm++(wordsP wd++ [59]):=by
     rw[List.flatten_append,←HN.out,partsW_flat];simp
    have HFL:=Lh hfl
    clear g5 hfl
    go_wp2_with (at_builtin;(refine wp_rowKs (T:=206) (t:=9) (sz:=1) rfl _ _ rfl Tryz.underlying206 info_str rfl (by decide) (by decide) (w.heap.size+1) _ _ rfl HROW5.out (some ⟨wr.heap.size,0,none⟩) 1 1 ([[59]].map strC) rfl rfl HCE.out (strC_one _) HLN2.out HSZ.out ?_))
    intro v' w7 hrow7 ho7 _
    have HB7:=Lh (HB5.out.trans (ho7.bel.mono (Nat.le_succ _)))
    have hrow8:RowK 9 1 w7 (w.heap.size+1) v' ((partsW nm wd n++ [[59]]).map strC):=by rw[List.map_append];exact hrow7
    obtain⟨va2,vc2,hv2⟩:=hrow8.size
    obtain⟨vl2,hvl⟩: ∃n2,((partsW nm wd n++ [[59]]).map strC).length=n2:=⟨_,rfl⟩
    rw[hvl]at hv2
    have hlen:=HLEN.out
    have hws:=HWSH.out
    have hnl:=HL.out.1
    have HLI:=Lh (lline_any B b op zs d v' (partsW nm wd n++ [[59]]) w7 (HP.out.below (HB7.out)) (row_parts hrow8) hd1 hd4 (fun p hp z hz=>by
      rcases List.mem_append.mp hp with hp|hp
      ·exact words_bytes HWR.out (fun t ht=>(HL.out.2.2 t ht).2.1) nm n p hp z hz
      ·rw[List.mem_singleton.mp hp]at hz
       simp only[List.mem_cons,List.not_mem_nil,or_false]at hz
       omega) (by rw[HFL.out];simp only[It.name]at hnl;simp only[Kq,nums_length,Jq,List.length_nil];omega) (by rw[Kq,HLP.out];simp;omega) (by have:=HB7.out.size;have:=HB.out;omega))
    subst hv2
    clear hrow7 hrow8 ho7 hvl hlen hws hnl hW5
    go_wp2_with (go_at_call 155;(with_reducible refine(HLI.out).mono ?_);rintro e w8 ⟨rfl,p8,k8⟩;have y2:=p8.open_.1;have z2:=p8.open_.2 2;have P8:=Lh p8;have K8:=Lh ((KF.of (B:=B) (b:=b) HB7.out HB.out).trans k8);clear p8 k8)
    refine bodyPost_ret (results_none rfl _ _ _) rfl ?_
    refine⟨rfl,?_,K8.out⟩
    have:=P8.out
    rw[HFL.out]at this
    unfold headL
    simpa using this
   |true=>
    obtain⟨W5,hW5⟩: ∃W5,wr.alloc (.cells #[.string ⟨#[32,123]⟩] 9)=W5:=⟨_,rfl⟩
    have g5:Below wr.heap.size wr W5:=by rw[←hW5];exact(Mj _ _).alloc (Mz _) _
    have HROW5:=Lh (HRO.out.below g5)
    have HCE:Hid (CellsAt 1 W5 (some ⟨wr.heap.size,0,none⟩) ([[32,123]].map strC)):=Lh (by rw[←hW5];exact cells_one wr [32,123] _ rfl)
    have HSZ:Hid (w.heap.size+1≤W5.heap.size):=Lh (by have:=g5.size;have:=HXS.out;omega)
    have HB5:=Lh (HBR.out.trans (g5.mono HBR.out.size))
    have hfl:(partsW nm wd n++ [[32,123]]).flatten=nums nm++(wordsP wd++ [32,123]):=by
     rw[List.flatten_append,←HN.out,partsW_flat];simp
    have HFL:=Lh hfl
    clear g5 hfl
    go_wp2_with (at_builtin;(refine wp_rowKs (T:=206) (t:=9) (sz:=1) rfl _ _ rfl Tryz.underlying206 info_str rfl (by decide) (by decide) (w.heap.size+1) _ _ rfl HROW5.out (some ⟨wr.heap.size,0,none⟩) 1 1 ([[32,123]].map strC) rfl rfl HCE.out (strC_one _) HLN2.out HSZ.out ?_))
    intro v' w7 hrow7 ho7 _
    have HB7:=Lh (HB5.out.trans (ho7.bel.mono (Nat.le_succ _)))
    have hrow8:RowK 9 1 w7 (w.heap.size+1) v' ((partsW nm wd n++ [[32,123]]).map strC):=by rw[List.map_append];exact hrow7
    obtain⟨va2,vc2,hv2⟩:=hrow8.size
    obtain⟨vl2,hvl⟩: ∃n2,((partsW nm wd n++ [[32,123]]).map strC).length=n2:=⟨_,rfl⟩
    rw[hvl]at hv2
    have hlen:=HLEN.out
    have hws:=HWSH.out
    have hnl:=HL.out.1
    have HLI:=Lh (lline_any B b op zs d v' (partsW nm wd n++ [[32,123]]) w7 (HP.out.below (HB7.out)) (row_parts hrow8) hd1 hd4 (fun p hp z hz=>by
      rcases List.mem_append.mp hp with hp|hp
      ·exact words_bytes HWR.out (fun t ht=>(HL.out.2.2 t ht).2.1) nm n p hp z hz
      ·rw[List.mem_singleton.mp hp]at hz
       simp only[List.mem_cons,List.not_mem_nil,or_false]at hz
       omega) (by rw[HFL.out];simp only[It.name]at hnl;simp only[Kq,nums_length,Jq,List.length_nil];omega) (by rw[Kq,HLP.out];simp;omega) (by have:=HB7.out.size;have:=HB.out;omega))
    subst hv2
    clear hrow7 hrow8 ho7 hvl hlen hws hnl hW5
    go_wp2_with (go_at_call 155;(with_reducible refine(HLI.out).mono ?_);rintro e w8 ⟨rfl,p8,k8⟩;have y2:=p8.open_.1;have z2:=p8.open_.2 2;have P8:=Lh p8;have K8:=Lh ((KF.of (B:=B) (b:=b) HB7.out HB.out).trans k8);clear p8 k8)
    have hB:=P8.out.hB
    go_end0
    refine⟨rfl,?_,K8.out.put hB _ _⟩
    have:=P8.out.put2 (d:Int)
    rw[HFL.out]at this
    unfold headL
    simpa using this
end
section
open Go.RowKit Go.Shelf
def prS (s:Nat×List Int) (y:Nat×It):Nat×List Int:=(if y.2.block then y.1 else min s.1 (y.1-1),s.2++shutP s.1 y.1++headL y.1 y.2.name y.2.words y.2.block)
theorem shutP_split: ∀(o d:Nat),1≤d→d≤o→shutP o d=shutP o (d+1)++(indP d++ [125,10])
 |0,d,h1,h2=>by omega
 |o+1,d,h1,h2=>by
  rw[shutP_yes (o:=o+1) (by omega) h2]
  by_cases h:d≤o
  ·rw[shutP_yes (o:=o+1) (d:=d+1) (by omega) (by omega)]
   have ih:=shutP_split o d h1 h
   simp only[Nat.add_sub_cancel,ih,List.append_assoc]
  ·obtain rfl:d=o+1:=by omega
   rw[shutP_no (o:=o+1) (d:=o+1+1) (by omega),shutP_no (by omega)]
   simp
theorem pr_fold: ∀(L:List It) (d o:Nat) (zs:List Int),ShapeR L→1≤d→d≤o+1→
  d≤((flatL d L).foldl prS (o,zs)).1+1∧((flatL d L).foldl prS (o,zs)).2++shutP ((flatL d L).foldl prS (o,zs)).1 d=zs++shutP o d++prtL d L
 | [],d,o,zs,_,h1,h2=>by simp[flatL,prtL,h2]
 | .mk n w k kids a b::l,d,o,zs,hs,h1,h2=>by
  rw[ShapeR]at hs
  obtain⟨_,hk,_,hs4,hs5⟩:=hs
  rw[flatL,List.foldl_cons,List.foldl_append]
  obtain⟨s1,e1⟩: ∃s,prS (o,zs) (d, .mk n w k kids a b)=s:=⟨_,rfl⟩
  rw[e1]
  obtain⟨o1,z1⟩:=s1
  cases k with
  |true=>
   have q1:o1=d:=by have:=congrArg Prod.fst e1;simp[prS,It.block]at this;omega
   have q2:z1=zs++shutP o d++headL d n w true:=by have:=congrArg Prod.snd e1;simp[prS,It.block,It.name,It.words]at this;simp[←this]
   obtain⟨i1,i2⟩:=pr_fold kids (d+1) o1 z1 hs4 (by omega) (by omega)
   obtain⟨s2,e2⟩: ∃s,(flatL (d+1) kids).foldl prS (o1,z1)=s:=⟨_,rfl⟩
   rw[e2]at i1 i2 ⊢
   obtain⟨o2,z2⟩:=s2
   simp only at i1 i2
   obtain⟨j1,j2⟩:=pr_fold l d o2 z2 hs5 h1 (by omega)
   refine⟨j1,?_⟩
   rw[j2,shutP_split o2 d h1 (by omega),←List.append_assoc,i2,q1,shutP_no (by omega),q2,prtL]
   simp[headL]
  |false=>
   have hk0:kids= []:=hk.resolve_left (by simp)
   subst hk0
   have q1:o1=d-1:=by have:=congrArg Prod.fst e1;simp[prS,It.block]at this;omega
   have q2:z1=zs++shutP o d++headL d n w false:=by have:=congrArg Prod.snd e1;simp[prS,It.block,It.name,It.words]at this;simp[←this]
   obtain⟨j1,j2⟩:=pr_fold l d o1 z1 hs5 h1 (by omega)
   simp only[flatL,List.foldl_nil]
   refine⟨j1,?_⟩
   rw[j2,q1,shutP_no (by omega),q2,prtL]
   simp[headL]
def prK (L:List It) (k:Nat):Nat×List Int:=((flatL 1 L).take k).foldl prS (0,[])
theorem prK_next {L:List It} {k d:Nat} {x:It} (h:(flatL 1 L)[k]?=some (d,x)):prK L (k+1)=prS (prK L k) (d,x):=by
 unfold prK
 rw[List.take_add_one,h,List.foldl_append]
 rfl
theorem prK_all {L:List It} (h:ShapeR L):(prK L (flatL 1 L).length).2++shutP (prK L (flatL 1 L).length).1 1=prtL 1 L:=by
 unfold prK
 rw[List.take_length]
 have:=(pr_fold L 1 0 [] h (Mz _) (by omega)).2
 rw[this,shutP_no (by omega)]
 simp
theorem prtL_bytes: ∀(L:List It) (d:Nat),EachR L→NumsR L→∀z∈prtL d L,0≤z∧z≤255
 | [],d,_,_=>by simp[prtL]
 | .mk n w k kids a b::l,d,h,hn=>by
  rw[EachR]at h
  rw[NumsR]at hn
  have i1:=prtL_bytes kids (d+1) h.2.2.2.2.1 hn.2.1
  have i2:=prtL_bytes l d h.2.2.2.2.2 hn.2.2
  have hw: ∀z∈wordsP w,0≤z∧z≤255:=fun z hz=>by
   obtain⟨t,ht,hz⟩:=List.mem_flatMap.mp hz
   rcases List.mem_cons.mp hz with rfl|hz
   ·omega
   ·exact print_byte (by rw[nat_n (hn.1 t ht).1];exact(h.2.2.2.1 t ht).right) z hz
  intro z hz
  rw[prtL]at hz
  rcases List.mem_append.mp hz with hz|hz
  ·rcases List.mem_append.mp hz with hz|hz
   ·exact ind_bytes d z hz
   ·rcases List.mem_append.mp hz with hz|hz
    ·exact nums_byte n z hz
    ·rcases List.mem_append.mp hz with hz|hz
     ·exact hw z hz
     ·cases k with
      |true=>
       simp only[if_true]at hz
       rcases List.mem_append.mp hz with hz|hz
       ·simp only[List.mem_cons,List.not_mem_nil,or_false]at hz;omega
       ·rcases List.mem_append.mp hz with hz|hz
        ·exact i1 z hz
        ·rcases List.mem_append.mp hz with hz|hz
         ·exact ind_bytes d z hz
         ·simp only[List.mem_cons,List.not_mem_nil,or_false]at hz;omega
      |false=>
       simp only[Bool.false_eq_true,if_false]at hz
       simp only[List.mem_cons,List.not_mem_nil,or_false]at hz;omega
  ·exact i2 z hz
theorem prtL_some {L:List It} (h:L≠ []) (d:Nat):prtL d L≠ []:=by
 cases L with
 |nil=>exact(h rfl).elim
 |cons x l=>
  obtain⟨n,w,k,kids,a,b⟩:=x
  intro e
  have:=congrArg List.length e
  rw[prtL]at this
  cases k with
  |true=>simp at this
  |false=>simp at this
theorem lshut_none (b:Nat) (o:Nat) (d:Nat) (w:World) (h:w.cell? ⟨b,2,none⟩=some (.int .i64 (o:Int))) (hd:o<d):
  Calls Tryz.prog 94 #[.pointer (some ⟨b,0,none⟩), .int .i64 (d:Int)] w fun e w'=>e= .returned (.tuple #[])∧w'=w:=by
 have hdo': ¬(d:Int)≤(o:Int):=by omega
 go_enter Tryz.func94,Tryz.ntmps94
 go_wp2
 go_loopw [4] (fun _ wr=>wr=w) (fun _ _=>0)
 case atStart=>rfl
 case round=>
  obtain rfl:=hrel
  go_wp2
  go_end0
  exact⟨rfl,rfl⟩
theorem bstrp_none (b:Nat) (p o:Value) (w:World) (h:w.heap[b]?=some (.cells #[p, .slice none 0 0,o] 144 (0,0))):
  Calls Tryz.prog 96 #[.pointer (some ⟨b,0,none⟩)] w fun e w'=>e= .returned (.string ⟨#[]⟩)∧Below w.heap.size w w':=by
 have c2:w.drew.cell? ⟨b,1,none⟩=some (.slice none 0 0):=by
  have:w.drew.heap[b]?=some (.cells #[p, .slice none 0 0,o] 144 (0,0)):=h
  rw[Lib.cell_of_heap this];rfl
 have hSD:(Builtin.unsafeSliceData_ #[140] 207 #[.slice none 0 0]).run Tryz.prog w.drew= .ok (.pointer none) w.drew:=rfl
 have hUS:=Lib.run_unsafeString_none (P:=Tryz.prog) w.drew 207 3 9 none
 go_enter Tryz.func96,Tryz.ntmps96
 go_wp2
 go_region
 all_goals (go_wp2;go_ret;exact⟨rfl,Below.drew (Mj _ w)⟩)
theorem bstrp_any (B b:Nat) (op:Int) (zs:List Int) (hz: ∀z∈zs,0≤z∧z≤255) (he:zs≠ []) (w:World) (h:PrF B b op zs w):
  Calls Tryz.prog 96 #[.pointer (some ⟨b,0,none⟩)] w fun e w'=>e= .returned (.string (strOfNums zs))∧KF B b w w':=by
 obtain⟨hB,p,v,hp,hb,ho,hn⟩:=h
 have hl0:zs.length≠0:=fun e=>he (List.length_eq_zero_iff.mp e)
 obtain⟨g,cap,cur,fz,rfl,hbg,hg,hfz,hnc,hcm,hcs,htake⟩: ∃g cap cur fz,v= .slice (some ⟨g,0,none⟩) zs.length cap∧B≤g∧w.heap[g]?=some (.cells cur 5 fz)∧fz.2≤zs.length*1∧zs.length≤cap∧cap≤maxLen∧cur.size=cap*1∧cur.toList.take (zs.length*1)=u8s zs:=by
  rcases ho.2 with⟨_,hx⟩|⟨g,cap,cur,fz,hv,r⟩
  ·exact absurd hx hl0
  ·exact⟨g,cap,cur,fz,hv,r⟩
 have c2:w.drew.cell? ⟨b,1,none⟩=some (.slice (some ⟨g,0,none⟩) zs.length cap):=by
  have:w.drew.heap[b]?=some (.cells #[p, .slice (some ⟨g,0,none⟩) zs.length cap, .int .i64 op] 144 (0,0)):=hb
  rw[Lib.cell_of_heap this];rfl
 have hSD:(Builtin.unsafeSliceData_ #[140] 207 #[.slice (some ⟨g,0,none⟩) zs.length cap]).run Tryz.prog w.drew= .ok (.pointer (some ⟨g,0,none⟩)) w.drew:=
  Lib.run_unsafeSliceData_row _ _ _ _ _ _ (by omega)
 have hUS:(Builtin.unsafeString_ #[207,3] 9 #[.pointer (some ⟨g,0,none⟩), .int .i64 zs.length]).run Tryz.prog w.drew= .ok (.string (strOfNums zs)) (w.drew.freeze ⟨g,0,none⟩ zs.length):=by
  have hl:((zs.map fun z=>UInt8.ofNat z.toNat).length:Nat)=zs.length:=by simp
  have:=Lib.run_unsafeString_row w.drew 207 3 9 5 Tryz.underlying207 (by kernel_rfl) g cur.size (by have hg':w.drew.heap[g]?=some (.cells cur 5 fz):=hg;simp[World.shape?,hg']) (zs.map fun z=>UInt8.ofNat z.toNat) (by simpa using he) (by rw[hl];omega) (by rw[hl];unfold maxLen at hcm;omega) (by
   intro j x hx
   rw[List.getElem?_map]at hx
   cases hj:zs[j]? with
   |none=>rw[hj]at hx;cases hx
   |some z=>
    rw[hj]at hx
    obtain rfl:UInt8.ofNat z.toNat=x:=by simpa using hx
    have hzz:=hz z (List.mem_of_getElem? hj)
    have h5:=ho.cells (g:=g) rfl j (.int .u8 z) (by simp[u8s,hj])
    have e:((UInt8.ofNat z.toNat).toNat:Int)=z:=by simp only[UInt8.toNat_ofNat'];omega
    rw[e]
    exact h5)
  rw[hl]at this
  exact this
 go_enter Tryz.func96,Tryz.ntmps96
 go_wp2
 go_region
 all_goals (go_wp2;go_ret;exact⟨rfl,Lib.below_freeze (Below.drew (Mj B w)) (p:=⟨g,0,none⟩) hbg _,((Lib.OthersKept.refl _ _ w).drew).freeze ⟨g,0,none⟩ _ ⟨cur,fz,hg⟩⟩)
end
section
open Go.RowKit Go.Shelf
theorem flat_pos: ∀(L:List It) (d:Nat),∀y∈flatL d L,d≤y.1
 | [],d,y,hy=>by rw[flatL]at hy;cases hy
 | .mk n w k kids a b::l,d,y,hy=>by
  rw[flatL]at hy
  rcases List.mem_cons.mp hy with rfl|hy
  ·exact Mz _
  ·rcases List.mem_append.mp hy with hy|hy
   ·have:=flat_pos kids (d+1) y hy;omega
   ·exact flat_pos l d y hy
structure PnI (w:World) (b:Nat) (v:Value) (L:List It) (k:Nat) (V:World):Prop where
 bel:Below w.heap.size w V
 pr:PrF w.heap.size b ((prK L k).1:Int) (prK L k).2 V
 box:V.heap[b+1]?=some (.cells #[v] 34 (0,0))
 len:(prK L k).2.length≤20000*k
 op:(prK L k).1≤4
 fresh:k=0→V.heap[b]?=some (.cells #[.pointer none, .slice none 0 0, .int .i64 0] 144 (0,0))
theorem PnI.lt {w:World} {b:Nat} {v:Value} {L:List It} {k:Nat} {V:World} (h:PnI w b v L k V):b+1<V.heap.size:=(Array.getElem?_eq_some_iff.1 h.box).1
theorem PnI.cell {w:World} {b:Nat} {v:Value} {L:List It} {k:Nat} {V:World} (h:PnI w b v L k V):V.cell? ⟨b+1,0,none⟩=some v:=by rw[Lib.cell_of_heap h.box];rfl
theorem PnI.below {w:World} {b:Nat} {v:Value} {L:List It} {k:Nat} {V V':World} (h:PnI w b v L k V) (hb:Below V.heap.size V V'):PnI w b v L k V':=by
 have:=h.lt
 exact⟨h.bel.trans (hb.mono h.bel.size),h.pr.below hb,(hb.block _ this).trans h.box,h.len,h.op,fun e=>(hb.block _ (by omega)).trans (h.fresh e)⟩
theorem PnI.putObj {w:World} {b:Nat} {v:Value} {L:List It} {k:Nat} {V:World} (h:PnI w b v L k V) {l:Nat} {x:Loop} (hx:V.heap[l]?=some (.loop x)) (o:Loop) (hl:b+1<l):PnI w b v L k (V.putObj l (.loop o)):=by
 have hB:=h.pr.hB
 refine⟨below_putObj h.bel (by omega) _,h.pr.stay (fun j _ _ hj=>World.putObj_heap_other (fun e=>?_)),(World.putObj_heap_other (by omega)).trans h.box,h.len,h.op,fun e=>(World.putObj_heap_other (by omega)).trans (h.fresh e)⟩
 subst e
 rcases hj with hj|⟨c,fz,hj⟩
 ·omega
 ·rw[hx]at hj;cases hj
theorem KF.keeps {B b Z:Nat} {V V':World} (h:KF B b V V') (hb:b<Z):Keeps Z V V':=⟨h.1.size,fun i o hi ho hn=>h.2 i o ho (fun e=>by cases e;omega) hn⟩
section
attribute [local go_sem] Oper.semAt_some
theorem lprint_yes (D:Nat) (S:Nat→Prop) (v:Value) (L:List It) (w:World) (env:EnvQ w) (h:ItemsIs D w S v L) (hS: ∀b,S b→b<w.heap.size) (hm:cntL L≤1000000) (hd:depL L≤900000) (hl:LightL L) (hn:NumsR L) (hr:RightL L):
  Calls Tryz.prog 48 #[v] w fun e w'=>e= .returned (.tuple #[.string (strOfNums (prtL 1 L)), .int .i64 0])∧Below w.heap.size w w':=by
 have HRT:=Lh (lright_any D S v L w env.lo h hS hm hd hl)
 have HR:=Lh hr
 have HRG:=Lh (fun B1 n=>litems_range w S D v L B1 n h hS (by omega) hd)
 have HFL:=Lh ((right_flat L).mp hr)
 have HLT:=Lh (LightL.flat 1 hl)
 have HPO:=Lh (flat_pos L 1)
 have HLN:=Lh (flatL_len L 1)
 have HPA:=Lh (prK_all hr.each.shape)
 have HBY:=Lh (prtL_bytes L 1 hr.each hn)
 have HE:=Lh env
 have HS:=Lh hS
 obtain⟨a,cap,rfl⟩:=h.size
 have HC:=Lh (fun W=>litems_same a L.length cap W)
 have hm3:=hr.many
 have HZ:Hid (cntL L=0→L= []):=Lh (fun e=>by have:=len_cnt L;exact List.eq_nil_of_length_eq_zero (by omega))
 obtain⟨m,hm2⟩: ∃m,cntL L=m:=⟨_,rfl⟩
 obtain⟨len,hlen⟩: ∃n,L.length=n:=⟨_,rfl⟩
 rw[hm2]at HRG hm HFL HLN hm3 HZ
 rw[HLN.out]at HPA
 rw[hlen]at HRG HC HRT ⊢
 clear h hm2 hS hlen hl env hr hn
 refine(callsIn_wide (n:=3)).1 ?_
 refine callsIn_of_wp_marks Tryz.func48 rfl trivial ?_ rfl
 simp only[Tryz.ntmps48,List.size_toArray,Jq,List.length_nil,Nat.reduceAdd,Nat.reduceSub,Array.replicate_succ,Array.replicate_zero,List.push_toArray,List.append_toArray,List.nil_append,List.cons_append]
 gi_wp2_with (first
  |(refine⟨trivial,?_⟩;gi_at_call 38;refine(callsIn_wide.2 (HRT.out)).mono ?_;rintro e w1 ⟨q,rfl,hq,g1⟩;obtain rfl:q=true:=hq.mpr HR.out;have G1:=Lh g1;clear hq g1)
  |(refine⟨trivial,?_⟩;gi_at_call 75;refine(callsIn_wide.2 (HC.out _)).mono ?_;rintro e w2 ⟨rfl,rfl⟩))
 have hbw:=G1.out.size
 have hC0: ∀o1 o2,PnI w w1.heap.size (.slice a len cap) L 0 ((((w1.alloc (.cells #[.pointer none, .slice none 0 0, .int .i64 0] 144)).alloc (.cells #[.slice a len cap] 34)).alloc o1).alloc o2):=fun o1 o2=>by
  have h0:PnI w w1.heap.size (.slice a len cap) L 0 ((w1.alloc (.cells #[.pointer none, .slice none 0 0, .int .i64 0] 144)).alloc (.cells #[.slice a len cap] 34)):=by
   have hp:=PrF.new w1 w.heap.size w1.heap.size rfl hbw
   have e:prK L 0=(0,[]):=by simp[prK]
   refine⟨(G1.out.alloc hbw _).alloc (by simp;omega) _,by rw[e];exact hp.below ((Mj _ _).alloc (Mz _) _),?_,by rw[e];simp,by rw[e];decide,fun _=>?_⟩
   ·have:=World.alloc_heap_new (w1.alloc (.cells #[.pointer none, .slice none 0 0, .int .i64 0] 144)) (.cells #[.slice a len cap] 34)
    rw[World.size_alloc]at this
    exact this
   ·exact(Below.heap_alloc _ _ _ (by simp)).trans (World.alloc_heap_new w1 _)
  exact(h0.below ((Mj _ _).alloc (Mz _) o1)).below ((Mj _ _).alloc (Mz _) o2)
 have HC0:=Lh hC0
 clear hC0
 refine wp_rangeT (n:=3) (by decide) (gf:=122) (lb:= #[.pointer (some ⟨w1.heap.size+1,0,none⟩)]) rfl (enters_of Tryz.func122 (by kernel_rfl) rfl) rfl
  (G:=FlAt w S (flatL 1 L)) (m:=m) (Kc:=fun V=>Below w.heap.size w V∧V.cell? ⟨w1.heap.size+1,0,none⟩=some (.slice a len cap)) (HRG.out _ _)
  (fun k V=>PnI w w1.heap.size (.slice a len cap) L k V) (fun _=>False) (fun k V h=>⟨h.bel,h.cell⟩) (fun k V V' h hb=>h.below hb) (fun k V o x hx h=>h.putObj hx o (by simp)) (fun _ _ _ _ h=>h) ?h0
  (fun p q=> { tmps:= #[.slice a len cap,undef, .string ⟨#[]⟩, .int .i64 0, .pointer (some ⟨w1.heap.size,0,none⟩), .int .i64 (p.d:Int), .pointer (some ⟨q,0,none⟩), .slice a len cap, .bool true, .bool false, .slice a len cap, .func (.func 122) #[] #[.pointer (some ⟨w1.heap.size+1,0,none⟩)], .int .i64 (p.d:Int),p.item,undef,undef,undef,undef,undef,undef,undef,undef],defers:= [] })
  (fun p q V=>w1.heap.size+4≤q∧Var6 V q (.string p.x.name) p.wv (.bool p.x.block) p.kv (.int .i64 p.x.a) (.int .i64 p.x.b)∧∃c fz,V.heap[q]?=some (.cells c 47 fz)) ?hap ?assign ?body ?done ?stop
 case h0=>
  intro o1 o2
  exact HC0.out o1 o2
 case hap=>
  rintro p q V o ⟨h1,h2,c,fz,h3⟩
  exact⟨h1,h2.putObj _ _ (by simp<;>omega),c,fz,(World.putObj_heap_other (by simp<;>omega)).trans h3⟩
 case assign=>
  intro k p V K hG hs hK
  obtain⟨wa,wc,hwv⟩:=hG.ws.size
  obtain⟨D2,hks⟩:=hG.ks
  obtain⟨ka,kc,hkv⟩:=hks.size
  obtain⟨d,⟨nm,wd,bk,kd,pa,pb⟩,wv,kv⟩:=p
  simp only at hwv hkv
  subst hwv hkv
  simp only[It.words,It.kids,It.name,It.block,It.a,It.b]at hK
  obtain⟨wl,hwl⟩: ∃n,wd.length=n:=⟨_,rfl⟩
  obtain⟨kl,hkl⟩: ∃n,kd.length=n:=⟨_,rfl⟩
  simp only[Fl.enc,Fl.item,It.words,It.kids,It.name,It.block,It.a,It.b]at hK ⊢
  rw[hwl,hkl]at hK ⊢
  obtain⟨W0,W1,hW0,hW1,V0,V1,g1⟩:=fresh6 V (.string nm) (.slice wa wl wc) (.bool bk) (.slice ka kl kc) (.int .i64 pa) (.int .i64 pb)
  have hob: ∃c fz,W1.heap[V.heap.size]?=some (.cells c 47 fz):=by
   obtain⟨c',hc'⟩:=put6_obj (W:=W0) (p:=V.heap.size) (by rw[←hW0];exact World.alloc_heap_new V _) (.string nm) (.slice wa wl wc) (.bool bk) (.slice ka kl kc) (.int .i64 pa) (.int .i64 pb)
   rw[hW1]at hc'
   exact⟨c',_,hc'⟩
  have h1:=hK V.heap.size W1 g1 ⟨by simp at hs;omega,V1,hob⟩
  obtain⟨y0,y1,y2,y3,y4,y5,yq,ys⟩:=V0
  have z0:=yq 0
  have z1:=yq 1
  have z2:=yq 2
  have z3:=yq 3
  have z4:=yq 4
  have z5:=yq 5
  unfold put6 at hW1
  clear yq ys hK V1 g1 hG hks hwl hkl hob
  gi_wp2
  simpa using h1
 case body=>
  rintro k p q V hi hk hG ⟨hq4,hV6,hqo⟩ hs ⟨xd,hxd⟩ ⟨xl,hxl⟩
  have hmem:(p.d,p.x)∈flatL 1 L:=List.mem_of_getElem? hG.here
  have hlight:=HLT.out _ hmem
  have hright:=HFL.out.1 _ hmem
  have hpos:=HPO.out _ hmem
  have hnx:=prK_next hG.here
  have hws:=hG.ws
  obtain⟨D2,hks⟩:=hG.ks
  obtain⟨d,x,wv,kv⟩:=p
  simp only at hV6 hmem hlight hright hpos hnx hws hks ⊢
  obtain⟨⟨nm,wd,bk,kd,pa,pb⟩,hx⟩: ∃y,x=y:=⟨_,rfl⟩
  subst hx
  simp only[It.name,It.words,It.block,It.kids,It.a,It.b]at hV6 hws hks hnx
  have hbel:=hi.bel
  have hpr:=hi.pr
  have hop:=hi.op
  have hzl:=hi.len
  obtain⟨⟨o,zs⟩,hozs⟩: ∃s,prK L k=s:=⟨_,rfl⟩
  rw[hozs]at hpr hop hzl hnx
  simp only at hpr hop hzl
  have hBw:w.heap.size≤V.heap.size:=hbel.size
  have hsl:=shutP_len o d hop
  have SH:=lshut_any w.heap.size w1.heap.size o zs d V hpr hpos hop (by omega) hBw
  obtain⟨wa,wc,rfl⟩:=hws.size
  obtain⟨ka,kc,rfl⟩:=hks.size
  obtain⟨cq,fq,hqo⟩:=hqo
  have HIT:Hid (∀w2,PrF w.heap.size w1.heap.size ((min o (d-1):Nat):Int) (zs++shutP o d) w2→KF w.heap.size w1.heap.size V w2→Var6 w2 q (.string nm) (.slice wa wd.length wc) (.bool bk) (.slice ka kd.length kc) (.int .i64 pa) (.int .i64 pb)∧
    Calls Tryz.prog 95 #[.pointer (some ⟨w1.heap.size,0,none⟩), .int .i64 (d:Int), .agg #[.string nm, .slice wa wd.length wc, .bool bk, .slice ka kd.length kc, .int .i64 pa, .int .i64 pb]] w2 fun e w'=>e= .returned (.tuple #[])∧PnI w w1.heap.size (.slice a len cap) L (k+1) w'∧
     w'.heap[w1.heap.size+2]?=V.heap[w1.heap.size+2]?∧w'.heap[w1.heap.size+2+1]?=V.heap[w1.heap.size+2+1]?∧Keeps (w1.heap.size+2+2) V w'):=Lh (fun w2 p2 k2=>by
   have b2:Below w.heap.size w w2:=hbel.trans k2.1
   have hq2:w2.heap[q]?=V.heap[q]?:=by rw[hqo];exact k2.2 q _ hqo (fun e=>by cases e;omega) (fun c fz e=>by cases e)
   refine⟨hV6.stay hq2 k2.1.size,?_⟩
   refine(lpitem_any S w.heap.size w1.heap.size _ (zs++shutP o d) d nm wd bk _ pa pb _ w2 (HE.out.step b2) p2 (hws.keep (fun _ h=>h) (fun j hj=>b2.block j (HS.out j hj))) hpos hright.1 hright.2.2.2.1 hright.2.2.1 ⟨hlight.1,hlight.2.1,hlight.2.2⟩ (by rw[Kq];omega) (by have:=k2.1.size;omega)).mono ?_
   rintro e w3 ⟨rfl,p3,k3⟩
   have k23:=k2.trans k3
   have hsz:=hi.lt
   have e1:(prK L (k+1)).1=if bk then d else min o (d-1):=by rw[hnx];rfl
   have e2:(prK L (k+1)).2=zs++shutP o d++headL d nm wd bk:=by rw[hnx];rfl
   have e3:(((if bk then d else min o (d-1):Nat)):Int)=if bk then(d:Int)else((min o (d-1):Nat):Int):=by cases bk<;>rfl
   have hwl:=words_short wd hright.2.2.2.1 hlight.2.2
   have hhl:(headL d nm wd bk).length≤15000:=by
    have h1:=hlight.1
    have h2:=hright.2.2.1
    have h3:=hright.1
    simp only[It.name,It.words]at h1 h2
    unfold headL
    simp only[Kq,ind_len,nums_length]
    cases bk<;>simp<;>omega
   refine⟨rfl,⟨hbel.trans k23.1,by rw[e1,e2,e3];exact p3,k23.2 _ _ hi.box (fun e=>by injection e with e;omega) (fun c fz e=>by cases e),by rw[e2];simp only[Kq];omega,by rw[e1];cases bk<;>simp<;>omega,fun e=>by omega⟩,?_,?_,k23.keeps (by omega)⟩
   ·rw[show w1.heap.size+2=((w1.alloc (.cells #[.pointer none, .slice none 0 0, .int .i64 0] 144)).alloc (.cells #[.slice a len cap] 34)).heap.size by simp,hxd]
    exact k23.2 _ _ hxd (fun e=>by injection e with e;simp at e;omega) (fun c fz e=>by cases e)
   ·rw[show w1.heap.size+2+1=((w1.alloc (.cells #[.pointer none, .slice none 0 0, .int .i64 0] 144)).alloc (.cells #[.slice a len cap] 34)).heap.size+1 by simp,hxl]
    exact k23.2 _ _ hxl (fun e=>by injection e with e;simp at e;omega) (fun c fz e=>by cases e))
  have HSH:=Lh SH
  obtain⟨wl,hwl⟩: ∃n,wd.length=n:=⟨_,rfl⟩
  obtain⟨kl,hkl⟩: ∃n,kd.length=n:=⟨_,rfl⟩
  simp only[Fl.item,It.name,It.block,It.a,It.b]
  rw[hwl,hkl]at HIT ⊢
  have hn2:1≤3-1-1:=by decide
  clear hlight hright hnx hws hks hmem hbel hpr hzl hozs hsl SH hxd hxl hi hG hV6 hqo hs hwl hkl
  gi_wp2_with (first
   |(refine⟨trivial,?_⟩;gi_at_call 94;refine(CallsIn.inRound _ (callsIn_wide.2 HSH.out)).mono ?_;rintro e w2 ⟨rfl,p2,k2⟩;obtain⟨v2,it2⟩:=HIT.out w2 p2 k2;have HI2:=Lh it2;obtain⟨y0,y1,y2,y3,y4,y5,_,_⟩:=v2;clear p2 k2 it2)
   |(refine⟨trivial,?_⟩;gi_at_call 95;refine(CallsIn.inRound _ (callsIn_wide.2 HI2.out)).mono ?_;rintro e w3 ⟨rfl,q1,q2,q3,q4⟩))
  simp only[World.size_alloc]
  exact⟨q1,q2,q3,q4⟩
 case done=>
  intro V hi hK
  have hpr:=hi.pr
  have hop:=hi.op
  have hzl:=hi.len
  have hBw:=hi.bel.size
  have hall:=HPA.out
  have hfresh:=hi.fresh
  obtain⟨⟨o,zs⟩,hozs⟩: ∃s,prK L m=s:=⟨_,rfl⟩
  rw[hozs]at hpr hop hzl hall
  simp only at hpr hop hzl hall
  have SH:=lshut_any w.heap.size w1.heap.size o zs 1 V hpr (Mz _) hop (by omega) hBw
  rw[hall]at SH
  simp only[World.size_alloc]at hK ⊢
  have hKF:Hid (∀W,KF w.heap.size w1.heap.size V W→W.heap[w1.heap.size+1+1]?=some (.deferred (some []))):=Lh (fun W k=>k.2 _ _ hK (fun e=>by injection e with e;omega) (fun c fz e=>by cases e))
  have HBV:=Lh hi.bel
  by_cases h0:L= []
  ·have hm0:m=0:=by
    have:=HLN.out
    rw[h0]at this
    simpa [flatL] using this.symm
   have hb0:=hfresh hm0
   have ho0:o=0:=by
    have:=congrArg Prod.fst hozs
    rw[h0]at this
    simpa [prK,flatL] using this.symm
   subst ho0
   have HSN:=Lh (lshut_none w1.heap.size 0 1 V hpr.open_.1 (by decide))
   have HST:=Lh (bstrp_none w1.heap.size _ _ V hb0)
   have HP0:Hid (strOfNums (prtL 1 L)=⟨#[]⟩):=Lh (by rw[h0,prtL];rfl)
   have HV:=Lh (KF.of (B:=w.heap.size) (b:=w1.heap.size) (Mj _ V) hBw)
   clear hpr hop hzl hall hfresh hozs SH hK hi hb0
   gi_wp2_with (first
    |(refine⟨trivial,?_⟩;gi_at_call 94;refine(callsIn_wide.2 HSN.out).mono ?_;rintro e w2 ⟨rfl,rfl⟩)
    |(refine⟨trivial,?_⟩;gi_at_call 96;refine(callsIn_wide.2 HST.out).mono ?_;rintro e w3 ⟨rfl,g3⟩;have G3:=Lh g3;clear g3))
   have hK3:=hKF.out _ (KF.of (B:=w.heap.size) (b:=w1.heap.size) G3.out hBw)
   refine⟨by simp, .inl ⟨_,_,rfl,run_takeDeferred hK3,?_⟩⟩
   exact⟨_,results_tmp2 rfl _ _ _,by rw[HP0.out];rfl,below_putObj (HBV.out.trans (G3.out.mono hBw)) (by omega) _⟩
  ·have HSH:=Lh SH
   have HST:Hid (∀W,PrF w.heap.size w1.heap.size ((min o (1-1):Nat):Int) (prtL 1 L) W→Calls Tryz.prog 96 #[.pointer (some ⟨w1.heap.size,0,none⟩)] W fun e w'=>e= .returned (.string (strOfNums (prtL 1 L)))∧KF w.heap.size w1.heap.size W w'):=
    Lh (fun W p=>bstrp_any _ _ _ _ HBY.out (prtL_some h0 1) W p)
   clear hpr hop hzl hall hfresh hozs SH hK hi
   gi_wp2_with (first
    |(refine⟨trivial,?_⟩;gi_at_call 94;refine(callsIn_wide.2 HSH.out).mono ?_;rintro e w2 ⟨rfl,p2,k2⟩;have P2:=Lh p2;have K2:=Lh k2;clear p2 k2)
    |(refine⟨trivial,?_⟩;gi_at_call 96;refine(callsIn_wide.2 (HST.out _ P2.out)).mono ?_;rintro e w3 ⟨rfl,k3⟩;have K3:=Lh (K2.out.trans k3);clear k3))
   have hK3:=hKF.out _ K3.out
   refine⟨by simp, .inl ⟨_,_,rfl,run_takeDeferred hK3,?_⟩⟩
   exact⟨_,results_tmp2 rfl _ _ _,rfl,below_putObj (HBV.out.trans K3.out.1) (by omega) _⟩
 case stop=>
  intro V h _
  exact h.elim
end
end
end Go.Proofs.YtiapmjkaappcfaaGreatDoor
