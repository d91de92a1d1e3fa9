/-
  Package text's calls, walked: all of them.
-/
import Derived.Test.YtalcagmhdppdjaaGreatDoorPkCompileTurns04
import Derived.Lib.QuietBelow
set_option maxRecDepth 100000
set_option maxHeartbeats 8000000
namespace Go.Proofs.YtalcagmhdppdjaaGreatDoor
open Lib renaming hid→Lh
open List renaming getD_eq_getElem?_getD→Mk,getElem?_eq_getElem→Kh,length_append→Kq,length_cons→Jq
open Or renaming inr→Mx,inl→My
section
open Go.RowKit
theorem encs_len (xs:List Int):(xs.flatMap encL).length≤4*xs.length:=by
 induction xs with
 |nil=>simp
 |cons x xs ih=>
  have:=encL_len x
  simp only[List.flatMap_cons,Kq,Jq]
  omega
theorem encs_snoc (xs:List Int) (r:Int):(xs++ [r]).flatMap encL=xs.flatMap encL++encL r:=by simp
theorem encs_byte {xs:List Int} (h: ∀r∈xs,RuneOk r): ∀z∈xs.flatMap encL,0≤z∧z≤255:=by
 intro z hz
 obtain⟨r,hr,hz⟩:=List.mem_flatMap.mp hz
 exact encL_byte (h r hr).1 (h r hr).2.1 z hz
theorem ustep_norm (xs:List Int) (r:Int):ustep (.norm xs) r=if r=34 then .done xs else if r<32∨r=127 then .dead else if r=92 then .esc xs else .norm (xs++ [r]):=rfl
theorem ustep_esc (xs:List Int) (r:Int):ustep (.esc xs) r=if r=34∨r=92 then .norm (xs++ [r])else if r=110 then .norm (xs++ [10])else if r=116 then .norm (xs++ [9])else if r=117 then .uni xs else .dead:=rfl
theorem rwrite_any (B b:Nat) (a n d:Int) (zs:List Int) (r:Int) (hr:RuneOk r) (w:World) (h:RdF B b a n d zs w) (hlen:zs.length+4≤140737488355328) (hBw:B≤w.heap.size):
  Calls Tryz.prog 165 #[.pointer (some ⟨b,0,none⟩), .int .i32 r] w fun e w'=>e= .returned (.tuple #[])∧RdF B b 1 n d (zs++encL r) w'∧KF B b w w':=by
 have hB:=Lh h.hB
 have HW:=Lh (wruner_any B b a n d zs r hr w h hlen hBw)
 clear h hr
 go_enter Tryz.func165,Tryz.ntmps165
 go_wp2_with (go_at_call 164;(with_reducible refine HW.out.mono ?_);rintro e w1 ⟨⟨k,rfl⟩,h1,k1⟩;have H1:=Lh h1;have K1:=Lh k1;have hc:=h1.cells;clear h1 k1;obtain⟨c0,c3,c4,hf⟩:=hc;have f0:=hf 0;clear hf)
 go_end0
 exact⟨rfl,H1.out.put0 1,K1.out.put hB.out _ _⟩
theorem radd_any (B b:Nat) (a n d:Int) (zs:List Int) (g:Int) (n0:0≤n) (n1:n≤1048575) (g0:0≤g) (g1:g≤15) (d0:0≤d) (d1:d≤5) (w:World) (h:RdF B b a n d zs w):
  Calls Tryz.prog 167 #[.pointer (some ⟨b,0,none⟩), .int .i32 g] w fun e w'=>e= .returned (.tuple #[])∧RdF B b a (n*16+g) (d+1) zs w'∧KF B b w w':=by
 have hB:=Lh h.hB
 have hw1:IntKind.i32.wrap (n*16)=n*16:=by rw[IntKind.wrap_i32];omega
 have hw2:IntKind.i32.wrap (n*16+g)=n*16+g:=by rw[IntKind.wrap_i32];omega
 have hw3:IntKind.i64.wrap (d+1)=d+1:=by rw[IntKind.wrap_i64];omega
 have H1:=Lh h
 have hc:=h.cells
 clear h
 obtain⟨c0,c3,c4,hf⟩:=hc
 have f3:=hf 3
 have f4:=hf 4
 have e4:(w.setCell ⟨b,3,none⟩ (.int .i32 (n*16+g))).cell? ⟨b,4,none⟩=some (.int .i64 d):=((H1.out.put3 (n*16+g)).cells).2.2.1
 clear hf
 go_enter Tryz.func167,Tryz.ntmps167
 go_wp2
 go_end0
 exact⟨rfl,(H1.out.put3 _).put4 _,((KF.refl _ _ _).put hB.out _ _).put hB.out _ _⟩
def qxs:Qs→List Int
 | .start=> []| .norm xs=>xs| .esc xs=>xs| .uni xs=>xs| .hex xs _ _=>xs| .done xs=>xs| .dead=> []
def qat:Qs→Int
 | .start=>0| .norm _=>1| .esc _=>2| .uni _=>3| .hex _ _ _=>4| .done _=>5| .dead=>6
def qnum:Qs→Int→Int→Prop
 | .uni _,n,d=>n=0∧d=0
 | .hex _ k x,n,d=>n=x∧d=k∧k≤6∧0≤x∧x<((16^k:Nat):Int)
 |_,_,_=>True
structure RS (B b m:Nat) (u:Qs) (w:World):Prop where
 ok: ∀r∈qxs u,RuneOk r
 len:(qxs u).length≤m
 rd: ∃n d,RdF B b (qat u) n d ((qxs u).flatMap encL) w∧qnum u n d
def TK (B b m:Nat) (u:Qs) (r:Int) (w:World) (e:Ending) (w':World):Prop:=
 KF B b w w'∧((e= .returned (.bool true)∧ustep u r≠ .dead∧RS B b (m+1) (ustep u r) w')∨(e= .returned (.bool false)∧ustep u r= .dead))
theorem TK.no {B b m:Nat} {u:Qs} {r:Int} {w w':World} (h:ustep u r= .dead) (k:KF B b w w'):TK B b m u r w (.returned (.bool false)) w':=⟨k,Mx ⟨rfl,h⟩⟩
theorem TK.yes {B b m:Nat} {u v:Qs} {r:Int} {w w':World} (h:ustep u r=v) (hv:v≠ .dead) (g:RS B b (m+1) v w') (k:KF B b w w'):TK B b m u r w (.returned (.bool true)) w':=⟨k,My ⟨rfl,by rw[h];exact hv,by rw[h];exact g⟩⟩
theorem ok_snoc {xs:List Int} {r:Int} (h: ∀r∈xs,RuneOk r) (hr:RuneOk r): ∀y∈xs++ [r],RuneOk y:=by
 intro y hy
 rcases List.mem_append.mp hy with hy|hy
 ·exact h y hy
 ·obtain rfl:y=r:=by simpa using hy
  exact hr
theorem tbetween_any (B b m:Nat) (xs:List Int) (r:Int) (hr:RuneOk r) (w:World) (h:RS B b m (.norm xs) w) (hm:m≤4294967296) (hBw:B≤w.heap.size):
  Calls Tryz.prog 140 #[.pointer (some ⟨b,0,none⟩), .int .i32 r] w (TK B b m (.norm xs) r w):=by
 obtain⟨hok,hlen,n,d,hrd,_⟩:=h
 have HO:=Lh hok
 have HL:=Lh hlen
 have HR:=Lh hrd
 have hB:=Lh hrd.hB
 have hc:=hrd.cells
 obtain⟨c0,c3,c4,hf⟩:=hc
 have f0:=hf 0
 clear hok hlen hrd hf
 by_cases h34:r=34
 ·subst h34
  go_enter Tryz.func140,Tryz.ntmps140
  go_wp2
  go_ret
  exact TK.yes (v:= .done xs) (by rw[ustep_norm,if_pos rfl]) (by intro e;cases e) ⟨HO.out,Nat.le_succ_of_le HL.out,n,d,HR.out.put0 5,trivial⟩ ((KF.refl _ _ _).put hB.out _ _)
 ·by_cases h92:r=92
  ·subst h92
   go_enter Tryz.func140,Tryz.ntmps140
   go_wp2
   go_ret
   exact TK.yes (v:= .esc xs) (by rw[ustep_norm,if_neg (by decide),if_neg (by decide),if_pos rfl]) (by intro e;cases e) ⟨HO.out,Nat.le_succ_of_le HL.out,n,d,HR.out.put0 2,trivial⟩ ((KF.refl _ _ _).put hB.out _ _)
  ·have e34:(r==34)=false:=by simpa using h34
   have e92:(r==92)=false:=by simpa using h92
   by_cases hp:32≤r∧r≠127
   ·have hpl:plainB r=true:=by unfold plainB;simp[hp.1,hp.2,h34,h92]
    have RP:=Lh (fun w=>tplain_is hpl w)
    have hu:Hid (ustep (.norm xs) r= .norm (xs++ [r])):=by unfold Hid;rw[ustep_norm,if_neg h34,if_neg (by omega),if_neg h92]
    have HW:=Lh (wruner_any B b 1 n d _ r hr w HR.out (by have:=encs_len xs;have:=HL.out;have e:(qxs (.norm xs))=xs:=rfl;rw[e]at this ⊢;omega) hBw)
    have HRr:=Lh hr
    clear hp hpl hr h34 h92
    go_enter Tryz.func140,Tryz.ntmps140
    go_wp2_with (first
     |(go_at_call 163;(with_reducible refine(RP.out _).mono ?_);rintro e w1 ⟨rfl,rfl⟩)
     |(go_at_call 164;(with_reducible refine HW.out.mono ?_);rintro e w1 ⟨⟨k,rfl⟩,h1,k1⟩;have H1:=Lh h1;have K1:=Lh k1;clear h1 k1))
    go_ret
    refine TK.yes hu.out (by intro e;cases e) ⟨ok_snoc HO.out HRr.out,?_,n,d,?_,trivial⟩ K1.out
    ·have:=HL.out
     show(xs++ [r]).length≤m+1
     rw[Kq]
     exact Nat.succ_le_succ this
    ·show RdF B b 1 n d ((xs++ [r]).flatMap encL) w1
     rw[encs_snoc];exact H1.out
   ·have hpl:plainB r=false:=by
     unfold plainB
     simp only[Bool.and_eq_false_iff,decide_eq_false_iff_not]
     by_cases q:32≤r
     ·exact My (My (Mx (fun e=>hp ⟨q,e⟩)))
     ·exact My (My (My q))
    have RP:=Lh (fun w=>tplain_is hpl w)
    have hu:Hid (ustep (.norm xs) r= .dead):=by unfold Hid;rw[ustep_norm,if_neg h34,if_pos (by omega)]
    clear hp hpl hr h34 h92
    go_enter Tryz.func140,Tryz.ntmps140
    go_wp2_with (go_at_call 163;(with_reducible refine(RP.out _).mono ?_);rintro e w1 ⟨rfl,rfl⟩)
    go_ret
    exact TK.no hu.out (KF.refl _ _ _)
theorem RS.wrote {B b m:Nat} {xs:List Int} {r n d:Int} {w:World} (ho: ∀r∈xs,RuneOk r) (hl:xs.length≤m) (hr:RuneOk r) (h:RdF B b 1 n d (xs.flatMap encL++encL r) w):RS B b (m+1) (.norm (xs++ [r])) w:=by
 refine⟨ok_snoc ho hr,?_,n,d,?_,trivial⟩
 ·show(xs++ [r]).length≤m+1
  rw[Kq]
  exact Nat.succ_le_succ hl
 ·show RdF B b 1 n d ((xs++ [r]).flatMap encL) w
  rw[encs_snoc];exact h
theorem ok_low {r:Int} (h0:0≤r) (h1:r≤127):RuneOk r:=⟨h0,by omega,by omega⟩
theorem tescaped_any (B b m:Nat) (xs:List Int) (r:Int) (hr:RuneOk r) (w:World) (h:RS B b m (.esc xs) w) (hm:m≤4294967296) (hBw:B≤w.heap.size):
  Calls Tryz.prog 141 #[.pointer (some ⟨b,0,none⟩), .int .i32 r] w (TK B b m (.esc xs) r w):=by
 obtain⟨hok,hlen,n,d,hrd,_⟩:=h
 have hlen2:xs.length≤m:=hlen
 have HO:=Lh hok
 have HL:=Lh hlen2
 have HR:=Lh hrd
 have hB:=Lh hrd.hB
 have HW:=Lh (fun r hr=>rwrite_any B b 2 n d (xs.flatMap encL) r hr w hrd (by have:=encs_len xs;omega) hBw)
 clear hok hlen hlen2 hrd
 by_cases h34:r=34
 ·subst h34
  go_enter Tryz.func141,Tryz.ntmps141
  go_wp2_with (go_at_call 165;(with_reducible refine(HW.out _ hr).mono ?_);rintro e w1 ⟨rfl,h1,k1⟩;have H1:=Lh h1;have K1:=Lh k1;clear h1 k1)
  go_ret
  exact TK.yes (v:= .norm (xs++ [34])) (by rw[ustep_esc,if_pos (My rfl)]) (by intro e;cases e) (RS.wrote HO.out HL.out hr H1.out) K1.out
 by_cases h92:r=92
 ·subst h92
  go_enter Tryz.func141,Tryz.ntmps141
  go_wp2_with (go_at_call 165;(with_reducible refine(HW.out _ hr).mono ?_);rintro e w1 ⟨rfl,h1,k1⟩;have H1:=Lh h1;have K1:=Lh k1;clear h1 k1)
  go_ret
  exact TK.yes (v:= .norm (xs++ [92])) (by rw[ustep_esc,if_pos (Mx rfl)]) (by intro e;cases e) (RS.wrote HO.out HL.out hr H1.out) K1.out
 by_cases h110:r=110
 ·subst h110
  have h10:=Lh (ok_low (r:=10) (by decide) (by decide))
  go_enter Tryz.func141,Tryz.ntmps141
  go_wp2_with (go_at_call 165;(with_reducible refine(HW.out _ h10.out).mono ?_);rintro e w1 ⟨rfl,h1,k1⟩;have H1:=Lh h1;have K1:=Lh k1;clear h1 k1)
  go_ret
  exact TK.yes (v:= .norm (xs++ [10])) (by rw[ustep_esc,if_neg (by decide),if_pos rfl]) (by intro e;cases e) (RS.wrote HO.out HL.out h10.out H1.out) K1.out
 by_cases h116:r=116
 ·subst h116
  have h9:=Lh (ok_low (r:=9) (by decide) (by decide))
  go_enter Tryz.func141,Tryz.ntmps141
  go_wp2_with (go_at_call 165;(with_reducible refine(HW.out _ h9.out).mono ?_);rintro e w1 ⟨rfl,h1,k1⟩;have H1:=Lh h1;have K1:=Lh k1;clear h1 k1)
  go_ret
  exact TK.yes (v:= .norm (xs++ [9])) (by rw[ustep_esc,if_neg (by decide),if_neg (by decide),if_pos rfl]) (by intro e;cases e) (RS.wrote HO.out HL.out h9.out H1.out) K1.out
 by_cases h117:r=117
 ·subst h117
  have g1:=HR.out.put0 3
  have g2:=g1.put3 0
  have g3:=Lh (g2.put4 0)
  obtain⟨c0,c3,c4,hf⟩:=HR.out.cells
  have f0:=hf 0
  have f3:=hf 3
  have f4:=hf 4
  have d3:=g1.cells.2.1
  have d4:=g2.cells.2.2.1
  clear g1 g2 hf HW
  go_enter Tryz.func141,Tryz.ntmps141
  go_wp2
  go_ret
  exact TK.yes (v:= .uni xs) (by rw[ustep_esc,if_neg (by decide),if_neg (by decide),if_neg (by decide),if_pos rfl]) (by intro e;cases e) ⟨HO.out,Nat.le_succ_of_le HL.out,0,0,g3.out,⟨rfl,rfl⟩⟩ ((((KF.refl _ _ _).put hB.out _ _).put hB.out _ _).put hB.out _ _)
 ·have e1:(r==34)=false:=by simpa using h34
  have e2:(r==92)=false:=by simpa using h92
  have e3:(r==110)=false:=by simpa using h110
  have e4:(r==116)=false:=by simpa using h116
  have e5:(r==117)=false:=by simpa using h117
  have hu:Hid (ustep (.esc xs) r= .dead):=by unfold Hid;rw[ustep_esc,if_neg (by omega),if_neg h110,if_neg h116,if_neg h117]
  clear h34 h92 h110 h116 h117 HW
  go_enter Tryz.func141,Tryz.ntmps141
  go_wp2
  go_ret
  exact TK.no hu.out (KF.refl _ _ _)
theorem pow16 {k:Nat} (h:k<6):((16^k:Nat):Int)≤1048576:=by
 have:k=0∨k=1∨k=2∨k=3∨k=4∨k=5:=by omega
 rcases this with rfl|rfl|rfl|rfl|rfl|rfl<;>decide
theorem pow16_le {k:Nat} (h:k≤6):((16^k:Nat):Int)≤16777216:=by
 have:k=0∨k=1∨k=2∨k=3∨k=4∨k=5∨k=6:=by omega
 rcases this with rfl|rfl|rfl|rfl|rfl|rfl|rfl<;>decide
theorem hexV_low {r:Int} (h:48≤r) (h2:r≤57):hexV r=r-48:=if_pos ⟨h,h2⟩
theorem hexV_let {r:Int} (h:97≤r) (h2:r≤102):hexV r=r-87:=by unfold hexV;rw[if_neg (by omega),if_pos ⟨h,h2⟩]
theorem hexV_no {r:Int} (h: ¬(48≤r∧r≤57)) (h2: ¬(97≤r∧r≤102)):hexV r= -1:=by unfold hexV;rw[if_neg h,if_neg h2]
theorem RS.digit {B b m:Nat} {xs:List Int} {k:Nat} {x g:Int} {w:World} (ho: ∀r∈xs,RuneOk r) (hl:xs.length≤m) (hk:k<6) (x0:0≤x) (x1:x<((16^k:Nat):Int)) (g0:0≤g) (g1:g≤15) (h:RdF B b 4 (x*16+g) ((k:Int)+1) (xs.flatMap encL) w):RS B b (m+1) (.hex xs (k+1) (16*x+g)) w:=by
 refine⟨ho,Nat.le_succ_of_le hl,x*16+g,(k:Int)+1,h,by omega,by omega,by omega,by omega,?_⟩
 rw[Nat.pow_succ]
 omega
theorem tnumber_any (B b m:Nat) (xs:List Int) (k:Nat) (x r:Int) (w:World) (h:RS B b m (.hex xs k x) w) (hm:m≤4294967296) (hBw:B≤w.heap.size):
  Calls Tryz.prog 142 #[.pointer (some ⟨b,0,none⟩), .int .i32 r] w (TK B b m (.hex xs k x) r w):=by
 obtain⟨hok,hlen,n,d,hrd,hn,hd,k6,x0,x1⟩:=h
 subst hn
 subst hd
 have hlen2:xs.length≤m:=hlen
 have HO:=Lh hok
 have HL:=Lh hlen2
 have HR:=Lh hrd
 have hB:=Lh hrd.hB
 have HX:=Lh x1
 have hle:=pow16_le k6
 have xle:n≤16777215:=by omega
 obtain⟨c0,c3,c4,hf⟩:=hrd.cells
 clear hok hlen hlen2 hrd hf x1 hle
 have HV:=Lh (Tryz.utf8_ValidRune n w)
 by_cases h125:r=125
 ·subst h125
  by_cases hk0:k=0
  ·subst hk0
   have hu:Hid (ustep (.hex xs 0 n) 125= .dead):=by
    show(if 0≤hexV 125∧0<6 then Qs.hex xs (0+1) (16*n+hexV 125)else if 125=125∧(0:Nat)≠0∧n≤1114111∧¬(55296≤n∧n<57344)then .norm (xs++ [n])else .dead)= .dead
    rw[if_neg (by decide),if_neg (by omega)]
   clear HV
   go_enter Tryz.func142,Tryz.ntmps142
   go_wp2
   go_ret
   exact TK.no hu.out (KF.refl _ _ _)
  ·have kpos:(0:Int)<(k:Int):=by omega
   have khid:=Lh hk0
   clear hk0
   by_cases hv:n≤1114111∧¬(55296≤n∧n<57344)
   ·have hval:Lib.validRune n=true:=by unfold Lib.validRune;simp;omega
    rw[hval]at HV
    have hr:=Lh (show RuneOk n from⟨x0,hv.1,hv.2⟩)
    have hu:Hid (ustep (.hex xs k n) 125= .norm (xs++ [n])):=by
     show(if 0≤hexV 125∧k<6 then Qs.hex xs (k+1) (16*n+hexV 125)else if 125=125∧k≠0∧n≤1114111∧¬(55296≤n∧n<57344)then .norm (xs++ [n])else .dead)=_
     rw[if_neg (fun e=>absurd e.1 (by decide)),if_pos ⟨rfl,khid.out,hv.1,hv.2⟩]
    have HW:=Lh (rwrite_any B b 4 n k (xs.flatMap encL) n hr.out w HR.out (by have:=encs_len xs;have:=HL.out;omega) hBw)
    clear hv hval
    go_enter Tryz.func142,Tryz.ntmps142
    go_wp2_with (first
     |(go_at_call 166;(with_reducible refine HV.out.mono ?_);rintro e w1 ⟨rfl,rfl⟩)
     |(go_at_call 165;(with_reducible refine HW.out.mono ?_);rintro e w1 ⟨rfl,h1,k1⟩;have H1:=Lh h1;have K1:=Lh k1;clear h1 k1))
    go_ret
    exact TK.yes hu.out (by intro e;cases e) (RS.wrote HO.out HL.out hr.out H1.out) K1.out
   ·have hval:Lib.validRune n=false:=by unfold Lib.validRune;simp;omega
    rw[hval]at HV
    have hu:Hid (ustep (.hex xs k n) 125= .dead):=by
     show(if 0≤hexV 125∧k<6 then Qs.hex xs (k+1) (16*n+hexV 125)else if 125=125∧k≠0∧n≤1114111∧¬(55296≤n∧n<57344)then .norm (xs++ [n])else .dead)=_
     rw[if_neg (fun e=>absurd e.1 (by decide)),if_neg (fun e=>hv e.2.2)]
    clear hv hval
    by_cases k66:k=6
    ·subst k66
     go_enter Tryz.func142,Tryz.ntmps142
     go_wp2_with (go_at_call 166;(with_reducible refine HV.out.mono ?_);rintro e w1 ⟨rfl,rfl⟩)
     go_ret
     exact TK.no hu.out (KF.refl _ _ _)
    ·have e6:((k:Int)==6)=false:=by simp;omega
     clear k66
     go_enter Tryz.func142,Tryz.ntmps142
     go_wp2_with (go_at_call 166;(with_reducible refine HV.out.mono ?_);rintro e w1 ⟨rfl,rfl⟩)
     go_ret
     exact TK.no hu.out (KF.refl _ _ _)
 ·have e125:(r==125)=false:=by simpa using h125
  clear HV
  by_cases k66:k=6
  ·subst k66
   have hu:Hid (ustep (.hex xs 6 n) r= .dead):=by
    show(if 0≤hexV r∧6<6 then Qs.hex xs (6+1) (16*n+hexV r)else if r=125∧(6:Nat)≠0∧n≤1114111∧¬(55296≤n∧n<57344)then .norm (xs++ [n])else .dead)=_
    rw[if_neg (fun e=>absurd e.2 (by decide)),if_neg (fun e=>h125 e.1)]
   clear h125
   go_enter Tryz.func142,Tryz.ntmps142
   go_wp2
   go_ret
   exact TK.no hu.out (KF.refl _ _ _)
  ·have hk:k<6:=by omega
   have e6:((k:Int)==6)=false:=by simp;omega
   have n1:n≤1048575:=by have:=pow16 hk;have:=HX.out;omega
   have HK:=Lh hk
   have HN:=Lh x0
   have HA:=Lh (fun g g0 g1=>radd_any B b 4 n k (xs.flatMap encL) g x0 n1 g0 g1 (by omega) (by omega) w HR.out)
   clear k66 hk
   by_cases hd:48≤r∧r≤57
   ·obtain⟨r0,r1⟩:=hd
    have hu:Hid (ustep (.hex xs k n) r= .hex xs (k+1) (16*n+(r-48))):=by
     show(if 0≤hexV r∧k<6 then Qs.hex xs (k+1) (16*n+hexV r)else _)=_
     rw[hexV_low r0 r1,if_pos ⟨by omega,HK.out⟩]
    have hw:IntKind.i32.wrap (r-48)=r-48:=by rw[IntKind.wrap_i32];omega
    have g0:Hid (0≤r-48):=(by omega:0≤r-48)
    have g1:Hid (r-48≤15):=(by omega:r-48≤15)
    clear h125
    go_enter Tryz.func142,Tryz.ntmps142
    go_wp2_with (go_at_call 167;(with_reducible refine(HA.out _ g0.out g1.out).mono ?_);rintro e w1 ⟨rfl,h1,k1⟩;have H1:=Lh h1;have K1:=Lh k1;clear h1 k1)
    go_ret
    exact TK.yes hu.out (by intro e;cases e) (RS.digit HO.out HL.out HK.out HN.out HX.out g0.out g1.out H1.out) K1.out
   ·by_cases ha:97≤r∧r≤102
    ·obtain⟨r0,r1⟩:=ha
     have hu:Hid (ustep (.hex xs k n) r= .hex xs (k+1) (16*n+(r-97+10))):=by
      show(if 0≤hexV r∧k<6 then Qs.hex xs (k+1) (16*n+hexV r)else _)=_
      rw[hexV_let r0 r1,if_pos ⟨by omega,HK.out⟩]
      congr 1;omega
     have hw:IntKind.i32.wrap (r-97)=r-97:=by rw[IntKind.wrap_i32];omega
     have hw2:IntKind.i32.wrap (r-97+10)=r-97+10:=by rw[IntKind.wrap_i32];omega
     have d57:decide (r≤57)=false:=by simp;omega
     have g0:Hid (0≤r-97+10):=(by omega:0≤r-97+10)
     have g1:Hid (r-97+10≤15):=(by omega:r-97+10≤15)
     clear h125 hd
     go_enter Tryz.func142,Tryz.ntmps142
     go_wp2_with (go_at_call 167;(with_reducible refine(HA.out _ g0.out g1.out).mono ?_);rintro e w1 ⟨rfl,h1,k1⟩;have H1:=Lh h1;have K1:=Lh k1;clear h1 k1)
     go_ret
     exact TK.yes hu.out (by intro e;cases e) (RS.digit HO.out HL.out HK.out HN.out HX.out g0.out g1.out H1.out) K1.out
    ·have hu:Hid (ustep (.hex xs k n) r= .dead):=by
      show(if 0≤hexV r∧k<6 then Qs.hex xs (k+1) (16*n+hexV r)else if r=125∧k≠0∧n≤1114111∧¬(55296≤n∧n<57344)then .norm (xs++ [n])else .dead)=_
      rw[hexV_no hd ha,if_neg (fun e=>absurd e.1 (by decide)),if_neg (fun e=>h125 e.1)]
     clear HA h125
     have hcs:r<48∨(57<r∧r<97)∨102<r:=by omega
     clear hd ha
     rcases hcs with q|⟨q,q2⟩|q
     ·have d1:decide (r≥48)=false:=by simp;omega
      have d2:decide (r≥97)=false:=by simp;omega
      clear q
      go_enter Tryz.func142,Tryz.ntmps142
      go_wp2
      go_ret
      exact TK.no hu.out (KF.refl _ _ _)
     ·have d0:decide (r≥48)=true:=by simp;omega
      have d1:decide (r≤57)=false:=by simp;omega
      have d2:decide (r≥97)=false:=by simp;omega
      clear q q2
      go_enter Tryz.func142,Tryz.ntmps142
      go_wp2
      go_ret
      exact TK.no hu.out (KF.refl _ _ _)
     ·have d0:decide (r≥48)=true:=by simp;omega
      have d1:decide (r≤57)=false:=by simp;omega
      have d2:decide (r≥97)=true:=by simp;omega
      have d3:decide (r≤102)=false:=by simp;omega
      clear q
      go_enter Tryz.func142,Tryz.ntmps142
      go_wp2
      go_ret
      exact TK.no hu.out (KF.refl _ _ _)
end
section
open Go.RowKit
theorem RS.iterAt {B b m:Nat} {u:Qs} {w:World} (h:RS B b m u w) {k:Nat} {s:ByteArray} {pos:Nat} (hk:w.heap[k]?=some (.stringIter s pos)) (pos':Nat):RS B b m u (w.iterAt k s pos'):=by
 obtain⟨ho,hl,n,d,hr,hn⟩:=h
 exact⟨ho,hl,n,d,hr.iterAt hk pos',hn⟩
theorem RdF.below {B b:Nat} {a n d:Int} {zs:List Int} {w w':World} (h:RdF B b a n d zs w) (g:Below w.heap.size w w'):RdF B b a n d zs w':=by
 have hlt:=h.lt
 obtain⟨hB,p,v,hp,hb,ho,hn,h0⟩:=h
 refine⟨hB,p,v,hp,(g.block _ hlt).trans hb,⟨ho.1,?_⟩,hn,h0⟩
 rcases ho.2 with hx|⟨x,cap,cur,fz,hv,hbg,hg,rest⟩
 ·exact My hx
 ·exact Mx ⟨x,cap,cur,fz,hv,hbg,(g.block _ (Array.getElem?_eq_some_iff.1 hg).1).trans hg,rest⟩
theorem RS.at {B b m:Nat} {u:Qs} {w:World} (h:RS B b m u w):w.cell? ⟨b,0,none⟩=some (.int .i64 (qat u)):=by
 obtain⟨_,_,n,d,hr,_⟩:=h
 exact hr.cells.1
theorem ttake_any (B b m:Nat) (u:Qs) (hu:u≠ .dead) (r:Int) (hr:RuneOk r) (w:World) (h:RS B b m u w) (hm:m≤4294967296) (hBw:B≤w.heap.size):
  Calls Tryz.prog 126 #[.pointer (some ⟨b,0,none⟩), .int .i32 r] w (TK B b m u r w):=by
 have c0:=h.at
 cases u with
 |dead=>exact(hu rfl).elim
 |start=>
  clear hu
  obtain⟨_,_,n,d,hrd,_⟩:=h
  have HR:=Lh hrd
  have hB:=Lh hrd.hB
  have f0:=hrd.cells.2.2.2 0
  clear hrd
  change w.cell? ⟨b,0,none⟩=some (.int .i64 0)at c0
  by_cases h34:r=34
  ·subst h34
   go_enter Tryz.func126,Tryz.ntmps126
   go_wp2
   go_ret
   exact TK.yes (v:= .norm []) rfl (by intro e;cases e) ⟨fun r hr=>(by cases hr),Nat.zero_le _,n,d,HR.out.put0 1,trivial⟩ ((KF.refl _ _ _).put hB.out _ _)
  ·have e34:(r==34)=false:=by simpa using h34
   have hd:Hid (ustep .start r= .dead):=if_neg h34
   clear h34
   go_enter Tryz.func126,Tryz.ntmps126
   go_wp2
   go_ret
   exact TK.no hd.out ((KF.refl _ _ _).put hB.out _ _)
 |norm xs=>
  have HT:=Lh (tbetween_any B b m xs r hr w h hm hBw)
  clear hu h hr
  change w.cell? ⟨b,0,none⟩=some (.int .i64 1)at c0
  go_enter Tryz.func126,Tryz.ntmps126
  go_wp2_with (go_at_call 140;(with_reducible refine HT.out.mono ?_);rintro e w1 ⟨k1,⟨rfl,h1,g1⟩|⟨rfl,h1⟩⟩<;>(have K1:=Lh k1;have H1:=Lh h1;clear k1 h1))
  ·have G1:=Lh g1
   clear g1
   go_wp2
   go_ret
   exact⟨K1.out,My ⟨rfl,H1.out,G1.out⟩⟩
  ·go_wp2
   go_ret
   exact⟨K1.out,Mx ⟨rfl,H1.out⟩⟩
 |esc xs=>
  have HT:=Lh (tescaped_any B b m xs r hr w h hm hBw)
  clear hu h hr
  change w.cell? ⟨b,0,none⟩=some (.int .i64 2)at c0
  go_enter Tryz.func126,Tryz.ntmps126
  go_wp2_with (go_at_call 141;(with_reducible refine HT.out.mono ?_);rintro e w1 ⟨k1,⟨rfl,h1,g1⟩|⟨rfl,h1⟩⟩<;>(have K1:=Lh k1;have H1:=Lh h1;clear k1 h1))
  ·have G1:=Lh g1
   clear g1
   go_wp2
   go_ret
   exact⟨K1.out,My ⟨rfl,H1.out,G1.out⟩⟩
  ·go_wp2
   go_ret
   exact⟨K1.out,Mx ⟨rfl,H1.out⟩⟩
 |uni xs=>
  obtain⟨ho,hl,n,d,hrd,hn,hd⟩:=h
  subst hn
  subst hd
  have HO:=Lh ho
  have HL:=Lh hl
  have HR:=Lh hrd
  have hB:=Lh hrd.hB
  have f0:=hrd.cells.2.2.2 0
  clear hrd ho hl hu
  change w.cell? ⟨b,0,none⟩=some (.int .i64 3)at c0
  by_cases h123:r=123
  ·subst h123
   go_enter Tryz.func126,Tryz.ntmps126
   go_wp2
   go_ret
   exact TK.yes (v:= .hex xs 0 0) rfl (by intro e;cases e) ⟨HO.out,Nat.le_succ_of_le HL.out,0,0,HR.out.put0 4,rfl,rfl,by omega,by omega,by decide⟩ ((KF.refl _ _ _).put hB.out _ _)
  ·have e123:(r==123)=false:=by simpa using h123
   have hd:Hid (ustep (.uni xs) r= .dead):=if_neg h123
   clear h123
   go_enter Tryz.func126,Tryz.ntmps126
   go_wp2
   go_ret
   exact TK.no hd.out ((KF.refl _ _ _).put hB.out _ _)
 |hex xs k x=>
  have HT:=Lh (tnumber_any B b m xs k x r w h hm hBw)
  clear hu h hr
  change w.cell? ⟨b,0,none⟩=some (.int .i64 4)at c0
  go_enter Tryz.func126,Tryz.ntmps126
  go_wp2_with (go_at_call 142;(with_reducible refine HT.out.mono ?_);rintro e w1 ⟨k1,⟨rfl,h1,g1⟩|⟨rfl,h1⟩⟩<;>(have K1:=Lh k1;have H1:=Lh h1;clear k1 h1))
  ·have G1:=Lh g1
   clear g1
   go_wp2
   go_ret
   exact⟨K1.out,My ⟨rfl,H1.out,G1.out⟩⟩
  ·go_wp2
   go_ret
   exact⟨K1.out,Mx ⟨rfl,H1.out⟩⟩
 |done xs=>
  clear hu h
  change w.cell? ⟨b,0,none⟩=some (.int .i64 5)at c0
  go_enter Tryz.func126,Tryz.ntmps126
  go_wp2
  go_ret
  exact TK.no rfl (KF.refl _ _ _)
theorem runes_encs {xs:List Int} (h: ∀r∈xs,RuneOk r):runesOf (xs.flatMap encL)=xs:=by
 induction xs with
 |nil=>exact runes_nil
 |cons x xs ih=>
  rw[List.flatMap_cons,runes_enc (h x (by simp)),ih (fun r hr=>h r (by simp[hr]))]
theorem qat_five {u:Qs} (h: ∀xs,u≠ .done xs):(qat u !=5)=true:=by
 cases u with
 |done xs=>exact(h xs rfl).elim
 |_=>rfl
theorem tunq_any (s:ByteArray) (w:World) (env:Env w) (hm:s.size≤4294967296):Calls Tryz.prog 108 #[.string s] w (GivesUnq (runesOf (nums s)) w):=by
 have hlen:Hid ((nums s).length=s.size):=nums_length s
 by_cases hg:GoodL (runesOf (nums s))
 case neg=>
  have RG:=Lh (tgood_no env hm hg)
  have hbad:=Lh (NoQ.bad hg)
  clear hg
  go_enter Tryz.func108,Tryz.ntmps108
  go_wp2_with (go_at_call 119;(with_reducible refine RG.out.mono ?_);rintro e w1 ⟨rfl,g⟩;have G:=Lh g;clear g)
  go_ret2
  exact GivesUnq.word hbad.out G.out
 case pos=>
  have RG:=Lh (tgood_yes env hm hg)
  have HOK:=Lh (good_ok hg)
  have hll:=runes_len (nums s)
  rw[hlen.out]at hll
  clear hg
  obtain⟨l,hl⟩: ∃l,runesOf (nums s)=l:=⟨_,rfl⟩
  rw[hl]at HOK hll ⊢
  have HL:=Lh hl
  have HLL:=Lh hll
  have HE:=Lh env
  clear hl hll env
  go_enter Tryz.func108,Tryz.ntmps108
  go_wp2_with (go_at_call 119;(with_reducible refine RG.out.mono ?_);rintro e w1 ⟨rfl,g⟩;have G:=Lh g;clear g)
  obtain⟨B,hBd⟩: ∃B,w.heap.size=B:=⟨_,rfl⟩
  obtain⟨b,hbd⟩: ∃b,w1.heap.size=b:=⟨_,rfl⟩
  have hBb:B≤b:=by have:=G.out.size;omega
  have N1:=RdF.new w1 B b hbd.symm hBb
  have B1:Below B w (w1.alloc (.cells #[.int .i64 0, .pointer none, .slice none 0 0, .int .i32 0, .int .i64 0] 190)):=by rw[←hBd];exact below_more G.out _
  have S1:(w1.alloc (.cells #[.int .i64 0, .pointer none, .slice none 0 0, .int .i32 0, .int .i64 0] 190)).heap.size=b+1:=by rw[←hbd];simp
  rw[hbd]
  generalize w1.alloc (.cells #[.int .i64 0, .pointer none, .slice none 0 0, .int .i32 0, .int .i64 0] 190)=w2 at N1 B1 S1 ⊢
  have N2:=Lh (N1.alloc (.stringIter s 0))
  have B2:Hid (Below B w (w2.iter s 0)):=B1.alloc (by omega) _
  have I2:Hid ((w2.iter s 0).heap[b+1]?=some (.stringIter s 0)):=by have:=World.iter_heap w2 s 0;rw[S1]at this;exact this
  change Hid (RdF B b 0 0 0 [] (w2.iter s 0))at N2
  generalize w2.iter s 0=w3 at N2 B2 I2 ⊢
  have HBb:=Lh hBb
  have HBd:=Lh hBd
  clear N1 B1 S1 hBb hBd hbd G
  obtain⟨I,hI⟩: ∃I,b+1=I:=⟨_,rfl⟩
  rw[hI]at I2 ⊢
  have hIb:Hid (I≠b):=(by omega:I≠b)
  have hBI:Hid (B≤I):=by have:=HBb.out;unfold Hid;omega
  clear hI
  go_loopw [] (fun wr=> ∃(pos i:Nat) (u:Qs),u≠ .dead∧pos≤s.size∧rfrom (nums s) pos=l.drop i∧i≤l.length∧ut l i=u∧RS B b i u wr∧wr.heap[I]?=some (.stringIter s pos)∧Below B w wr) (fun wr=>s.size-wr.iterPos I)
  case atStart=>exact⟨0,0, .start,(by intro e;cases e),Nat.zero_le _,HL.out,Nat.zero_le _,rfl,⟨fun r hr=>(by cases hr),Nat.zero_le _,0,0,N2.out,trivial⟩,I2.out,B2.out⟩
  case round=>
   obtain⟨pos,i,u,hu,hp,hr,hil,hut,hS,hk,hb⟩:=hrel
   have HU:=Lh hu
   have HUT:=Lh hut
   have HR:=Lh hr
   have HB0:=Lh hb
   clear hu hut hr hb
   by_cases h1:pos<s.size
   ·obtain⟨y,hnx,y0,y1,ht⟩:=txt_rune wr I s pos hk h1
    have hR:rfrom (nums s) pos=runeA (nums s) pos::rfrom (nums s) (pos+widA (nums s) pos):=rfrom_in (by rw[hlen.out];exact h1)
    obtain⟨hi0,hz,hr2⟩:=drop_cons (HR.out.symm.trans hR)
    have hmem:l.getD i 0∈l:=by rw[Mk,Kh hi0];exact List.getElem_mem hi0
    have hok:RuneOk y:=by
     rcases ht with⟨e1,_⟩|⟨_,e2⟩
     ·have:=(HOK.out _ hmem).1;rw[hz,e1]at this;omega
     ·rw[e2,←hz];exact HOK.out _ hmem
    have hzy:l.getD i 0=y:=by
     rcases ht with⟨e1,_⟩|⟨_,e2⟩
     ·have:=(HOK.out _ hmem).1;rw[hz,e1]at this;omega
     ·rw[e2,←hz]
    have HZ:=Lh hzy
    have HRO:=Lh hok
    have HR2:=Lh hr2.symm
    have hwid:=Lh (widA_pos (nums s) pos)
    have hwin:=Lh (widA_in (zs:=nums s) (i:=pos) (by rw[hlen.out];exact h1))
    have HB:=Lh (Lib.below_iterAt HB0.out hBI.out s (pos+widA (nums s) pos))
    have hk2:=Lh (Lib.iterAt_heap wr I s pos (pos+widA (nums s) pos) hk)
    have hk0:=Lh hk
    have HS:=Lh (hS.iterAt hk (pos+widA (nums s) pos))
    have hi:Hid (i<l.length):=hi0
    clear ht hz hr2 hR hi0 hk hS hzy hok hmem
    obtain⟨p2,hp2⟩: ∃p,pos+widA (nums s) pos=p:=⟨_,rfl⟩
    rw[hp2]at hnx HB hk2 HR2 hwin HS
    have hlt:Hid (pos<p2):=by have:=hwid.out;unfold Hid;omega
    have hle:Hid (p2≤s.size):=by have:=hwin.out;rw[hlen.out]at this;exact this
    clear hp2 hwid hwin
    generalize wr.iterAt I s p2=W1 at hnx HB hk2 HS
    have HT:=Lh (ttake_any B b i u HU.out y HRO.out W1 HS.out (by have:=HLL.out;omega) (by have:=HB.out.size;have:=HBd.out;omega))
    have hnext:=Lh (ut_next HUT.out hi.out HZ.out)
    go_wp2_with (go_at_call 126;(with_reducible refine HT.out.mono ?_);rintro e w4 ⟨k1,⟨rfl,h1',g1⟩|⟨rfl,h1'⟩⟩<;>(have K1:=Lh k1;have H1:=Lh h1';clear k1 h1'))
    ·have G1:=Lh g1
     clear g1
     have hk4:=Lh (Lib.OthersKept.iter K1.out.2 hk2.out hIb.out)
     go_wp2
     go_roundw
     case rel=>exact⟨p2,i+1,ustep u y,H1.out,hle.out,HR2.out,hi.out,hnext.out,G1.out,hk4.out,HB.out.trans K1.out.1⟩
     case measure=>rw[iterPos_of hk4.out,iterPos_of hk0.out];have:=hlt.out;have:=hle.out;omega
    ·go_wp2
     go_ret2
     exact GivesUnq.word (NoQ.dead (hnext.out.trans H1.out)) (HBd.out▸HB.out.trans K1.out.1)
   ·have hend:i=l.length:=by
     have h5:=HR.out
     rw[rfrom_out (by rw[hlen.out];exact h1)]at h5
     have h6:=congrArg List.length h5
     rw[List.length_drop]at h6
     simp at h6;omega
    have hnx:=fun ty=>Lib.run_next_end_at (P:=Tryz.prog) wr I s pos ty hk h1
    have c0:=hS.at
    by_cases hdone: ∃xs,u= .done xs
    ·obtain⟨xs,rfl⟩:=hdone
     have hfin:Hid (uf l= .done xs):=by rw[←ut_all,←hend];exact HUT.out
     obtain⟨ho,hlx,n,d,hrd,_⟩:=hS
     change (∀r∈xs,RuneOk r)at ho
     change xs.length≤i at hlx
     change RdF B b 5 n d (xs.flatMap encL) wr at hrd
     change wr.cell? ⟨b,0,none⟩=some (.int .i64 5)at c0
     have hbyte:=encs_byte ho
     have HST:=Lh (fun w' (h:RdF B b 5 n d (xs.flatMap encL) w') (g:Below B w w')=>bstrr_any B b 5 n d (xs.flatMap encL) hbyte w' h (by have:=g.size;have:=HBd.out;omega))
     have hsz:(strOfNums (xs.flatMap encL)).size≤1099511627776:=by rw[str_size];have:=encs_len xs;have:=HLL.out;omega
     have HC:=Lh (fun w'=>tcount_big (strOfNums (xs.flatMap encL)) w' hsz)
     rw[nums_strOfNums _ hbyte,runes_encs ho]at HC
     have HRD:=Lh hrd
     clear hsz hbyte hrd hk hend ho hlx
     by_cases h120:120<xs.length
     ·have h120z:Hid (120<xs.length):=h120
      have h120i:(120:Int)<(xs.length:Int):=by omega
      clear h120
      go_wp2_with (first
       |(go_at_call 127;(with_reducible refine(HST.out _ HRD.out HB0.out).mono ?_);rintro e w4 ⟨rfl,h4,k4⟩;have H4:=Lh h4;have K4:=Lh k4;clear h4 k4)
       |(go_at_call 120;(with_reducible refine(HC.out _).mono ?_);rintro e w5 ⟨rfl,g5⟩;have G5:=Lh g5;clear g5))
      go_ret2
      exact GivesUnq.long hfin.out h120z.out (HBd.out▸(HB0.out.trans K4.out.1).trans (G5.out.mono (by have:=(HB0.out.trans K4.out.1).size;have:=HBd.out;omega)))
     ·have h120z:Hid (xs.length≤120):=(by omega:xs.length≤120)
      have h120i: ¬(120:Int)<(xs.length:Int):=by omega
      clear h120
      go_wp2_with (first
       |(go_at_call 127;(with_reducible refine(HST.out _ HRD.out HB0.out).mono ?_);rintro e w4 ⟨rfl,h4,k4⟩;have H4:=Lh h4;have K4:=Lh k4;have B4:=Lh (HB0.out.trans K4.out.1);clear h4 k4 HRD)
       |(go_at_call 120;(with_reducible refine(HC.out _).mono ?_);rintro e w5 ⟨rfl,g5⟩;have H5:=Lh (H4.out.below g5);have B5:=Lh (B4.out.trans (g5.mono (by have:=B4.out.size;have:=HBd.out;omega)));clear g5 H4 B4 K4)
       |(go_at_call 127;(with_reducible refine(HST.out _ H5.out B5.out).mono ?_);rintro e w6 ⟨rfl,h6,k6⟩;have B6:=Lh (B5.out.trans k6.1);clear h6 k6))
      go_ret2
      exact GivesUnq.fine hfin.out h120z.out (HBd.out▸B6.out)
    ·have hno:Hid (NoQ l):=NoQ.over HUT.out hend (fun xs e=>hdone ⟨xs,e⟩)
     have hne:=qat_five (u:=u) (fun xs e=>hdone ⟨xs,e⟩)
     generalize qat u=q at c0 hne
     clear hdone hend hk hS
     go_wp2
     go_ret2
     exact GivesUnq.word hno.out (HBd.out▸HB0.out)
end
section
open Go.RowKit
structure HxM (w wr:World) (b f:Nat) (xs:List Int):Prop where
 row: ∀i,i<65→∃v,wr.cell? ⟨b,i,none⟩=some v
 free: ∀i,i<65→wr.frozen? ⟨b,i,none⟩=false
 got: ∀i,i<xs.length→wr.cell? ⟨b,f+i,none⟩=some (.int .u8 (xs.getD i 0))
 bel:Below w.heap.size w wr
 new:w.heap.size≤b
end
section
open Go.RowKit
end
section
theorem runes_ok {zs:List Int} (hb: ∀z∈zs,0≤z∧z≤255):RunesOk (runesOf zs):=by
 have key: ∀n i,zs.length-i≤n→RunesOk (rfrom zs i):=by
  intro n
  induction n with
  |zero=>intro i hi r hr;rw[rfrom_out (by omega)]at hr;cases hr
  |succ n ih=>
   intro i hi r hr
   by_cases h:i<zs.length
   ·rw[rfrom_in h,List.mem_cons]at hr
    rcases hr with rfl|hr
    ·have h0:0≤zs.getD i 0:=by
      rw[Mk,Kh h]
      exact(hb _ (List.getElem_mem h)).1
     have h1:=runeA_le zs i h0
     by_cases h2:0≤runeA zs i
     ·exact Mx (enc_back h hb h2).1
     ·exact My (by omega)
    ·have h1:=widA_pos zs i
     exact ih (i+widA zs i) (by omega) r hr
   ·rw[rfrom_out h]at hr;cases hr
 exact key zs.length 0 (by omega)
def lineEnd (l:List Int) (i:Nat):Nat:=i+((l.drop i).takeWhile (fun z=>decide (z≠10))).length
theorem lineEnd_bd {l:List Int} {i:Nat} (h:i≤l.length):i≤lineEnd l i∧lineEnd l i≤l.length:=by
 unfold lineEnd
 have:=(List.takeWhile_prefix (l:=l.drop i) (fun z=>decide (z≠10))).length_le
 rw[List.length_drop]at this
 omega
theorem lineEnd_in {l:List Int} {i j:Nat} (hij:i≤j) (hj:j<lineEnd l i):l.getD j 0≠10:=by
 unfold lineEnd at hj
 have hp:=List.takeWhile_prefix (l:=l.drop i) (fun z=>decide (z≠10))
 have hk2:j-i<((l.drop i).takeWhile (fun z=>decide (z≠10))).length:=by omega
 have e:=hp.getElem hk2
 have hm:((l.drop i).takeWhile (fun z=>decide (z≠10)))[j-i]∈(l.drop i).takeWhile (fun z=>decide (z≠10)):=List.getElem_mem hk2
 have hall:=List.all_takeWhile (l:=l.drop i) (p:=fun z=>decide (z≠10))
 have hw:=List.all_eq_true.mp hall _ hm
 rw[e]at hw
 have hlen:=hp.length_le
 have hkl:j-i<(l.drop i).length:=by omega
 rw[List.length_drop]at hkl
 rw[List.getElem_drop]at hw
 rw[Mk,Kh (by omega)]
 have h2:l[i+(j-i)]'(by omega)≠10:=of_decide_eq_true hw
 have e2:i+(j-i)=j:=by omega
 intro h3
 apply h2
 simp only[e2]
 exact h3
theorem lineEnd_out {l:List Int} {i:Nat} (h:lineEnd l i<l.length):l.getD (lineEnd l i) 0=10:=by
 unfold lineEnd at h ⊢
 have:=takeWhile_stop (p:=fun z=>decide (z≠10)) (l.drop i) (by rw[List.length_drop];omega)
 rw[Mk,List.getElem?_drop]at this
 rw[Mk]
 have h2:=of_decide_eq_false this
 exact Decidable.not_not.mp h2
theorem lineEnd_one {l:List Int} {i:Nat} (h:i<l.length) (e:l.getD i 0≠10):i<lineEnd l i:=by
 unfold lineEnd
 rw[sdrop_cons h,List.takeWhile_cons_of_pos (by simpa using e),Jq]
 omega
def gapB (z:Int):Bool:=z==32||z==9||z==10
noncomputable def tokF (l:List Int) (i:Nat):Except (Nat×Int) (List (TkV×Nat)):=
 if h:i<l.length then
  (if gapB (l.getD i 0)then tokF l (i+1)
  else if _h2:l.getD i 0=35 then tokF l (lineEnd l i)
  else if(oneF l i).2.2=0 then(if _hn:i<(oneF l i).2.1 then(tokF l (oneF l i).2.1).map (fun L=>((oneF l i).1,i)::L)else .ok [])
  else .error (i,(oneF l i).2.2))
 else .ok []
termination_by l.length-i
decreasing_by
 ·omega
 ·have:=lineEnd_one h (by omega);omega
 ·omega
theorem tokF_end {l:List Int} {i:Nat} (h:l.length≤i):tokF l i= .ok []:=by rw[tokF,dif_neg (by omega)]
theorem tokF_gap {l:List Int} {i:Nat} (h:i<l.length) (e:gapB (l.getD i 0)=true):tokF l i=tokF l (i+1):=by rw[tokF,dif_pos h,if_pos e]
theorem tokF_note {l:List Int} {i:Nat} (h:i<l.length) (e:l.getD i 0=35):tokF l i=tokF l (lineEnd l i):=by
 rw[tokF,dif_pos h,if_neg (by rw[e];decide),dif_pos e]
theorem tokF_bad {l:List Int} {i:Nat} (h:i<l.length) (e1:gapB (l.getD i 0)=false) (e2:l.getD i 0≠35) (e3:(oneF l i).2.2≠0):tokF l i= .error (i,(oneF l i).2.2):=by
 rw[tokF,dif_pos h,if_neg (by rw[e1];decide),dif_neg e2,if_neg e3]
theorem tokF_one {l:List Int} {i:Nat} (h:i<l.length) (e1:gapB (l.getD i 0)=false) (e2:l.getD i 0≠35) (e3:(oneF l i).2.2=0) (hn:i<(oneF l i).2.1):tokF l i=(tokF l (oneF l i).2.1).map (fun L=>((oneF l i).1,i)::L):=by
 rw[tokF,dif_pos h,if_neg (by rw[e1];decide),dif_neg e2,if_pos e3,dif_pos hn]
theorem oneF_next {l:List Int} {i:Nat} (h:i<l.length) (e:(oneF l i).2.2=0):i<(oneF l i).2.1∧(oneF l i).2.1≤l.length:=by
 unfold oneF at e ⊢
 split
 ·exact⟨Nat.lt_succ_self _,h⟩
 ·rename_i n1
  rw[if_neg n1]at e
  split
  ·exact⟨Nat.lt_succ_self _,h⟩
  ·rename_i n2
   rw[if_neg n2]at e
   split
   ·exact⟨Nat.lt_succ_self _,h⟩
   ·rename_i n3
    rw[if_neg n3]at e
    split
    ·rename_i n4
     rw[if_pos n4]at e
     split
     ·rename_i n5
      rw[if_pos n5]at e
      cases e
     ·rename_i n5
      have:=qF_bd _ (l.drop (i+1)) (i+1) (Nat.le_refl _)
      rw[List.length_drop]at this
      show i<qF (l.drop (i+1)) (i+1)∧qF (l.drop (i+1)) (i+1)≤l.length
      omega
    ·rename_i n4
     rw[if_neg n4]at e
     split
     ·rename_i n5
      rw[if_pos n5]at e
      cases e
     ·rename_i n5
      have hw:withinB (l.getD i 0)=true:=by
       cases hx:withinB (l.getD i 0)with
       |true=>rfl
       |false=>exact(n5 hx).elim
      exact⟨wordEnd_one h hw,(wordEnd_bd (Nat.le_of_lt h)).2⟩
end
section
theorem rune_high {zs:List Int} {i:Nat} (h: ¬zs.getD i 0<128):runeA zs i= -1∨128≤runeA zs i:=by
 cases hw:wholeB zs i with
 |false=>exact My (runeA_bad h hw).1
 |true=>
  refine Mx ?_
  rw[(runeA_good h hw).1]
  unfold wholeB at hw
  simp only[Bool.and_eq_true,decide_eq_true_eq]at hw
  have h3:=hw.1.1.2
  have h4:=hw.1.1.1.1
  have h5:128≤clsL (zs.getD i 0):=by
   unfold clsN at h4
   unfold clsL
   split at h4
   ·rename_i h6;rw[if_pos h6];omega
   ·rename_i h6
    rw[if_neg h6]
    split at h4
    ·rename_i h7;rw[if_pos h7];omega
    ·rename_i h7
     rw[if_neg h7]
     split at h4
     ·rename_i h8;rw[if_pos h8];omega
     ·cases h4
  omega
theorem first_is {zs:List Int} (h:zs≠ []) (hb: ∀z∈zs,0≤z∧z≤255):0<(runesOf zs).length∧((0≤zs.getD 0 0∧zs.getD 0 0<128∧(runesOf zs).getD 0 0=zs.getD 0 0)∨(128≤zs.getD 0 0∧((runesOf zs).getD 0 0= -1∨128≤(runesOf zs).getD 0 0))):=by
 have h0:0<zs.length:=List.length_pos_iff.mpr h
 have e:runesOf zs=runeA zs 0::rfrom zs (0+widA zs 0):=rfrom_in h0
 have hz:=hb (zs.getD 0 0) (by rw[Mk,Kh h0];exact List.getElem_mem h0)
 have e2:(runesOf zs).getD 0 0=runeA zs 0:=by rw[e];rfl
 refine⟨by rw[e];simp,?_⟩
 rw[e2]
 by_cases hl:zs.getD 0 0<128
 ·exact My ⟨hz.1,hl,(runeA_low hl).1⟩
 ·exact Mx ⟨by omega,rune_high hl⟩
def qEnd:Bool→List Int→Nat
 |_,[]=>0
 |tk,r::t=>if r=10 then 0 else if tk=true then qEnd false t+1 else if r=92 then qEnd true t+1 else if r=34 then 1 else qEnd false t+1
theorem qEnd_le: ∀(tk:Bool) (m:List Int),qEnd tk m≤m.length
 |_,[]=>Nat.le_refl _
 |tk,r::t=>by
  have h1:=qEnd_le false t
  have h2:=qEnd_le true t
  simp only[qEnd,Jq]
  split
  ·omega
  split
  ·omega
  split
  ·omega
  split<;>omega
def Calm (u:Qs):Prop:=(∀xs,u≠ .done xs)∧∀xs,u≠ .esc xs
theorem calm_dead:Calm .dead:=⟨fun _ e=>(by cases e),fun _ e=>(by cases e)⟩
theorem calm_norm (xs:List Int):Calm (.norm xs):=⟨fun _ e=>(by cases e),fun _ e=>(by cases e)⟩
theorem calm_uni (xs:List Int):Calm (.uni xs):=⟨fun _ e=>(by cases e),fun _ e=>(by cases e)⟩
theorem calm_hex (xs:List Int) (k:Nat) (x:Int):Calm (.hex xs k x):=⟨fun _ e=>(by cases e),fun _ e=>(by cases e)⟩
theorem calm_step {u:Qs} (h:Calm u) {r:Int} (h1:r≠34) (h2:r≠92):Calm (ustep u r):=by
 cases u with
 |start=>show Calm (if r=34 then .norm []else .dead);rw[if_neg h1];exact calm_dead
 |norm xs=>
  show Calm (if r=34 then Qs.done xs else if r<32∨r=127 then .dead else if r=92 then .esc xs else .norm (xs++ [r]))
  rw[if_neg h1]
  split
  ·exact calm_dead
  ·first|exact calm_norm _|(rw[if_neg h2];exact calm_norm _)
 |esc xs=>exact(h.2 xs rfl).elim
 |uni xs=>
  show Calm (if r=123 then Qs.hex xs 0 0 else .dead)
  split
  ·exact calm_hex _ _ _
  ·exact calm_dead
 |hex xs k x=>
  show Calm (if 0≤hexV r∧k<6 then Qs.hex xs (k+1) (16*x+hexV r)else if r=125∧k≠0∧x≤1114111∧¬(55296≤x∧x<57344)then .norm (xs++ [x])else .dead)
  split
  ·exact calm_hex _ _ _
  ·split
   ·exact calm_norm _
   ·exact calm_dead
 |done xs=>exact(h.1 xs rfl).elim
 |dead=>exact calm_dead
theorem calm_back {u:Qs} (h:Calm u):ustep u 92= .dead∨∃xs,ustep u 92= .esc xs:=by
 cases u with
 |start=>exact My rfl
 |norm xs=>exact Mx ⟨xs,rfl⟩
 |esc xs=>exact(h.2 xs rfl).elim
 |uni xs=>exact My rfl
 |hex xs k x=>
  refine My ?_
  show(if 0≤hexV 92∧k<6 then Qs.hex xs (k+1) (16*x+hexV 92)else if(92:Int)=125∧k≠0∧x≤1114111∧¬(55296≤x∧x<57344)then .norm (xs++ [x])else .dead)= .dead
  rw[if_neg (by have:hexV 92= -1:=rfl;omega),if_neg (by omega)]
 |done xs=>exact(h.1 xs rfl).elim
 |dead=>exact My rfl
theorem calm_esc {u:Qs} (h:u= .dead∨∃xs,u= .esc xs) (r:Int):Calm (ustep u r):=by
 rcases h with rfl|⟨xs,rfl⟩
 ·exact calm_dead
 ·show Calm (if r=34∨r=92 then Qs.norm (xs++ [r])else if r=110 then .norm (xs++ [10])else if r=116 then .norm (xs++ [9])else if r=117 then .uni xs else .dead)
  repeat' split
  all_goals first|exact calm_norm _|exact calm_uni _|exact calm_dead
theorem qEnd_is: ∀(n:Nat) (t:List Int) (k:Nat),t.length≤n→
  (qF t k=0∧∀u,Calm u→∀xs,(t.take (qEnd false t)).foldl ustep u≠ .done xs)∨(qF t k=k+qEnd false t∧0<qEnd false t)
 |_,[],k,_=>My ⟨by rw[qF],fun u hu xs=>hu.1 xs⟩
 |0,_::_,_,h=>absurd h (by simp)
 |n+1,r::t,k,h=>by
  have hl:t.length≤n:=by simpa using h
  rw[qF_cons]
  by_cases h1:r=10
  ·refine My ⟨if_pos h1,fun u hu xs=>?_⟩
   have e:qEnd false (r::t)=0:=by simp only[qEnd];rw[if_pos h1]
   rw[e];exact hu.1 xs
  rw[if_neg h1]
  by_cases h2:r=34
  ·have e:qEnd false (r::t)=1:=by simp only[qEnd];rw[if_neg h1,if_neg (by decide),if_neg (by omega),if_pos h2]
   rw[if_pos h2,e];exact Mx ⟨rfl,by omega⟩
  rw[if_neg h2]
  by_cases h3:r=92
  ·subst h3
   have e:qEnd false (92::t)=qEnd true t+1:=by simp only[qEnd];rw[if_neg (by omega),if_neg (by decide),if_pos trivial]
   rw[if_pos rfl,e]
   cases t with
   |nil=>
    refine My ⟨rfl,fun u hu xs=>?_⟩
    show ustep u 92≠_
    rcases calm_back hu with e2|⟨ys,e2⟩<;>rw[e2]<;>exact fun e3=>by cases e3
   |cons s v=>
    show((if s=10 then 0 else qF v (k+2))=0∧_)∨((if s=10 then 0 else qF v (k+2))=_∧_)
    by_cases h4:s=10
    ·have e4:qEnd true (s::v)=0:=by simp only[qEnd];rw[if_pos h4]
     rw[if_pos h4,e4]
     refine My ⟨rfl,fun u hu xs=>?_⟩
     show ustep u 92≠_
     rcases calm_back hu with e2|⟨ys,e2⟩<;>rw[e2]<;>exact fun e3=>by cases e3
    ·have e4:qEnd true (s::v)=qEnd false v+1:=by simp only[qEnd];rw[if_neg h4,if_pos trivial]
     rw[if_neg h4,e4]
     have hv:v.length≤n:=by simp at hl;omega
     rcases qEnd_is n v (k+2) hv with⟨q1,q2⟩|⟨q1,q2⟩
     ·refine My ⟨q1,fun u hu xs=>?_⟩
      have:((92::s::v).take (qEnd false v+1+1)).foldl ustep u=(v.take (qEnd false v)).foldl ustep (ustep (ustep u 92) s):=rfl
      rw[this]
      exact q2 _ (calm_esc (calm_back hu) s) xs
     ·refine Mx ⟨by rw[q1];omega,by omega⟩
  ·have e:qEnd false (r::t)=qEnd false t+1:=by simp only[qEnd];rw[if_neg h1,if_neg (by decide),if_neg h3,if_neg h2]
   rw[if_neg h3,e]
   rcases qEnd_is n t (k+1) hl with⟨q1,q2⟩|⟨q1,q2⟩
   ·refine My ⟨q1,fun u hu xs=>?_⟩
    have:((r::t).take (qEnd false t+1)).foldl ustep u=(t.take (qEnd false t)).foldl ustep (ustep u r):=rfl
    rw[this]
    exact q2 _ (calm_step hu h2 h3) xs
   ·exact Mx ⟨by rw[q1];omega,by omega⟩
def pieceN (m:List Int):Nat:=
 if m.getD 0 0=35 then lineEnd m 0 else if m.getD 0 0=34 then qEnd true m else if withinB (m.getD 0 0)=true then wordEnd m 0 else 1
theorem pieceN_bd {m:List Int} (h:0<m.length):1≤pieceN m∧pieceN m≤m.length:=by
 unfold pieceN
 split
 ·rename_i e
  exact⟨lineEnd_one h (by omega),(lineEnd_bd (Nat.zero_le _)).2⟩
 split
 ·rename_i e1 e2
  refine⟨?_,qEnd_le _ _⟩
  cases m with
  |nil=>cases h
  |cons r t=>
   have:r=34:=e2
   simp only[qEnd]
   rw[if_neg (by omega),if_pos trivial]
   omega
 split
 ·rename_i e1 e2 e3
  exact⟨wordEnd_one h e3,(wordEnd_bd (Nat.zero_le _)).2⟩
 ·exact⟨Nat.le_refl _,h⟩
noncomputable def tokP (p:List Int):TkV×Int:=
 if p.getD 0 0=123 then(⟨7,[],0⟩,0)else if p.getD 0 0=125 then(⟨8,[],0⟩,0)else if p.getD 0 0=59 then(⟨9,[],0⟩,0)
 else if p.getD 0 0=34 then(if(unqF p).2=0 then(⟨2,(unqF p).1,0⟩,0)else(tk0,(unqF p).2))else valF p
theorem unqF_no {p:List Int} (h:NoQ p):unqF p=([],5):=by
 unfold unqF
 split
 ·rename_i xs e;exact(h xs e).elim
 ·rfl
theorem lineEnd_drop (l:List Int) (i:Nat):lineEnd l i=i+lineEnd (l.drop i) 0:=by unfold lineEnd;simp
theorem wordEnd_drop (l:List Int) (i:Nat):wordEnd l i=i+wordEnd (l.drop i) 0:=by unfold wordEnd;simp
theorem letter_within {r:Int} (h:withinB r=false):letterB r=false∧digitB r=false:=by
 unfold withinB at h
 simp only[Bool.or_eq_false_iff]at h
 exact⟨h.1.1.1.1.1,h.1.1.1.1.2⟩
theorem getD_zero_take {m:List Int} {k:Nat} (h:1≤k):(m.take k).getD 0 0=m.getD 0 0:=getD_take (by omega)
theorem one_piece {l:List Int} {i:Nat} (hi:i<l.length):
  (oneF l i).2.2=(tokP ((l.drop i).take (pieceN (l.drop i)))).2∧((oneF l i).2.2=0→l.getD i 0≠35→(oneF l i).1=(tokP ((l.drop i).take (pieceN (l.drop i)))).1∧(oneF l i).2.1=i+pieceN (l.drop i)):=by
 obtain⟨m,hm⟩: ∃m,l.drop i=m:=⟨_,rfl⟩
 have hml:0<m.length:=by rw[←hm,List.length_drop];omega
 have h0:m.getD 0 0=l.getD i 0:=by
  rw[←hm,Mk,List.getElem?_drop,Mk];rfl
 have hb:=pieceN_bd hml
 have hp0:(m.take (pieceN m)).getD 0 0=l.getD i 0:=by rw[getD_zero_take hb.1,h0]
 have hend: ∀E,i≤E→(l.take E).drop i=m.take (E-i):=fun E hE=>by rw[←hm,List.drop_take]
 rw[hm]
 unfold oneF tokP
 rw[hp0]
 by_cases n1:l.getD i 0=123
 ·rw[if_pos n1,if_pos n1]
  refine⟨rfl,fun _ _=>⟨rfl,?_⟩⟩
  unfold pieceN;rw[h0,n1,if_neg (by omega),if_neg (by omega),if_neg (by decide)]
 rw[if_neg n1,if_neg n1]
 by_cases n2:l.getD i 0=125
 ·rw[if_pos n2,if_pos n2]
  refine⟨rfl,fun _ _=>⟨rfl,?_⟩⟩
  unfold pieceN;rw[h0,n2,if_neg (by omega),if_neg (by omega),if_neg (by decide)]
 rw[if_neg n2,if_neg n2]
 by_cases n3:l.getD i 0=59
 ·rw[if_pos n3,if_pos n3]
  refine⟨rfl,fun _ _=>⟨rfl,?_⟩⟩
  unfold pieceN;rw[h0,n3,if_neg (by omega),if_neg (by omega),if_neg (by decide)]
 rw[if_neg n3,if_neg n3]
 by_cases n4:l.getD i 0=34
 ·rw[if_pos n4,if_pos n4]
  have hpn:pieceN m=qEnd true m:=by unfold pieceN;rw[h0,if_neg (by omega),if_pos n4]
  obtain⟨t,rfl⟩: ∃t,m=34::t:=by
   cases m with
   |nil=>cases hml
   | cons r t => have : r = 34 := by rw [← n4, ← h0]; rfl
                 exact ⟨t, by rw [this]⟩
  have ht:l.drop (i+1)=t:=by
   have:l.drop (i+1)=(l.drop i).drop 1:=by rw[List.drop_drop]
   rw[this,hm];rfl
  have hq:qEnd true (34::t)=qEnd false t+1:=by simp only[qEnd];rw[if_neg (by omega),if_pos trivial]
  rw[hpn,hq,ht]
  rcases qEnd_is t.length t (i+1) (Nat.le_refl _)with⟨q1,q2⟩|⟨q1,q2⟩
  ·have hno:NoQ ((34::t).take (qEnd false t+1)):=fun xs e=>by
    have e2:uf ((34::t).take (qEnd false t+1))=(t.take (qEnd false t)).foldl ustep (.norm []):=rfl
    rw[e2]at e
    exact q2 _ (calm_norm _) xs e
   rw[if_pos q1,unqF_no hno]
   exact⟨rfl,fun e=>by cases e⟩
  ·have hne: ¬qF t (i+1)=0:=by omega
   rw[if_neg hne,q1,hend _ (by omega),show i+1+qEnd false t-i=qEnd false t+1 by omega]
   by_cases hz:(unqF ((34::t).take (qEnd false t+1))).2=0
   ·rw[if_pos hz]
    exact⟨hz,fun _ _=>⟨rfl,by show i+1+qEnd false t=i+(qEnd false t+1);omega⟩⟩
   ·rw[if_neg hz]
    exact⟨rfl,fun e=>(hz e).elim⟩
 rw[if_neg n4,if_neg n4]
 cases hw:withinB (l.getD i 0)with
 |false=>
  rw[if_pos rfl]
  by_cases n5:l.getD i 0=35
  ·have hlw:=letter_within hw
   have hv:valF (m.take (pieceN m))=(tk0,5):=by
    refine valF_none (Mx (by rw[hp0];exact hlw.2)) (fun hN=>?_)
    have:=hN.2.2.1
    rw[hp0,hlw.1]at this
    cases this
   rw[hv]
   exact⟨rfl,fun e=>by cases e⟩
  ·have hlw:=letter_within hw
   have hv:valF (m.take (pieceN m))=(tk0,5):=by
    refine valF_none (Mx (by rw[hp0];exact hlw.2)) (fun hN=>?_)
    have:=hN.2.2.1
    rw[hp0,hlw.1]at this
    cases this
   rw[hv]
   exact⟨rfl,fun e=>by cases e⟩
 |true=>
  rw[if_neg (by decide)]
  have hpn:pieceN m=wordEnd m 0:=by
   unfold pieceN
   rw[h0,if_neg (fun e=>by rw[e]at hw;revert hw;decide),if_neg n4,if_pos hw]
  have hwe:wordEnd l i=i+wordEnd m 0:=by rw[←hm];exact wordEnd_drop l i
  rw[hpn,hwe,hend _ (by omega),show i+wordEnd m 0-i=wordEnd m 0 by omega]
  exact⟨rfl,fun _ _=>⟨rfl,rfl⟩⟩
theorem tokF_piece {l:List Int} {i:Nat} (hi:i<l.length) (e1:gapB (l.getD i 0)=false) (e2:l.getD i 0≠35):
  tokF l i=if(tokP ((l.drop i).take (pieceN (l.drop i)))).2=0 then(tokF l (i+pieceN (l.drop i))).map (fun L=>((tokP ((l.drop i).take (pieceN (l.drop i)))).1,i)::L)else .error (i,(tokP ((l.drop i).take (pieceN (l.drop i)))).2):=by
 obtain⟨h1,h2⟩:=one_piece hi
 by_cases hz:(oneF l i).2.2=0
 ·obtain⟨h3,h4⟩:=h2 hz e2
  rw[if_pos (by rw[←h1];exact hz),tokF_one hi e1 e2 hz (oneF_next hi hz).1,h3,h4]
 ·rw[if_neg (by rw[←h1];exact hz),tokF_bad hi e1 e2 hz,h1]
theorem tokF_skip {l:List Int} {i:Nat} (hi:i<l.length) (e:gapB (l.getD i 0)=true∨l.getD i 0=35):tokF l i=tokF l (i+pieceN (l.drop i)):=by
 have h0:(l.drop i).getD 0 0=l.getD i 0:=by
  rw[Mk,List.getElem?_drop,Mk];rfl
 rcases e with e|e
 ·have hp:pieceN (l.drop i)=1:=by
   have hc:l.getD i 0=32∨l.getD i 0=9∨l.getD i 0=10:=by unfold gapB at e;simpa [or_assoc] using e
   unfold pieceN
   rw[h0,if_neg (by omega),if_neg (by omega)]
   rcases hc with hc|hc|hc<;>rw[hc,if_neg (by decide)]
  rw[hp,tokF_gap hi e]
 ·have hp:pieceN (l.drop i)=lineEnd (l.drop i) 0:=by unfold pieceN;rw[h0,if_pos e]
  rw[hp,tokF_note hi e,lineEnd_drop]
end
section
noncomputable def valG (zs:List Int):TkV×Int:=
 open Classical in
 if NameL (runesOf zs)then(⟨1,zs,0⟩,0)
 else if zs= []∨digitB (zs.getD 0 0)=false then(tk0,5)
 else if AllD zs then numT 3 (numF zs)
 else if zs.getD (zs.length-1) 0=37 then numT 5 (shareF zs)
 else if 46∈zs then numT 4 (facF (headP zs) (tailP zs))
 else numT 6 (spanF zs)
theorem valG_name {zs:List Int} (h:NameL (runesOf zs)):valG zs=(⟨1,zs,0⟩,0):=by unfold valG;rw[if_pos h]
theorem valG_none {zs:List Int} (h: ¬NameL (runesOf zs)) (h1:zs= []∨digitB (zs.getD 0 0)=false):valG zs=(tk0,5):=by unfold valG;rw[if_neg h,if_pos h1]
theorem valG_count {zs:List Int} (h: ¬NameL (runesOf zs)) (h1: ¬(zs= []∨digitB (zs.getD 0 0)=false)) (h2:AllD zs):valG zs=numT 3 (numF zs):=by unfold valG;rw[if_neg h,if_neg h1,if_pos h2]
theorem valG_share {zs:List Int} (h: ¬NameL (runesOf zs)) (h1: ¬(zs= []∨digitB (zs.getD 0 0)=false)) (h2: ¬AllD zs) (h3:zs.getD (zs.length-1) 0=37):valG zs=numT 5 (shareF zs):=by unfold valG;rw[if_neg h,if_neg h1,if_neg h2,if_pos h3]
theorem valG_factor {zs:List Int} (h: ¬NameL (runesOf zs)) (h1: ¬(zs= []∨digitB (zs.getD 0 0)=false)) (h2: ¬AllD zs) (h3: ¬zs.getD (zs.length-1) 0=37) (h4:46∈zs):valG zs=numT 4 (facF (headP zs) (tailP zs)):=by unfold valG;rw[if_neg h,if_neg h1,if_neg h2,if_neg h3,if_pos h4]
theorem valG_span {zs:List Int} (h: ¬NameL (runesOf zs)) (h1: ¬(zs= []∨digitB (zs.getD 0 0)=false)) (h2: ¬AllD zs) (h3: ¬zs.getD (zs.length-1) 0=37) (h4: ¬46∈zs):valG zs=numT 6 (spanF zs):=by unfold valG;rw[if_neg h,if_neg h1,if_neg h2,if_neg h3,if_neg h4]
theorem text_runes {zs:List Int} (hb: ∀z∈zs,0≤z∧z≤255) (hg: ∀r∈runesOf zs,0≤r):textR (runesOf zs)=zs:=by
 have h:=(good_back hb hg).2
 have key: ∀l:List Int,(∀r∈l,0≤r)→textR l=l.flatMap encL:=by
  intro l
  induction l with
  |nil=>intro _;rfl
  |cons r l ih=>
   intro hl
   have h1:byteR r=encL r:=if_neg (by have:=hl r (List.mem_cons_self ..);omega)
   show byteR r++textR l=encL r++l.flatMap encL
   rw[h1,ih (fun x hx=>hl x (List.mem_cons_of_mem _ hx))]
 rw[key _ hg,h]
theorem digit_first {zs:List Int} (hb: ∀z∈zs,0≤z∧z≤255):(zs= []∨digitB (zs.getD 0 0)=false)↔(runesOf zs= []∨digitB ((runesOf zs).getD 0 0)=false):=by
 by_cases h:zs= []
 ·rw[h,runes_nil]
 ·obtain⟨h1,h2⟩:=first_is h hb
  have h3:runesOf zs≠ []:=List.ne_nil_of_length_pos h1
  have hd:digitB (zs.getD 0 0)=digitB ((runesOf zs).getD 0 0):=by
   rcases h2 with⟨_,_,e⟩|⟨g1,g2⟩
   ·rw[e]
   ·generalize zs.getD 0 0=u at g1 ⊢
    generalize (runesOf zs).getD 0 0=v at g2 ⊢
    have e1:digitB u=false:=by unfold digitB;simp;omega
    have e2:digitB v=false:=by unfold digitB;simp;omega
    rw[e1,e2]
  rw[hd]
  simp[h,h3]
theorem valG_valF {zs:List Int} (hb: ∀z∈zs,0≤z∧z≤255) (hg: ∀r∈runesOf zs,0≤r):valG zs=valF (runesOf zs):=by
 have ht:=text_runes hb hg
 have hd:=digit_first hb
 unfold valG valF
 rw[ht]
 by_cases h1:NameL (runesOf zs)
 ·have h2:runesOf zs= []∨digitB ((runesOf zs).getD 0 0)=false:=by
   refine Mx ?_
   have h3:=h1.2.2.1
   cases hx:digitB ((runesOf zs).getD 0 0)with
   |false=>rfl
   |true=>
    unfold letterB at h3
    unfold digitB at hx
    simp only[Bool.and_eq_true,Bool.or_eq_true,decide_eq_true_eq]at h3 hx
    omega
  rw[if_pos h1,if_pos h2,if_pos h1]
 ·rw[if_neg h1]
  by_cases h2:zs= []∨digitB (zs.getD 0 0)=false
  ·rw[if_pos h2,if_pos (hd.mp h2),if_neg h1]
  ·rw[if_neg h2,if_neg (fun h=>h2 (hd.mpr h))]
theorem within_low {r:Int} (h:withinB r=true):0≤r:=by
 unfold withinB letterB digitB at h
 simp only[Bool.and_eq_true,Bool.or_eq_true,decide_eq_true_eq]at h
 omega
theorem runes_of_ascii {zs:List Int} (h: ∀z∈zs,0≤z∧z<128):runesOf zs=zs:=by
 have:=runes_ascii zs h []
 rw[runes_nil,List.append_nil]at this
 exact this
theorem digit_within {z:Int} (h:48≤z∧z≤57):withinB z=true:=by unfold withinB digitB;simp[h]
theorem unit_within {z:Int} (h:unitOf z≠0):withinB z=true:=by
 unfold unitOf at h
 have:z=119∨z=100∨z=104∨z=109∨z=115:=by
  refine Classical.byContradiction fun hn=>h ?_
  rw[if_neg (by omega),if_neg (by omega),if_neg (by omega),if_neg (by omega),if_neg (by omega)]
 rcases this with rfl|rfl|rfl|rfl|rfl<;>decide
theorem dg_digits {zs:List Int} (h:Dg zs): ∀z∈zs,48≤z∧z≤57:=by
 have:=h.back
 rw[←this]
 exact dec_byte _
theorem allD_digits {zs:List Int} (h:AllD zs): ∀z∈zs,48≤z∧z≤57:=fun z hz=>by
 obtain⟨i,hi,rfl⟩:=List.mem_iff_getElem.mp hz
 have:=h.2 i hi
 rw[Mk,Kh hi]at this
 exact this
theorem runs_letters: ∀(zs:List Int) (s t:St),runs s zs=some t→∀z∈zs,(48≤z∧z≤57)∨unitOf z≠0
 | [],_,_,_,z,hz=>by cases hz
 |y::zs,s,t,h,z,hz=>by
  have h2:(stp s y).bind (fun u=>runs u zs)=some t:=by
   have:=runs_append s [y] zs
   rw[List.singleton_append]at this
   rw[this]at h
   simpa [runs] using h
  obtain⟨u,hu,hr⟩:=Option.bind_eq_some_iff.mp h2
  rcases List.mem_cons.mp hz with rfl|hz
  ·by_cases hd:48≤z∧z≤57
   ·exact My hd
   ·refine Mx fun h0=>?_
    obtain⟨a,l,n⟩:=s
    cases n with
    |none=>rw[stp_bare hd]at hu;cases hu
    |some n=>rw[stp_none hd (My h0)]at hu;cases hu
  ·exact runs_letters zs u t hr z hz
theorem within_ascii {z:Int} (h:(48≤z∧z≤57)∨unitOf z≠0∨z=46∨z=37):withinB z=true∧0≤z∧z<128:=by
 rcases h with h|h|h|h
 ·exact⟨digit_within h,by omega,by omega⟩
 ·have h2:=unit_within h
  refine⟨h2,within_low h2,?_⟩
  refine Classical.byContradiction fun hn=>h (unitOf_high (by omega))
 ·subst h;exact⟨by decide,by omega,by omega⟩
 ·subst h;exact⟨by decide,by omega,by omega⟩
theorem share_letters {zs:List Int} (h:(shareF zs).2≠5): ∀z∈zs,(48≤z∧z≤57)∨unitOf z≠0∨z=46∨z=37:=by
 unfold shareF at h
 split at h
 ·rename_i hx
  obtain⟨ys,d,e1,e2,e3⟩:=hx.choose_spec
  have hbk:=Written.back e2 e3
  rw[←e1]at hbk
  rw[←hbk]
  intro z hz
  unfold pct tailOf at hz
  rcases List.mem_append.mp hz with hz|hz
  ·exact My (dec_byte _ z hz)
  ·rcases List.mem_append.mp hz with hz|hz
   ·split at hz
    ·cases hz
    ·rcases List.mem_cons.mp hz with rfl|hz
     ·exact Mx (Mx (My rfl))
     ·exact My (fr_byte 4 _ (by omega) z hz)
   ·exact Mx (Mx (Mx (List.mem_singleton.mp hz)))
 ·exact(h rfl).elim
theorem span_letters {zs:List Int} (h:(spanF zs).2≠5): ∀z∈zs,(48≤z∧z≤57)∨unitOf z≠0∨z=46∨z=37:=by
 unfold spanF at h
 split at h
 ·rename_i hx
  obtain⟨_,l,hr⟩:=hx.choose_spec
  intro z hz
  rcases runs_letters zs _ _ hr z hz with h|h
  ·exact My h
  ·exact Mx (My h)
 ·exact(h rfl).elim
theorem fac_letters {zs:List Int} (hp:46∈zs) (h:(facF (headP zs) (tailP zs)).2≠5): ∀z∈zs,(48≤z∧z≤57)∨unitOf z≠0∨z=46∨z=37:=by
 have e:=(point_parts hp).1
 unfold facF at h
 split at h
 ·rename_i hB
  have hA:Dg (headP zs):=by
   refine Classical.byContradiction fun hn=>?_
   rw[numF_no hn]at h
   rw[if_neg (by decide)]at h
   exact h rfl
  intro z hz
  rw[e]at hz
  rcases List.mem_append.mp hz with hz|hz
  ·exact My (dg_digits hA z hz)
  ·rcases List.mem_cons.mp hz with rfl|hz
   ·exact Mx (Mx (My rfl))
   ·exact My (allD_digits hB.1 z hz)
 ·exact(h rfl).elim
theorem numT_code {k:Nat} {p:Nat×Int} (h:(numT k p).2≠5):p.2≠5:=fun e=>h (by
 rw[numT_err (by rw[e];decide)];exact e)
theorem valG_within {zs:List Int} (_hb: ∀z∈zs,0≤z∧z≤255) (h:(valG zs).2≠5): ∀r∈runesOf zs,withinB r=true:=by
 have fin:(∀z∈zs,(48≤z∧z≤57)∨unitOf z≠0∨z=46∨z=37)→∀r∈runesOf zs,withinB r=true:=fun hl=>by
  rw[runes_of_ascii (fun z hz=>(within_ascii (hl z hz)).2)]
  exact fun r hr=>(within_ascii (hl r hr)).1
 unfold valG at h
 split at h
 ·rename_i hN
  intro r hr
  obtain⟨i,hi,rfl⟩:=List.mem_iff_getElem.mp hr
  have:=hN.2.2.2 i hi
  unfold nameOk at this
  rw[Mk,Kh hi]at this
  simp only[Option.getD_some]at this
  unfold withinB
  revert this
  cases letterB (runesOf zs)[i]<;>cases digitB (runesOf zs)[i]<;>simp
  intro _ h2
  rcases h2 with h2|h2<;>simp[h2]
 split at h
 ·exact(h rfl).elim
 split at h
 ·rename_i hA
  exact fin fun z hz=>My (allD_digits hA z hz)
 split at h
 ·exact fin (share_letters (numT_code h))
 split at h
 ·rename_i hp
  exact fin (fac_letters hp (numT_code h))
 ·exact fin (span_letters (numT_code h))
theorem valG_else {zs:List Int} (hb: ∀z∈zs,0≤z∧z≤255) {r:Int} (hr:r∈runesOf zs) (h:withinB r=false):valG zs=(tk0,5):=by
 have h5:(valG zs).2=5:=by
  refine Classical.byContradiction fun hn=>?_
  rw[valG_within hb hn r hr]at h;cases h
 have hk: ∀k p,(numT k p).2=5→numT k p=(tk0,5):=fun k p e=>by
  by_cases h0:p.2=0
  ·rw[numT_fine h0]at e;cases e
  ·rw[numT_err h0]at e ⊢
   have:p.2=5:=e
   rw[this]
 unfold valG at h5 ⊢
 split
 ·rename_i h1
  rw[if_pos h1]at h5;cases h5
 rename_i h1
 rw[if_neg h1]at h5
 split
 ·rfl
 rename_i h2
 rw[if_neg h2]at h5
 split
 ·rename_i h3;rw[if_pos h3]at h5;exact hk _ _ h5
 rename_i h3
 rw[if_neg h3]at h5
 split
 ·rename_i h4;rw[if_pos h4]at h5;exact hk _ _ h5
 rename_i h4
 rw[if_neg h4]at h5
 split
 ·rename_i h6;rw[if_pos h6]at h5;exact hk _ _ h5
 rename_i h6
 rw[if_neg h6]at h5
 exact hk _ _ h5
end
section
open Go.RowKit
def tailD (r:Nat):List Int:=if r=0 then []else(48+((r/10:Nat):Int))::(if r%10=0 then []else [48+((r%10:Nat):Int)])
def facP (n:Nat):List Int:=dec (n/1000)++ [46]++ [48+((n%1000/100:Nat):Int)]++tailD (n%100)
def prT (k:Int) (s:ByteArray) (n:Nat):List Int:=
 if k=1 then nums s else if k=2 then quoteL (runesOf (nums s))else if k=3 then dec n else if k=4 then facP n else if k=5 then pct n else if k=6 then spn n
 else if k=7 then [123]else if k=8 then [125]else if k=9 then [59]else []
end
section
open Go.RowKit
theorem tname_any (s:ByteArray) (w:World) (_env:Env w) (hm:s.size≤4294967296):Calls Tryz.prog 53 #[.string s] w (GivesQ (NameL (runesOf (nums s))) w):=tname_plain s w hm
end
end Go.Proofs.YtalcagmhdppdjaaGreatDoor
