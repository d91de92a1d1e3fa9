/-
  Package exact, walked: Read: the number whose print a text is, or why there is none.
-/
import Derived.WalkLawsBesides
import Derived.Lib.OthersKept
import Derived.KernelRfl
import Derived.Deep.OwnRows
import Derived.Deep.LoopGhost
import Derived.Laws.Externs
import Derived.Shelf.Spec.BitsCarry
import Derived.Test.YtiapmjkaappcfaaGreatDoorPkShowGoals01
import Derived.Deep.QuietTactic
import Derived.BigQuiet
import Derived.Deep.Cut
import Derived.Deep.CutRange
import Derived.Deep.DeepCutAuto
import Derived.Deep.CutBlock
import Derived.Lib.ItoaNum
import Derived.Laws.BitsAllLaws
import Derived.Deep.RegionHeld3
import Derived.StillTactics
import Derived.Laws.Pointers
set_option maxRecDepth 100000
set_option maxHeartbeats 8000000
namespace Go.Proofs.YtiapmjkaappcfaaGreatDoor
open Lib renaming hid→Lh
open Or renaming inr→Mx,inl→My
open Nat renaming le_refl→Mz
section
open Go.RowKit
theorem info_rune:(Tryz.prog.info? 21).map (fun i=>(i.zero,i.size,i.bytes))=some (some (.int .i32 0),1,4):=by kernel_rfl
structure RunesAt (zs:List Int) (i:Nat) (l:List Int):Prop where
 all:runesOf zs=l++rfrom zs i
 len:l.length≤i
theorem RunesAt.start (zs:List Int):RunesAt zs 0 []:=⟨rfl,Mz _⟩
theorem RunesAt.next {zs:List Int} {i:Nat} {l:List Int} (h:RunesAt zs i l) (hi:i<zs.length) {z:Int} {n:Nat} (hz:runeA zs i=z) (hn:widA zs i=n) (n1:1≤n):RunesAt zs (i+n) (l++ [z]):=by
 obtain⟨h1,h2⟩:=h
 refine⟨?_,by simp;omega⟩
 rw[h1,rfrom_in hi,hz,hn,List.append_assoc];rfl
theorem RunesAt.fin {zs:List Int} {i:Nat} {l:List Int} (h:RunesAt zs i l) (hi: ¬i<zs.length):runesOf zs=l:=by rw[h.all,rfrom_out hi,List.append_nil]
def bdC:Nat→Int
 |0=>31
 |k+1=>64*bdC k+63
theorem bdC_pos (k:Nat):0≤bdC k:=by
 induction k with
 |zero=>decide
 |succ k ih=>simp only[bdC];omega
theorem bdC_mono {k n:Nat} (h:k≤n):bdC k≤bdC n:=by
 induction n with
 | zero => obtain rfl : k = 0 := by omega
           exact Int.le_refl _
 |succ n ih=>
  by_cases e:k=n+1
  ·rw[e];exact Int.le_refl _
  ·have h1:=ih (by omega)
   have h2:=bdC_pos n
   simp only[bdC];omega
structure InR (zs:List Int) (i k:Nat) (c:Int):Prop where
 all:allB zs i k=true
 ec:c=cAt zs i k
 c0:0≤c
 c1:c≤bdC k
theorem InR.next {zs:List Int} {i k:Nat} {c z:Int} (h:InR zs i k c) (hl:i+(k+1)<zs.length) (hz:zs.getD (i+(k+1)) 0=z) (z0:128≤z) (z1:z≤191):InR zs i (k+1) (64*c+z-128):=by
 obtain⟨h1,h2,h3,h4⟩:=h
 refine⟨?_,?_,by omega,?_⟩
 ·simp only[allB,h1,Bool.true_and];exact contB_iff.mpr ⟨hl,by omega,by omega⟩
 ·rw[cAt,hz,h2]
 ·simp only[bdC];omega
theorem InR.miss {zs:List Int} {i k:Nat} (hl: ¬i+(k+1)<zs.length) (hn:k+1≤clsN (zs.getD i 0)):wholeB zs i=false:=by
 have h1:allB zs i (k+1)=false:=by
  simp only[allB]
  have:contB zs (i+(k+1))=false:=by
   cases hc:contB zs (i+(k+1))with
   |false=>rfl
   |true=>exact(hl (contB_iff.mp hc).1).elim
  rw[this,Bool.and_false]
 unfold wholeB
 rw[allB_less h1 hn];simp
theorem InR.break {zs:List Int} {i k:Nat} {z:Int} (hz:zs.getD (i+(k+1)) 0=z) (hc:z<128∨191<z) (hn:k+1≤clsN (zs.getD i 0)):wholeB zs i=false:=by
 have h1:allB zs i (k+1)=false:=by
  simp only[allB]
  have:contB zs (i+(k+1))=false:=by
   cases hc2:contB zs (i+(k+1))with
   |false=>rfl
   |true=>have:=contB_iff.mp hc2;omega
  rw[this,Bool.and_false]
 unfold wholeB
 rw[allB_less h1 hn];simp
theorem InR.good {zs:List Int} {i n:Nat} {c L:Int} (h:InR zs i n c) (hn:clsN (zs.getD i 0)=n) (n0:0<n) (hL:clsL (zs.getD i 0)=L) (h1:L≤c) (h2:c≤1114111) (h3: ¬(55296≤c∧c<57344)) (h128: ¬zs.getD i 0<128):runeA zs i=c∧widA zs i=n+1:=by
 have hw:wholeB zs i=true:=by
  unfold wholeB
  rw[hn,hL,h.all,←h.ec]
  simp;omega
 obtain⟨r1,r2⟩:=runeA_good h128 hw
 rw[r1,r2,hn,←h.ec]
 exact⟨rfl,rfl⟩
theorem InR.bad {zs:List Int} {i n:Nat} {c L:Int} (h:InR zs i n c) (hn:clsN (zs.getD i 0)=n) (hL:clsL (zs.getD i 0)=L) (hc:c<L∨1114111<c∨(55296≤c∧c<57344)):wholeB zs i=false:=by
 unfold wholeB
 rw[hn,hL,h.all,←h.ec]
 simp;omega
theorem whole_none {zs:List Int} {i:Nat} (hn:clsN (zs.getD i 0)=0):wholeB zs i=false:=by unfold wholeB;rw[hn];rfl
def GivesRunes (l:List Int) (w:World) (e:Ending) (w':World):Prop:= ∃v,e= .returned v∧Ints .i32 w' v l∧Below w.heap.size w w'∧∀b,v.ownBlock=some b→w.heap.size≤b
theorem rrunes_any (s:ByteArray) (w:World) (hm:s.size≤4294967296):Calls Tryz.prog 73 #[.string s] w (GivesRunes (runesOf (nums s)) w):=by
 have hlen:Hid ((nums s).length=s.size):=nums_length s
 obtain⟨i0,hi,hz0,hz1,hz2⟩:=info_parts info_rune
 go_enter Tryz.func73,Tryz.ntmps73
 go_wp2
 go_loopw [3,4] (fun v3 v4 wr=> ∃(i:Nat) (l:List Int),i≤s.size∧v4= .int .i64 i∧RunesAt (nums s) i l∧OwnInts 21 .i32 wr w.heap.size v3 l∧Below w.heap.size w wr∧w.heap.size≤wr.heap.size) (fun _ v4 _=>s.size-(intOf v4).toNat)
 case atStart=>exact⟨0,[],Nat.zero_le _,rfl,RunesAt.start _,OwnInts.fresh _ _ _ _ _ (by simp) (Mz _),(Below.refl _ _).alloc (Mz _) _,by simp⟩
 case round=>
  obtain⟨i,l,hi9,rfl,hA,hown,hbel,hsz⟩:=hrel
  have HA:=Lh hA
  have HO:=Lh hown
  have HB:=Lh hbel
  have HL:=Lh hA.len
  clear hA hown hbel
  by_cases h1:i<s.size
  ·obtain⟨c,hc,hcc⟩: ∃c,((s[i]'h1).toNat:Int)=c∧Hid ((nums s).getD i 0=c):=⟨_,rfl,nums_at s i h1⟩
   have hcb:0≤c∧c≤255:=by rw[←hc];have:=(s[i]'h1).toNat_lt;omega
   obtain⟨c0,c1⟩:=hcb
   have hl:Hid (i<(nums s).length):=by unfold Hid;rw[hlen.out];exact h1
   by_cases k1:c<128
   ·have hnext:=Lh (HA.out.next hl.out ((runeA_low (by rw[hcc.out];exact k1)).1.trans hcc.out) (runeA_low (by rw[hcc.out];exact k1)).2 (Mz _))
    have cw:IntKind.i32.wrap c=c:=by rw[IntKind.wrap_i32];omega
    go_wp2_with (at_builtin;refine wpList_append_own _ rfl _ _ 112 rfl w.heap.size 21 i0 (.int .i32 0) 1 4 Tryz.underlying112 hi hz0 hz1 hz2 rfl (by decide) _ _ _ rfl (HO.out.1.alloc _) ⟨wr.heap.size,0,none⟩ 1 1 [.int .i32 (c)] rfl rfl ?q1a ?q1b ?q1c ?q1d ?q1e ?_)
    all_goals first|(exact cell_one_new _ _ _)|rfl|(intro u hu;simp at hu;subst hu;rfl)|(have:=HL.out;unfold maxLen;omega)|(have:=HL.out;omega)|(simp;omega)|skip
    intro v' w1 hown' hgrow hiff
    have hn1:=ints_next HO.out hown' hgrow hiff HB.out (Mz _) hsz
    clear hown' hgrow hiff
    obtain⟨hn1,hn2,hn3⟩:=hn1
    go_wp2
    go_roundw
    case rel=>exact⟨i+1,_,by omega,by go_num,hnext.out,hn1,hn2,hn3⟩
    case measure=>simp[intOf];omega
   ·have k128:Hid (128≤(nums s).getD i 0):=by unfold Hid;rw[hcc.out];omega
    have cw:IntKind.i32.wrap c=c:=by rw[IntKind.wrap_i32];omega
    have hbad:=Lh (fun h:wholeB (nums s) i=false=>HA.out.next hl.out (runeA_bad (by have:=k128.out;omega) h).1 (runeA_bad (by have:=k128.out;omega) h).2 (Mz _))
    by_cases k2:c<192∨248≤c
    ·have hN:Hid (clsN ((nums s).getD i 0)=0):=by unfold Hid clsN;rw[hcc.out];rw[if_neg (by omega)];rw[if_neg (by omega)];rw[if_neg (by omega)]
     have hB:=Lh (hbad.out (whole_none hN.out))
     by_cases k3:c<192
     ·clear k2
      go_wp2
      go_loop [5,8,9] (fun v5 v8 v9=>v9= .int .i64 1∧v5= .int .i32 c∧v8= .bool false) (fun _ _ _=>0)
      case atStart=>exact⟨rfl,rfl,rfl⟩
      case round=>
       obtain⟨rfl,rfl,rfl⟩:=hrel
       go_wp2_with (at_builtin;refine wpList_append_own _ rfl _ _ 112 rfl w.heap.size 21 i0 (.int .i32 0) 1 4 Tryz.underlying112 hi hz0 hz1 hz2 rfl (by decide) _ _ _ rfl (HO.out.1.alloc _) ⟨wr.heap.size,0,none⟩ 1 1 [.int .i32 (-1)] rfl rfl ?q2a ?q2b ?q2c ?q2d ?q2e ?_)
       all_goals first|(exact cell_one_new _ _ _)|rfl|(intro u hu;simp at hu;subst hu;rfl)|(have:=HL.out;unfold maxLen;omega)|(have:=HL.out;omega)|(simp;omega)|skip
       intro v' w1 hown' hgrow hiff
       have hn1:=ints_next HO.out hown' hgrow hiff HB.out (Mz _) hsz
       clear hown' hgrow hiff
       obtain⟨hn1,hn2,hn3⟩:=hn1
       go_wp2
       go_roundw
       case rel=>exact⟨i+1,_,by omega,by go_num,hB.out,hn1,hn2,hn3⟩
       case measure=>simp[intOf];omega
     ·have k4:248≤c:=by omega
      clear k2
      go_wp2
      go_loop [5,8,9] (fun v5 v8 v9=>v9= .int .i64 1∧v5= .int .i32 c∧v8= .bool false) (fun _ _ _=>0)
      case atStart=>exact⟨rfl,rfl,rfl⟩
      case round=>
       obtain⟨rfl,rfl,rfl⟩:=hrel
       go_wp2_with (at_builtin;refine wpList_append_own _ rfl _ _ 112 rfl w.heap.size 21 i0 (.int .i32 0) 1 4 Tryz.underlying112 hi hz0 hz1 hz2 rfl (by decide) _ _ _ rfl (HO.out.1.alloc _) ⟨wr.heap.size,0,none⟩ 1 1 [.int .i32 (-1)] rfl rfl ?q3a ?q3b ?q3c ?q3d ?q3e ?_)
       all_goals first|(exact cell_one_new _ _ _)|rfl|(intro u hu;simp at hu;subst hu;rfl)|(have:=HL.out;unfold maxLen;omega)|(have:=HL.out;omega)|(simp;omega)|skip
       intro v' w1 hown' hgrow hiff
       have hn1:=ints_next HO.out hown' hgrow hiff HB.out (Mz _) hsz
       clear hown' hgrow hiff
       obtain⟨hn1,hn2,hn3⟩:=hn1
       go_wp2
       go_roundw
       case rel=>exact⟨i+1,_,by omega,by go_num,hB.out,hn1,hn2,hn3⟩
       case measure=>simp[intOf];omega
    ·have k192:192≤c:=by omega
     have k248:c<248:=by omega
     clear k2
     by_cases k5:c<224
     ·have g1: ¬224≤c:=by omega
      have hN:Hid (clsN ((nums s).getD i 0)=1):=by unfold Hid clsN;rw[hcc.out];rw[if_pos (by omega)]
      have hLe:Hid (clsL ((nums s).getD i 0)=128):=by unfold Hid clsL;rw[hcc.out];rw[if_pos (by omega)]
      have hI0:Hid (InR (nums s) i 0 (c-192)):=⟨rfl,by rw[cAt,hcc.out];unfold clsB;rw[if_pos (by omega)],by omega,by show c-192≤31;omega⟩
      have cw2:IntKind.i32.wrap (c-192)=c-192:=by rw[IntKind.wrap_i32];omega
      go_wp2
      go_loop [5,8,9] (fun v5 v8 v9=> ∃(k:Nat) (x:Int),k≤1∧v8= .bool true∧v9= .int .i64 ((k+1:Nat):Int)∧v5= .int .i32 x∧InR (nums s) i k x) (fun _ _ v9=>10-(intOf v9).toNat)
      case atStart=>exact⟨0,c-192,by omega,rfl,rfl,rfl,hI0.out⟩
      case round=>
       obtain⟨k,x,hk,rfl,rfl,rfl,hI⟩:=hrel
       have HI:=Lh hI
       have x0:=hI.c0
       have x1:x≤2047:=by have h5:=hI.c1;have h6:=bdC_mono hk;have h7:bdC 1=2047:=rfl;omega
       have hk9:=Lh hk
       obtain⟨κ,hκ⟩: ∃κ,k+1=κ:=⟨_,rfl⟩
       have HK:=Lh hκ
       obtain⟨j,hj⟩: ∃j:Nat,i+κ=j:=⟨_,rfl⟩
       have hj2:(i:Int)+(κ:Int)=(j:Int):=by omega
       have HJ:=Lh hj
       have κ0:κ≤4:=by omega
       rw[hκ]
       clear hI hk hκ hj
       by_cases h2:κ≤1
       ·by_cases h3:j<s.size
        ·obtain⟨z,hz,hzz⟩: ∃z,((s[j]'h3).toNat:Int)=z∧Hid ((nums s).getD (i+(k+1)) 0=z):=⟨_,rfl,by unfold Hid;rw[HK.out,HJ.out];exact nums_at s j h3⟩
         have hzb:0≤z∧z≤255:=by rw[←hz];have:=(s[j]'h3).toNat_lt;omega
         obtain⟨z0,z1⟩:=hzb
         have hl2:Hid (i+(k+1)<(nums s).length):=by unfold Hid;rw[hlen.out,HK.out,HJ.out];exact h3
         by_cases hlow:z<128
         ·have hB:=Lh (hbad.out (InR.break hzz.out (My hlow) (by rw[hN.out,HK.out];exact h2)))
          go_wp2_with (at_builtin;refine wpList_append_own _ rfl _ _ 112 rfl w.heap.size 21 i0 (.int .i32 0) 1 4 Tryz.underlying112 hi hz0 hz1 hz2 rfl (by decide) _ _ _ rfl (HO.out.1.alloc _) ⟨wr.heap.size,0,none⟩ 1 1 [.int .i32 (-1)] rfl rfl ?q4a ?q4b ?q4c ?q4d ?q4e ?_)
          all_goals first|(exact cell_one_new _ _ _)|rfl|(intro u hu;simp at hu;subst hu;rfl)|(have:=HL.out;unfold maxLen;omega)|(have:=HL.out;omega)|(simp;omega)|skip
          intro v' w1 hown' hgrow hiff
          have hn1:=ints_next HO.out hown' hgrow hiff HB.out (Mz _) hsz
          clear hown' hgrow hiff
          obtain⟨hn1,hn2,hn3⟩:=hn1
          go_wp2
          go_roundw
          case rel=>exact⟨i+1,_,by omega,by go_num,hB.out,hn1,hn2,hn3⟩
          case measure=>simp[intOf];omega
         ·by_cases hhigh:191<z
          ·have hB:=Lh (hbad.out (InR.break hzz.out (Mx hhigh) (by rw[hN.out,HK.out];exact h2)))
           go_wp2_with (at_builtin;refine wpList_append_own _ rfl _ _ 112 rfl w.heap.size 21 i0 (.int .i32 0) 1 4 Tryz.underlying112 hi hz0 hz1 hz2 rfl (by decide) _ _ _ rfl (HO.out.1.alloc _) ⟨wr.heap.size,0,none⟩ 1 1 [.int .i32 (-1)] rfl rfl ?q5a ?q5b ?q5c ?q5d ?q5e ?_)
           all_goals first|(exact cell_one_new _ _ _)|rfl|(intro u hu;simp at hu;subst hu;rfl)|(have:=HL.out;unfold maxLen;omega)|(have:=HL.out;omega)|(simp;omega)|skip
           intro v' w1 hown' hgrow hiff
           have hn1:=ints_next HO.out hown' hgrow hiff HB.out (Mz _) hsz
           clear hown' hgrow hiff
           obtain⟨hn1,hn2,hn3⟩:=hn1
           go_wp2
           go_roundw
           case rel=>exact⟨i+1,_,by omega,by go_num,hB.out,hn1,hn2,hn3⟩
           case measure=>simp[intOf];omega
          ·have hnext:=Lh (HI.out.next hl2.out hzz.out (by omega) (by omega))
           have zw:IntKind.i32.wrap z=z:=by rw[IntKind.wrap_i32];omega
           go_wp2
           go_round
           case rel=>exact⟨k+1,64*x+z-128,by have:=HK.out;omega,rfl,congrArg (Value.int IntKind.i64) (by have:=HK.out;omega),rfl,hnext.out⟩
           case measure=>have:=HK.out;simp[intOf];omega
        ·have hB:=Lh (hbad.out (InR.miss (k:=k) (by rw[hlen.out,HK.out,HJ.out];exact h3) (by rw[hN.out,HK.out];exact h2)))
         go_wp2_with (at_builtin;refine wpList_append_own _ rfl _ _ 112 rfl w.heap.size 21 i0 (.int .i32 0) 1 4 Tryz.underlying112 hi hz0 hz1 hz2 rfl (by decide) _ _ _ rfl (HO.out.1.alloc _) ⟨wr.heap.size,0,none⟩ 1 1 [.int .i32 (-1)] rfl rfl ?q6a ?q6b ?q6c ?q6d ?q6e ?_)
         all_goals first|(exact cell_one_new _ _ _)|rfl|(intro u hu;simp at hu;subst hu;rfl)|(have:=HL.out;unfold maxLen;omega)|(have:=HL.out;omega)|(simp;omega)|skip
         intro v' w1 hown' hgrow hiff
         have hn1:=ints_next HO.out hown' hgrow hiff HB.out (Mz _) hsz
         clear hown' hgrow hiff
         obtain⟨hn1,hn2,hn3⟩:=hn1
         go_wp2
         go_roundw
         case rel=>exact⟨i+1,_,by omega,by go_num,hB.out,hn1,hn2,hn3⟩
         case measure=>simp[intOf];omega
       ·have hkn:Hid (k=1):=by have h5:=HK.out;have h6:=hk9.out;unfold Hid;omega
        have HI2:Hid (InR (nums s) i 1 x):=by have h5:=HI.out;rw[hkn.out]at h5;exact h5
        by_cases x2:x<128
        ·have hB:=Lh (hbad.out (HI2.out.bad hN.out hLe.out (My x2)))
         go_wp2_with (at_builtin;refine wpList_append_own _ rfl _ _ 112 rfl w.heap.size 21 i0 (.int .i32 0) 1 4 Tryz.underlying112 hi hz0 hz1 hz2 rfl (by decide) _ _ _ rfl (HO.out.1.alloc _) ⟨wr.heap.size,0,none⟩ 1 1 [.int .i32 (-1)] rfl rfl ?q7a ?q7b ?q7c ?q7d ?q7e ?_)
         all_goals first|(exact cell_one_new _ _ _)|rfl|(intro u hu;simp at hu;subst hu;rfl)|(have:=HL.out;unfold maxLen;omega)|(have:=HL.out;omega)|(simp;omega)|skip
         intro v' w1 hown' hgrow hiff
         have hn1:=ints_next HO.out hown' hgrow hiff HB.out (Mz _) hsz
         clear hown' hgrow hiff
         obtain⟨hn1,hn2,hn3⟩:=hn1
         go_wp2
         go_roundw
         case rel=>exact⟨i+1,_,by omega,by go_num,hB.out,hn1,hn2,hn3⟩
         case measure=>simp[intOf];omega
        ·have hG:=HI2.out.good hN.out (by decide) hLe.out (by omega) (by omega) (by omega) (by have:=k128.out;omega)
         have hnext:=Lh (HA.out.next hl.out hG.1 hG.2 (by decide))
         have hin:i+2≤s.size:=by have h5:=widA_in hl.out;rw[hG.2,hlen.out]at h5;exact h5
         clear hG
         have x5:x<55296:=by omega
         go_wp2_with (at_builtin;refine wpList_append_own _ rfl _ _ 112 rfl w.heap.size 21 i0 (.int .i32 0) 1 4 Tryz.underlying112 hi hz0 hz1 hz2 rfl (by decide) _ _ _ rfl (HO.out.1.alloc _) ⟨wr.heap.size,0,none⟩ 1 1 [.int .i32 (x)] rfl rfl ?q8a ?q8b ?q8c ?q8d ?q8e ?_)
         all_goals first|(exact cell_one_new _ _ _)|rfl|(intro u hu;simp at hu;subst hu;rfl)|(have:=HL.out;unfold maxLen;omega)|(have:=HL.out;omega)|(simp;omega)|skip
         intro v' w1 hown' hgrow hiff
         have hn1:=ints_next HO.out hown' hgrow hiff HB.out (Mz _) hsz
         clear hown' hgrow hiff
         obtain⟨hn1,hn2,hn3⟩:=hn1
         go_wp2
         go_roundw
         case rel=>exact⟨i+2,_,by omega,by go_num,hnext.out,hn1,hn2,hn3⟩
         case measure=>simp[intOf];omega
     ·by_cases k6:c<240
      ·have g1:224≤c:=by omega
       have hN:Hid (clsN ((nums s).getD i 0)=2):=by unfold Hid clsN;rw[hcc.out];rw[if_neg (by omega)];rw[if_pos (by omega)]
       have hLe:Hid (clsL ((nums s).getD i 0)=2048):=by unfold Hid clsL;rw[hcc.out];rw[if_neg (by omega)];rw[if_pos (by omega)]
       have hI0:Hid (InR (nums s) i 0 (c-224)):=⟨rfl,by rw[cAt,hcc.out];unfold clsB;rw[if_neg (by omega)];rw[if_pos (by omega)],by omega,by show c-224≤31;omega⟩
       have cw2:IntKind.i32.wrap (c-224)=c-224:=by rw[IntKind.wrap_i32];omega
       go_wp2
       go_loop [5,8,9] (fun v5 v8 v9=> ∃(k:Nat) (x:Int),k≤2∧v8= .bool true∧v9= .int .i64 ((k+1:Nat):Int)∧v5= .int .i32 x∧InR (nums s) i k x) (fun _ _ v9=>10-(intOf v9).toNat)
       case atStart=>exact⟨0,c-224,by omega,rfl,rfl,rfl,hI0.out⟩
       case round=>
        obtain⟨k,x,hk,rfl,rfl,rfl,hI⟩:=hrel
        have HI:=Lh hI
        have x0:=hI.c0
        have x1:x≤131071:=by have h5:=hI.c1;have h6:=bdC_mono hk;have h7:bdC 2=131071:=rfl;omega
        have hk9:=Lh hk
        obtain⟨κ,hκ⟩: ∃κ,k+1=κ:=⟨_,rfl⟩
        have HK:=Lh hκ
        obtain⟨j,hj⟩: ∃j:Nat,i+κ=j:=⟨_,rfl⟩
        have hj2:(i:Int)+(κ:Int)=(j:Int):=by omega
        have HJ:=Lh hj
        have κ0:κ≤4:=by omega
        rw[hκ]
        clear hI hk hκ hj
        by_cases h2:κ≤2
        ·by_cases h3:j<s.size
         ·obtain⟨z,hz,hzz⟩: ∃z,((s[j]'h3).toNat:Int)=z∧Hid ((nums s).getD (i+(k+1)) 0=z):=⟨_,rfl,by unfold Hid;rw[HK.out,HJ.out];exact nums_at s j h3⟩
          have hzb:0≤z∧z≤255:=by rw[←hz];have:=(s[j]'h3).toNat_lt;omega
          obtain⟨z0,z1⟩:=hzb
          have hl2:Hid (i+(k+1)<(nums s).length):=by unfold Hid;rw[hlen.out,HK.out,HJ.out];exact h3
          by_cases hlow:z<128
          ·have hB:=Lh (hbad.out (InR.break hzz.out (My hlow) (by rw[hN.out,HK.out];exact h2)))
           go_wp2_with (at_builtin;refine wpList_append_own _ rfl _ _ 112 rfl w.heap.size 21 i0 (.int .i32 0) 1 4 Tryz.underlying112 hi hz0 hz1 hz2 rfl (by decide) _ _ _ rfl (HO.out.1.alloc _) ⟨wr.heap.size,0,none⟩ 1 1 [.int .i32 (-1)] rfl rfl ?q9a ?q9b ?q9c ?q9d ?q9e ?_)
           all_goals first|(exact cell_one_new _ _ _)|rfl|(intro u hu;simp at hu;subst hu;rfl)|(have:=HL.out;unfold maxLen;omega)|(have:=HL.out;omega)|(simp;omega)|skip
           intro v' w1 hown' hgrow hiff
           have hn1:=ints_next HO.out hown' hgrow hiff HB.out (Mz _) hsz
           clear hown' hgrow hiff
           obtain⟨hn1,hn2,hn3⟩:=hn1
           go_wp2
           go_roundw
           case rel=>exact⟨i+1,_,by omega,by go_num,hB.out,hn1,hn2,hn3⟩
           case measure=>simp[intOf];omega
          ·by_cases hhigh:191<z
           ·have hB:=Lh (hbad.out (InR.break hzz.out (Mx hhigh) (by rw[hN.out,HK.out];exact h2)))
            go_wp2_with (at_builtin;refine wpList_append_own _ rfl _ _ 112 rfl w.heap.size 21 i0 (.int .i32 0) 1 4 Tryz.underlying112 hi hz0 hz1 hz2 rfl (by decide) _ _ _ rfl (HO.out.1.alloc _) ⟨wr.heap.size,0,none⟩ 1 1 [.int .i32 (-1)] rfl rfl ?q10a ?q10b ?q10c ?q10d ?q10e ?_)
            all_goals first|(exact cell_one_new _ _ _)|rfl|(intro u hu;simp at hu;subst hu;rfl)|(have:=HL.out;unfold maxLen;omega)|(have:=HL.out;omega)|(simp;omega)|skip
            intro v' w1 hown' hgrow hiff
            have hn1:=ints_next HO.out hown' hgrow hiff HB.out (Mz _) hsz
            clear hown' hgrow hiff
            obtain⟨hn1,hn2,hn3⟩:=hn1
            go_wp2
            go_roundw
            case rel=>exact⟨i+1,_,by omega,by go_num,hB.out,hn1,hn2,hn3⟩
            case measure=>simp[intOf];omega
           ·have hnext:=Lh (HI.out.next hl2.out hzz.out (by omega) (by omega))
            have zw:IntKind.i32.wrap z=z:=by rw[IntKind.wrap_i32];omega
            go_wp2
            go_round
            case rel=>exact⟨k+1,64*x+z-128,by have:=HK.out;omega,rfl,congrArg (Value.int IntKind.i64) (by have:=HK.out;omega),rfl,hnext.out⟩
            case measure=>have:=HK.out;simp[intOf];omega
         ·have hB:=Lh (hbad.out (InR.miss (k:=k) (by rw[hlen.out,HK.out,HJ.out];exact h3) (by rw[hN.out,HK.out];exact h2)))
          go_wp2_with (at_builtin;refine wpList_append_own _ rfl _ _ 112 rfl w.heap.size 21 i0 (.int .i32 0) 1 4 Tryz.underlying112 hi hz0 hz1 hz2 rfl (by decide) _ _ _ rfl (HO.out.1.alloc _) ⟨wr.heap.size,0,none⟩ 1 1 [.int .i32 (-1)] rfl rfl ?q11a ?q11b ?q11c ?q11d ?q11e ?_)
          all_goals first|(exact cell_one_new _ _ _)|rfl|(intro u hu;simp at hu;subst hu;rfl)|(have:=HL.out;unfold maxLen;omega)|(have:=HL.out;omega)|(simp;omega)|skip
          intro v' w1 hown' hgrow hiff
          have hn1:=ints_next HO.out hown' hgrow hiff HB.out (Mz _) hsz
          clear hown' hgrow hiff
          obtain⟨hn1,hn2,hn3⟩:=hn1
          go_wp2
          go_roundw
          case rel=>exact⟨i+1,_,by omega,by go_num,hB.out,hn1,hn2,hn3⟩
          case measure=>simp[intOf];omega
        ·have hkn:Hid (k=2):=by have h5:=HK.out;have h6:=hk9.out;unfold Hid;omega
         have HI2:Hid (InR (nums s) i 2 x):=by have h5:=HI.out;rw[hkn.out]at h5;exact h5
         by_cases x2:x<2048
         ·have hB:=Lh (hbad.out (HI2.out.bad hN.out hLe.out (My x2)))
          go_wp2_with (at_builtin;refine wpList_append_own _ rfl _ _ 112 rfl w.heap.size 21 i0 (.int .i32 0) 1 4 Tryz.underlying112 hi hz0 hz1 hz2 rfl (by decide) _ _ _ rfl (HO.out.1.alloc _) ⟨wr.heap.size,0,none⟩ 1 1 [.int .i32 (-1)] rfl rfl ?q12a ?q12b ?q12c ?q12d ?q12e ?_)
          all_goals first|(exact cell_one_new _ _ _)|rfl|(intro u hu;simp at hu;subst hu;rfl)|(have:=HL.out;unfold maxLen;omega)|(have:=HL.out;omega)|(simp;omega)|skip
          intro v' w1 hown' hgrow hiff
          have hn1:=ints_next HO.out hown' hgrow hiff HB.out (Mz _) hsz
          clear hown' hgrow hiff
          obtain⟨hn1,hn2,hn3⟩:=hn1
          go_wp2
          go_roundw
          case rel=>exact⟨i+1,_,by omega,by go_num,hB.out,hn1,hn2,hn3⟩
          case measure=>simp[intOf];omega
         ·by_cases x4:55296≤x∧x<57344
          ·have hB:=Lh (hbad.out (HI2.out.bad hN.out hLe.out (Mx (Mx x4))))
           obtain⟨x4a,x4b⟩:=x4
           go_wp2_with (at_builtin;refine wpList_append_own _ rfl _ _ 112 rfl w.heap.size 21 i0 (.int .i32 0) 1 4 Tryz.underlying112 hi hz0 hz1 hz2 rfl (by decide) _ _ _ rfl (HO.out.1.alloc _) ⟨wr.heap.size,0,none⟩ 1 1 [.int .i32 (-1)] rfl rfl ?q13a ?q13b ?q13c ?q13d ?q13e ?_)
           all_goals first|(exact cell_one_new _ _ _)|rfl|(intro u hu;simp at hu;subst hu;rfl)|(have:=HL.out;unfold maxLen;omega)|(have:=HL.out;omega)|(simp;omega)|skip
           intro v' w1 hown' hgrow hiff
           have hn1:=ints_next HO.out hown' hgrow hiff HB.out (Mz _) hsz
           clear hown' hgrow hiff
           obtain⟨hn1,hn2,hn3⟩:=hn1
           go_wp2
           go_roundw
           case rel=>exact⟨i+1,_,by omega,by go_num,hB.out,hn1,hn2,hn3⟩
           case measure=>simp[intOf];omega
          ·have hG:=HI2.out.good hN.out (by decide) hLe.out (by omega) (by omega) (by omega) (by have:=k128.out;omega)
           have hnext:=Lh (HA.out.next hl.out hG.1 hG.2 (by decide))
           have hin:i+3≤s.size:=by have h5:=widA_in hl.out;rw[hG.2,hlen.out]at h5;exact h5
           clear hG
           by_cases x5:x<55296
           ·clear x4
            go_wp2_with (at_builtin;refine wpList_append_own _ rfl _ _ 112 rfl w.heap.size 21 i0 (.int .i32 0) 1 4 Tryz.underlying112 hi hz0 hz1 hz2 rfl (by decide) _ _ _ rfl (HO.out.1.alloc _) ⟨wr.heap.size,0,none⟩ 1 1 [.int .i32 (x)] rfl rfl ?q14a ?q14b ?q14c ?q14d ?q14e ?_)
            all_goals first|(exact cell_one_new _ _ _)|rfl|(intro u hu;simp at hu;subst hu;rfl)|(have:=HL.out;unfold maxLen;omega)|(have:=HL.out;omega)|(simp;omega)|skip
            intro v' w1 hown' hgrow hiff
            have hn1:=ints_next HO.out hown' hgrow hiff HB.out (Mz _) hsz
            clear hown' hgrow hiff
            obtain⟨hn1,hn2,hn3⟩:=hn1
            go_wp2
            go_roundw
            case rel=>exact⟨i+3,_,by omega,by go_num,hnext.out,hn1,hn2,hn3⟩
            case measure=>simp[intOf];omega
           ·have x6: ¬x<57344:=by omega
            clear x4
            go_wp2_with (at_builtin;refine wpList_append_own _ rfl _ _ 112 rfl w.heap.size 21 i0 (.int .i32 0) 1 4 Tryz.underlying112 hi hz0 hz1 hz2 rfl (by decide) _ _ _ rfl (HO.out.1.alloc _) ⟨wr.heap.size,0,none⟩ 1 1 [.int .i32 (x)] rfl rfl ?q15a ?q15b ?q15c ?q15d ?q15e ?_)
            all_goals first|(exact cell_one_new _ _ _)|rfl|(intro u hu;simp at hu;subst hu;rfl)|(have:=HL.out;unfold maxLen;omega)|(have:=HL.out;omega)|(simp;omega)|skip
            intro v' w1 hown' hgrow hiff
            have hn1:=ints_next HO.out hown' hgrow hiff HB.out (Mz _) hsz
            clear hown' hgrow hiff
            obtain⟨hn1,hn2,hn3⟩:=hn1
            go_wp2
            go_roundw
            case rel=>exact⟨i+3,_,by omega,by go_num,hnext.out,hn1,hn2,hn3⟩
            case measure=>simp[intOf];omega
      ·have g1:240≤c:=by omega
       have hN:Hid (clsN ((nums s).getD i 0)=3):=by unfold Hid clsN;rw[hcc.out];rw[if_neg (by omega)];rw[if_neg (by omega)];rw[if_pos (by omega)]
       have hLe:Hid (clsL ((nums s).getD i 0)=65536):=by unfold Hid clsL;rw[hcc.out];rw[if_neg (by omega)];rw[if_neg (by omega)];rw[if_pos (by omega)]
       have hI0:Hid (InR (nums s) i 0 (c-240)):=⟨rfl,by rw[cAt,hcc.out];unfold clsB;rw[if_neg (by omega)];rw[if_neg (by omega)];rw[if_pos (by omega)],by omega,by show c-240≤31;omega⟩
       have cw2:IntKind.i32.wrap (c-240)=c-240:=by rw[IntKind.wrap_i32];omega
       go_wp2
       go_loop [5,8,9] (fun v5 v8 v9=> ∃(k:Nat) (x:Int),k≤3∧v8= .bool true∧v9= .int .i64 ((k+1:Nat):Int)∧v5= .int .i32 x∧InR (nums s) i k x) (fun _ _ v9=>10-(intOf v9).toNat)
       case atStart=>exact⟨0,c-240,by omega,rfl,rfl,rfl,hI0.out⟩
       case round=>
        obtain⟨k,x,hk,rfl,rfl,rfl,hI⟩:=hrel
        have HI:=Lh hI
        have x0:=hI.c0
        have x1:x≤8388607:=by have h5:=hI.c1;have h6:=bdC_mono hk;have h7:bdC 3=8388607:=rfl;omega
        have hk9:=Lh hk
        obtain⟨κ,hκ⟩: ∃κ,k+1=κ:=⟨_,rfl⟩
        have HK:=Lh hκ
        obtain⟨j,hj⟩: ∃j:Nat,i+κ=j:=⟨_,rfl⟩
        have hj2:(i:Int)+(κ:Int)=(j:Int):=by omega
        have HJ:=Lh hj
        have κ0:κ≤4:=by omega
        rw[hκ]
        clear hI hk hκ hj
        by_cases h2:κ≤3
        ·by_cases h3:j<s.size
         ·obtain⟨z,hz,hzz⟩: ∃z,((s[j]'h3).toNat:Int)=z∧Hid ((nums s).getD (i+(k+1)) 0=z):=⟨_,rfl,by unfold Hid;rw[HK.out,HJ.out];exact nums_at s j h3⟩
          have hzb:0≤z∧z≤255:=by rw[←hz];have:=(s[j]'h3).toNat_lt;omega
          obtain⟨z0,z1⟩:=hzb
          have hl2:Hid (i+(k+1)<(nums s).length):=by unfold Hid;rw[hlen.out,HK.out,HJ.out];exact h3
          by_cases hlow:z<128
          ·have hB:=Lh (hbad.out (InR.break hzz.out (My hlow) (by rw[hN.out,HK.out];exact h2)))
           go_wp2_with (at_builtin;refine wpList_append_own _ rfl _ _ 112 rfl w.heap.size 21 i0 (.int .i32 0) 1 4 Tryz.underlying112 hi hz0 hz1 hz2 rfl (by decide) _ _ _ rfl (HO.out.1.alloc _) ⟨wr.heap.size,0,none⟩ 1 1 [.int .i32 (-1)] rfl rfl ?q16a ?q16b ?q16c ?q16d ?q16e ?_)
           all_goals first|(exact cell_one_new _ _ _)|rfl|(intro u hu;simp at hu;subst hu;rfl)|(have:=HL.out;unfold maxLen;omega)|(have:=HL.out;omega)|(simp;omega)|skip
           intro v' w1 hown' hgrow hiff
           have hn1:=ints_next HO.out hown' hgrow hiff HB.out (Mz _) hsz
           clear hown' hgrow hiff
           obtain⟨hn1,hn2,hn3⟩:=hn1
           go_wp2
           go_roundw
           case rel=>exact⟨i+1,_,by omega,by go_num,hB.out,hn1,hn2,hn3⟩
           case measure=>simp[intOf];omega
          ·by_cases hhigh:191<z
           ·have hB:=Lh (hbad.out (InR.break hzz.out (Mx hhigh) (by rw[hN.out,HK.out];exact h2)))
            go_wp2_with (at_builtin;refine wpList_append_own _ rfl _ _ 112 rfl w.heap.size 21 i0 (.int .i32 0) 1 4 Tryz.underlying112 hi hz0 hz1 hz2 rfl (by decide) _ _ _ rfl (HO.out.1.alloc _) ⟨wr.heap.size,0,none⟩ 1 1 [.int .i32 (-1)] rfl rfl ?q17a ?q17b ?q17c ?q17d ?q17e ?_)
            all_goals first|(exact cell_one_new _ _ _)|rfl|(intro u hu;simp at hu;subst hu;rfl)|(have:=HL.out;unfold maxLen;omega)|(have:=HL.out;omega)|(simp;omega)|skip
            intro v' w1 hown' hgrow hiff
            have hn1:=ints_next HO.out hown' hgrow hiff HB.out (Mz _) hsz
            clear hown' hgrow hiff
            obtain⟨hn1,hn2,hn3⟩:=hn1
            go_wp2
            go_roundw
            case rel=>exact⟨i+1,_,by omega,by go_num,hB.out,hn1,hn2,hn3⟩
            case measure=>simp[intOf];omega
           ·have hnext:=Lh (HI.out.next hl2.out hzz.out (by omega) (by omega))
            have zw:IntKind.i32.wrap z=z:=by rw[IntKind.wrap_i32];omega
            go_wp2
            go_round
            case rel=>exact⟨k+1,64*x+z-128,by have:=HK.out;omega,rfl,congrArg (Value.int IntKind.i64) (by have:=HK.out;omega),rfl,hnext.out⟩
            case measure=>have:=HK.out;simp[intOf];omega
         ·have hB:=Lh (hbad.out (InR.miss (k:=k) (by rw[hlen.out,HK.out,HJ.out];exact h3) (by rw[hN.out,HK.out];exact h2)))
          go_wp2_with (at_builtin;refine wpList_append_own _ rfl _ _ 112 rfl w.heap.size 21 i0 (.int .i32 0) 1 4 Tryz.underlying112 hi hz0 hz1 hz2 rfl (by decide) _ _ _ rfl (HO.out.1.alloc _) ⟨wr.heap.size,0,none⟩ 1 1 [.int .i32 (-1)] rfl rfl ?q18a ?q18b ?q18c ?q18d ?q18e ?_)
          all_goals first|(exact cell_one_new _ _ _)|rfl|(intro u hu;simp at hu;subst hu;rfl)|(have:=HL.out;unfold maxLen;omega)|(have:=HL.out;omega)|(simp;omega)|skip
          intro v' w1 hown' hgrow hiff
          have hn1:=ints_next HO.out hown' hgrow hiff HB.out (Mz _) hsz
          clear hown' hgrow hiff
          obtain⟨hn1,hn2,hn3⟩:=hn1
          go_wp2
          go_roundw
          case rel=>exact⟨i+1,_,by omega,by go_num,hB.out,hn1,hn2,hn3⟩
          case measure=>simp[intOf];omega
        ·have hkn:Hid (k=3):=by have h5:=HK.out;have h6:=hk9.out;unfold Hid;omega
         have HI2:Hid (InR (nums s) i 3 x):=by have h5:=HI.out;rw[hkn.out]at h5;exact h5
         by_cases x2:x<65536
         ·have hB:=Lh (hbad.out (HI2.out.bad hN.out hLe.out (My x2)))
          go_wp2_with (at_builtin;refine wpList_append_own _ rfl _ _ 112 rfl w.heap.size 21 i0 (.int .i32 0) 1 4 Tryz.underlying112 hi hz0 hz1 hz2 rfl (by decide) _ _ _ rfl (HO.out.1.alloc _) ⟨wr.heap.size,0,none⟩ 1 1 [.int .i32 (-1)] rfl rfl ?q19a ?q19b ?q19c ?q19d ?q19e ?_)
          all_goals first|(exact cell_one_new _ _ _)|rfl|(intro u hu;simp at hu;subst hu;rfl)|(have:=HL.out;unfold maxLen;omega)|(have:=HL.out;omega)|(simp;omega)|skip
          intro v' w1 hown' hgrow hiff
          have hn1:=ints_next HO.out hown' hgrow hiff HB.out (Mz _) hsz
          clear hown' hgrow hiff
          obtain⟨hn1,hn2,hn3⟩:=hn1
          go_wp2
          go_roundw
          case rel=>exact⟨i+1,_,by omega,by go_num,hB.out,hn1,hn2,hn3⟩
          case measure=>simp[intOf];omega
         ·by_cases x3:1114111<x
          ·have hB:=Lh (hbad.out (HI2.out.bad hN.out hLe.out (Mx (My x3))))
           go_wp2_with (at_builtin;refine wpList_append_own _ rfl _ _ 112 rfl w.heap.size 21 i0 (.int .i32 0) 1 4 Tryz.underlying112 hi hz0 hz1 hz2 rfl (by decide) _ _ _ rfl (HO.out.1.alloc _) ⟨wr.heap.size,0,none⟩ 1 1 [.int .i32 (-1)] rfl rfl ?q20a ?q20b ?q20c ?q20d ?q20e ?_)
           all_goals first|(exact cell_one_new _ _ _)|rfl|(intro u hu;simp at hu;subst hu;rfl)|(have:=HL.out;unfold maxLen;omega)|(have:=HL.out;omega)|(simp;omega)|skip
           intro v' w1 hown' hgrow hiff
           have hn1:=ints_next HO.out hown' hgrow hiff HB.out (Mz _) hsz
           clear hown' hgrow hiff
           obtain⟨hn1,hn2,hn3⟩:=hn1
           go_wp2
           go_roundw
           case rel=>exact⟨i+1,_,by omega,by go_num,hB.out,hn1,hn2,hn3⟩
           case measure=>simp[intOf];omega
          ·have hG:=HI2.out.good hN.out (by decide) hLe.out (by omega) (by omega) (by omega) (by have:=k128.out;omega)
           have hnext:=Lh (HA.out.next hl.out hG.1 hG.2 (by decide))
           have hin:i+4≤s.size:=by have h5:=widA_in hl.out;rw[hG.2,hlen.out]at h5;exact h5
           clear hG
           have x6: ¬x<57344:=by omega
           go_wp2_with (at_builtin;refine wpList_append_own _ rfl _ _ 112 rfl w.heap.size 21 i0 (.int .i32 0) 1 4 Tryz.underlying112 hi hz0 hz1 hz2 rfl (by decide) _ _ _ rfl (HO.out.1.alloc _) ⟨wr.heap.size,0,none⟩ 1 1 [.int .i32 (x)] rfl rfl ?q21a ?q21b ?q21c ?q21d ?q21e ?_)
           all_goals first|(exact cell_one_new _ _ _)|rfl|(intro u hu;simp at hu;subst hu;rfl)|(have:=HL.out;unfold maxLen;omega)|(have:=HL.out;omega)|(simp;omega)|skip
           intro v' w1 hown' hgrow hiff
           have hn1:=ints_next HO.out hown' hgrow hiff HB.out (Mz _) hsz
           clear hown' hgrow hiff
           obtain⟨hn1,hn2,hn3⟩:=hn1
           go_wp2
           go_roundw
           case rel=>exact⟨i+4,_,by omega,by go_num,hnext.out,hn1,hn2,hn3⟩
           case measure=>simp[intOf];omega
  ·have hfin:=Lh (HA.out.fin (by rw[hlen.out];exact h1))
   go_wp2
   go_ret
   exact⟨_,rfl,by rw[hfin.out];exact HO.out.ints,HB.out,fun b hb=>(HO.out.1.lt b hb).1⟩
end
section
open Go.RowKit
def Bools (w:World) (v:Value) (l:List Bool):Prop:=
 ∃b off cap,v= .slice (some ⟨b,off,none⟩) l.length cap∧l.length≤cap∧b<w.heap.size∧∀i,i<l.length→w.cell? ⟨b,off+i,none⟩=some (.bool (l.getD i false))
def BoolsN (w:World) (v:Value) (l:List Bool):Prop:=(v= .slice none 0 0∧l= [])∨Bools w v l
def OwnBits (w:World) (base:Nat) (v:Value) (l:List Bool):Prop:=
 w.ownsRow base 4 1 v l.length (l.map Value.bool)∧v≠ .slice none 0 0
end
section
open Go.RowKit
end
section
open Go.RowKit
def GivesBits (P:List Bool→Prop) (w:World) (e:Ending) (w':World):Prop:= ∃v l,e= .returned v∧Bools w' v l∧P l∧Below w.heap.size w w'
def GivesNew (P:List Bool→Prop) (w:World) (e:Ending) (w':World):Prop:= ∃v l,e= .returned v∧Bools w' v l∧P l∧Below w.heap.size w w'∧∀b,v.ownBlock=some b→w.heap.size≤b
end
section
open Go.RowKit
def SumTo (la lb x:List Bool) (c:Nat):Prop:=val x+2^x.length*c=lo la x.length+lo lb x.length
end
section
open Go.RowKit
structure TimesAt (la lb lo' ls:List Bool) (k:Nat):Prop where
 len1:ls.length=la.length+k
 len2:lo'.length≤la.length+k
 vs:val ls=val la*2^k
 vo:val lo'=val la*lo lb k
end
section
open Go.RowKit
def GivesOf (N:Nat) (w:World) (e:Ending) (w':World):Prop:= ∃(h l:Int) (ok:Bool),e= .returned (.tuple #[.agg #[.int .u64 h, .int .u64 l], .bool ok])∧IsW h l (capN N)∧(ok=true↔W128 N)∧Below w.heap.size w w'
structure OfMem (w wr:World) (h l:Int):Prop where
 r0:wr.cell? ⟨w.heap.size,0,none⟩=some (.int .u64 0)
 r1:wr.cell? ⟨w.heap.size,1,none⟩=some (.int .u64 0)
 q0:wr.frozen? ⟨w.heap.size,0,none⟩=false
 q1:wr.frozen? ⟨w.heap.size,1,none⟩=false
 c0:wr.cell? ⟨w.heap.size+1,0,none⟩=some (.int .u64 h)
 c1:wr.cell? ⟨w.heap.size+1,1,none⟩=some (.int .u64 l)
 f0:wr.frozen? ⟨w.heap.size+1,0,none⟩=false
 f1:wr.frozen? ⟨w.heap.size+1,1,none⟩=false
 bel:Below w.heap.size w wr
 size:wr.heap.size=w.heap.size+2
end
section
open Go.RowKit
def DiffTo (la lb x:List Bool) (c:Nat):Prop:=lo la x.length+2^x.length*c=val x+lo lb x.length
end
section
open Go.RowKit
structure DivAt (la ln ll lq:List Bool) (k:Nat):Prop where
 lenq:lq.length=la.length
 lenl:ll.length+k=la.length
 low: ∀j,j<k→lq.getD j false=false
 num:hi lq k*val ln+val ll=hi la k
 less:val ll<val ln
structure QMem (w wr:World) (lq:List Bool):Prop where
 row: ∀i,i<lq.length→wr.cell? ⟨w.heap.size,i,none⟩=some (.bool (lq.getD i false))
 free: ∀i,i<lq.length→wr.frozen? ⟨w.heap.size,i,none⟩=false
 size:w.heap.size<wr.heap.size
def GivesDiv (q r n:Nat) (w:World) (e:Ending) (w':World):Prop:= ∃vq vl lq ll,e= .returned (.tuple #[vq,vl])∧Bools w' vq lq∧Bools w' vl ll∧lq.length=n∧ll.length=n∧val lq=q∧val ll=r∧Below w.heap.size w w'
end
section
open Go.RowKit
structure DigitsAt (A n:Nat) (l:List Bool) (xs:List Int):Prop where
 all:dec A=dec (val l)++xs
 len:l.length=n
 lt:W128 (val l)
end
section
open Go.RowKit
def GivesMul (N:Nat) (w:World) (e:Ending) (w':World):Prop:= ∃h l:Int,e= .returned (.tuple #[.int .u64 h, .int .u64 l])∧IsW h l N∧w=w'
def GivesW (N:Nat) (w:World) (e:Ending) (w':World):Prop:= ∃h l:Int,e= .returned (.agg #[.int .u64 h, .int .u64 l])∧IsW h l N∧Below w.heap.size w w'
def GivesWC (N:Nat) (c:Int) (w:World) (e:Ending) (w':World):Prop:= ∃h l:Int,e= .returned (.tuple #[.agg #[.int .u64 h, .int .u64 l], .int .i64 c])∧IsW h l N∧Below w.heap.size w w'
end
section
open Go.RowKit
def bor (x y:Int):Int:=if x<y then 1 else 0
def lessN (a b:Nat):Nat:=if b≤a then a-b else 0
def lessC (a b:Nat):Int:=if b≤a then 0 else 3
end
section
open Go.RowKit
def DigRel (u u1 v1 v0 Q:Int) (a b:Value):Prop:= ∃q r:Int,a= .int .u64 q∧b= .int .u64 r∧DigAt u u1 v1 v0 Q q r∧0≤q∧q≤17179869184∧0≤q*v0∧(q<4294967296→q*v0≤18446744073709551615)
theorem dig_rest2 {q v0:Int} (g1:0≤q) (g2:q≤17179869184) (b16:0≤v0) (b17:v0<4294967296) (c:q≤4294967296) (h:0≤q-1):
  0≤q-1∧q-1≤17179869184∧0≤(q-1)*v0∧(q-1<4294967296→(q-1)*v0≤18446744073709551615):=by
 refine⟨h,by omega,Int.mul_nonneg h b16,fun _=>?_⟩
 have:=Int.mul_le_mul (by omega:q-1≤4294967295) (by omega:v0≤4294967295) b16 (by omega)
 omega
theorem dig_rest {q v0:Int} (g1:0≤q) (g2:q≤17179869184) (b16:0≤v0) (b17:v0<4294967296) (c1:4294967296≤q) (h:0≤q-1):
  0≤q-1∧q-1≤17179869184∧0≤(q-1)*v0∧(q-1<4294967296→(q-1)*v0≤18446744073709551615):=by
 refine⟨h,by omega,Int.mul_nonneg h b16,fun _=>?_⟩
 have:=Int.mul_le_mul (by omega:q-1≤4294967295) (by omega:v0≤4294967295) b16 (by omega)
 omega
theorem div_core (hi lo y v v1 v0 A u m u1 u0 p Q n p2 Q0 R:Int) (s:Nat) (h0:1≤hi) (h1:hi<y) (_hl:0≤lo) (_hl':lo≤18446744073709551615) (_hy':y≤18446744073709551615) (hs:s≤63)
  (ev:y*2^s=v) (b1:9223372036854775808≤v) (b2:v≤18446744073709551615) (ev1:v/4294967296=v1) (ev0:bits BinOp.and IntKind.u64 v 4294967295=v0)
  (eA:hi*2^s=A) (b3:0≤A) (b4:A≤18446744073709551615) (eu:bits BinOp.or IntKind.u64 A (lo/2^(64-s))=u) (b5:0≤u) (b6:u<v)
  (em:IntKind.u64.wrap (lo*2^s)=m) (em1:m/4294967296=u1) (em0:bits BinOp.and IntKind.u64 m 4294967295=u0) (_b7:0≤m) (_b8:m≤18446744073709551615)
  (ep:u/v1*v1=p) (_b9:0≤u/v1) (_b10:u/v1≤17179869184) (b11:0≤p) (b12:p≤u) (b13:1≤v1)
  (hQ:0≤Q) (hQ':Q<4294967296) (ew:v=v1*4294967296+v0)
  (b14:0≤u1) (b15:u1<4294967296) (b16:0≤v0) (b17:v0<4294967296) (b18:v1<4294967296) (b19:0≤u0) (b20:u0<4294967296)
  (HD:Hid (DigRel u u1 v1 v0 Q (.int .u64 (u/v1)) (.int .u64 (u-p))))
  (eQ1:Hid (Q*(v1*4294967296+v0)≤u*4294967296+u1)) (eQ2:Hid (u*4294967296+u1<(Q+1)*(v1*4294967296+v0)))
  (en:IntKind.u64.wrap (IntKind.u64.wrap (IntKind.u64.wrap (u*4294967296)+u1)-IntKind.u64.wrap (Q*v))=n) (b21:0≤n) (b22:n<v)
  (ep2:n/v1*v1=p2) (_b23:0≤n/v1) (_b24:n/v1≤17179869184) (b25:0≤p2) (b26:p2≤n)
  (HD2:Hid (DigRel n u0 v1 v0 Q0 (.int .u64 (n/v1)) (.int .u64 (n-p2))))
  (hQ0:0≤Q0) (hQ0':Q0<4294967296)
  (eQ01:Hid (Q0*(v1*4294967296+v0)≤n*4294967296+u0)) (eQ02:Hid (n*4294967296+u0<(Q0+1)*(v1*4294967296+v0)))
  (eR:IntKind.u64.wrap (IntKind.u64.wrap (IntKind.u64.wrap (n*4294967296)+u0)-IntKind.u64.wrap (Q0*v))=R) (_b27:0≤R) (_b28:R≤18446744073709551615)
  (lz: ∀w,Calls Tryz.prog 293 #[.int .u64 y] w fun e w'=>e= .returned (.int .i64 s)∧w=w') (w:World):
  Calls Tryz.prog 280 #[.int .u64 hi, .int .u64 lo, .int .u64 y] w fun e w'=>e= .returned (.tuple #[.int .u64 (Q*4294967296+Q0), .int .u64 (R/2^s)])∧∃n,w'=w.drewN n:=by
 have h2: ¬y≤hi:=by omega
 have h3:(y==0)=false:=by simp;omega
 have h4:(hi==0)=false:=by simp;omega
 have hv:u<v1*4294967296+v0:=by omega
 have hv2:n<v1*4294967296+v0:=by omega
 clear ew
 go_enter Tryz.func280,Tryz.ntmps280
 go_upto_block 0 with(go_at_call 293;refine(lz _).mono ?_;rintro e w' ⟨rfl,rfl⟩)
 go_cut [15,16] from 67 to 85 (fun a _ w'=>a= .int .u64 Q∧w=w')
 case first=>
  go_wp2_with fail
  go_loop [15,16] (fun a b=>DigRel u u1 v1 v0 Q a b) (fun a _=>(intOf a-Q).toNat)
  case atStart=>exact HD.out
  case round=>
   obtain⟨q,r,rfl,rfl,hd,g1,g2,g3,g4⟩:=hrel
   have hr0:=hd.hr0
   have hr:=hd.hr
   have hq:=hd.hq
   have hd:=Lh hd
   by_cases c1:4294967296≤q
   ·have hl:=dig_less hd.out (by omega) b14 b15 eQ1.out hv (My c1)
    by_cases c2:4294967296≤r+v1
    ·have hb:=Lh (dig_break hd.out (by omega) b16 b17 b14 hl (by assumption) eQ2.out hv c2)
     go_wp2_with fail
     go_meet
     exact⟨by rw[hb.out],rfl⟩
    ·have hn:=Lh (dig_next hd.out (by omega) hl (by omega))
     have gn:=Lh (dig_rest g1 g2 b16 b17 c1 (Int.le_trans (by assumption) hl))
     go_wp2_with fail
     go_round
     case rel=>exact⟨_,_,rfl,rfl,hn.out,gn.out⟩
     case measure=>simp[intOf];omega
   ·have g4:=g4 (by omega)
    by_cases c3:4294967296*r+u1<q*v0
    ·have hl:=dig_less hd.out (by omega) b14 b15 eQ1.out hv (Mx c3)
     by_cases c2:4294967296≤r+v1
     ·have hb:=Lh (dig_break hd.out (by omega) b16 b17 b14 hl (by assumption) eQ2.out hv c2)
      go_wp2_with fail
      go_meet
      exact⟨by rw[hb.out],rfl⟩
     ·have hn:=Lh (dig_next hd.out (by omega) hl (by omega))
      have gn:=Lh (dig_rest2 g1 g2 b16 b17 (by omega) (Int.le_trans (by assumption) hl))
      go_wp2_with fail
      go_round
      case rel=>exact⟨_,_,rfl,rfl,hn.out,gn.out⟩
      case measure=>simp[intOf];omega
    ·have hb:=Lh (dig_exit hd.out (by omega) eQ2.out (by omega))
     go_wp2_with fail
     go_meet
     exact⟨by rw[hb.out],rfl⟩
 case rest=>
  obtain⟨rfl,rfl⟩:=hcut
  go_upto_block 2 with fail
  go_cut [18,16] from 102 to 120 (fun a _ w'=>a= .int .u64 Q0∧w=w')
  case first=>
   go_wp2_with fail
   go_loop [18,16] (fun a b=>DigRel n u0 v1 v0 Q0 a b) (fun a _=>(intOf a-Q0).toNat)
   case atStart=>exact HD2.out
   case round=>
    obtain⟨q,r,rfl,rfl,hd,g1,g2,g3,g4⟩:=hrel
    have hr0:=hd.hr0
    have hr:=hd.hr
    have hq:=hd.hq
    have hd:=Lh hd
    by_cases c1:4294967296≤q
    ·have hl:=dig_less hd.out (by omega) b19 b20 eQ01.out hv2 (My c1)
     by_cases c2:4294967296≤r+v1
     ·have hb:=Lh (dig_break hd.out (by omega) b16 b17 b19 hl (by assumption) eQ02.out hv2 c2)
      go_wp2_with fail
      go_meet
      exact⟨by rw[hb.out],rfl⟩
     ·have hn:=Lh (dig_next hd.out (by omega) hl (by omega))
      have gn:=Lh (dig_rest g1 g2 b16 b17 c1 (Int.le_trans (by assumption) hl))
      go_wp2_with fail
      go_round
      case rel=>exact⟨_,_,rfl,rfl,hn.out,gn.out⟩
      case measure=>simp[intOf];omega
    ·have g4:=g4 (by omega)
     by_cases c3:4294967296*r+u0<q*v0
     ·have hl:=dig_less hd.out (by omega) b19 b20 eQ01.out hv2 (Mx c3)
      by_cases c2:4294967296≤r+v1
      ·have hb:=Lh (dig_break hd.out (by omega) b16 b17 b19 hl (by assumption) eQ02.out hv2 c2)
       go_wp2_with fail
       go_meet
       exact⟨by rw[hb.out],rfl⟩
      ·have hn:=Lh (dig_next hd.out (by omega) hl (by omega))
       have gn:=Lh (dig_rest2 g1 g2 b16 b17 (by omega) (Int.le_trans (by assumption) hl))
       go_wp2_with fail
       go_round
       case rel=>exact⟨_,_,rfl,rfl,hn.out,gn.out⟩
       case measure=>simp[intOf];omega
     ·have hb:=Lh (dig_exit hd.out (by omega) eQ02.out (by omega))
      go_wp2_with fail
      go_meet
      exact⟨by rw[hb.out],rfl⟩
  case rest=>
   obtain⟨rfl,rfl⟩:=hcut
   go_wp2_with fail
   go_ret2
   exact⟨rfl,0,rfl⟩
theorem and_low (v:Int) (h0:0≤v) (h1:v≤18446744073709551615):bits BinOp.and IntKind.u64 v 4294967295=v%4294967296:=by
 obtain⟨n,rfl⟩:=Int.eq_ofNat_of_zero_le h0
 have:=u64_and_nat n 4294967295 (by omega) (by omega)
 have e:n&&&4294967295=n%4294967296:=Nat.and_two_pow_sub_one_eq_mod n 32
 rw[e]at this
 rw[show(4294967295:Int)=((4294967295:Nat):Int) from rfl,this]
 omega
theorem or_join (A x:Int) (s:Nat) (hA:0≤A) (hA':A*2^s≤18446744073709551615) (hx:0≤x) (hx':x<2^s) (hx2:x≤18446744073709551615):bits BinOp.or IntKind.u64 (A*2^s) x=A*2^s+x:=by
 obtain⟨a,rfl⟩:=Int.eq_ofNat_of_zero_le hA
 obtain⟨b,rfl⟩:=Int.eq_ofNat_of_zero_le hx
 have e1:((a:Int)*2^s)=((a*2^s:Nat):Int):=by simp
 have e2:b<2^s:=by
  have:((2:Int)^s)=((2^s:Nat):Int):=by simp
  omega
 rw[e1]at hA' ⊢
 have:=u64_or_nat (a*2^s) b (by omega) (by omega)
 rw[this,nat_join s (a*2^s) b (Nat.mul_mod_left _ _) e2]
 omega
theorem top_bit (y:Int) (h:1≤y) (h':y≤18446744073709551615): ∃s:Nat,s≤63∧(64-(Lib.bitLen y.toNat:Int))=s∧9223372036854775808≤y*2^s∧y*2^s≤18446744073709551615:=by
 obtain⟨n,rfl⟩:=Int.eq_ofNat_of_zero_le (by omega:0≤y)
 have hb:=Lib.bitLenAux_bounds 64 n (by omega) (by omega)
 have hle:=Lib.bitLen_le n 64 (Mz _) (by omega)
 have hL: ∃L,L=Lib.bitLen n:=⟨_,rfl⟩
 obtain⟨L,hL⟩:=hL
 have hb:1≤L∧2^(L-1)≤n∧n<2^L:=by rw[hL];exact hb
 rw[←hL]at hle
 obtain⟨hb1,hb2,hb3⟩:=hb
 refine⟨64-L,by omega,by rw[Int.toNat_natCast,←hL];omega,?_,?_⟩
 ·have:2^(L-1)*2^(64-L)=(2:Nat)^63:=by rw[←Nat.pow_add];congr 1;omega
  have h2:=Nat.mul_le_mul_right (2^(64-L)) hb2
  have e1:((n:Int)*2^(64-L))=((n*2^(64-L):Nat):Int):=by simp
  omega
 ·have:2^L*2^(64-L)=(2:Nat)^64:=by rw[←Nat.pow_add];congr 1;omega
  have h2:=Nat.mul_lt_mul_of_pos_right hb3 (Nat.two_pow_pos (64-L))
  have e1:((n:Int)*2^(64-L))=((n*2^(64-L):Nat):Int):=by simp
  omega
theorem digRel_first (u u1 v v1 v0:Int) (hv:v=v1*4294967296+v0) (h1:2147483648≤v1) (h1':v1<4294967296) (h0:0≤v0) (h0':v0<4294967296) (hu:0≤u) (hu':u≤18446744073709551615)
  (g0:0≤u1) (g1:u1<4294967296):
  DigRel u u1 v1 v0 ((u*4294967296+u1)/v) (.int .u64 (u/v1)) (.int .u64 (u-u/v1*v1))∧0≤u/v1∧u/v1≤17179869184∧0≤u/v1*v1∧u/v1*v1≤u:=by
 have hq0:0≤u/v1:=Int.ediv_nonneg hu (by omega)
 have hq1:u/v1<17179869185:=(Int.ediv_lt_iff_lt_mul (by omega)).mpr (by omega)
 have hd:=dig_first u u1 v1 v0 (by omega) h1' h0 hu g0 g1
 rw[←hv]at hd
 have:=hd.hr0
 refine⟨⟨_,_,rfl,rfl,hd,hq0,by omega,Int.mul_nonneg hq0 h0,fun hlt=>?_⟩,hq0,by omega,Int.mul_nonneg hq0 (by omega),by omega⟩
 have:=Int.mul_le_mul (by omega:u/v1≤4294967295) (by omega:v0≤4294967295) h0 (by omega)
 omega
theorem wrap_left (u u1 x v:Int) (h:0≤u*4294967296+u1-x*v) (h':u*4294967296+u1-x*v<v) (hv:v≤18446744073709551615):
  IntKind.u64.wrap (IntKind.u64.wrap (IntKind.u64.wrap (u*4294967296)+u1)-IntKind.u64.wrap (x*v))=u*4294967296+u1-x*v:=by
 simp only[IntKind.wrap_u64]
 omega
theorem div_deep (hi lo y:Int) (h0:1≤hi) (h1:hi<y) (hl:0≤lo) (hl':lo≤18446744073709551615) (hy':y≤18446744073709551615) (w:World):
  Calls Tryz.prog 280 #[.int .u64 hi, .int .u64 lo, .int .u64 y] w fun e w'=>e= .returned (.tuple #[.int .u64 ((hi*18446744073709551616+lo)/y), .int .u64 ((hi*18446744073709551616+lo)%y)])∧∃n,w'=w.drewN n:=by
 obtain⟨s,hs,es,b1,b2⟩:=top_bit y (by omega) hy'
 have lz: ∀w,Calls Tryz.prog 293 #[.int .u64 y] w fun e w'=>e= .returned (.int .i64 s)∧w=w':=fun w=>
  (Tryz.bits_LeadingZeros64 y w (by omega) hy').mono fun e w' ⟨a,b⟩=>⟨by rw[a,es],b.symm⟩
 have hT: ∃T:Int,T=2^s:=⟨_,rfl⟩
 have hP: ∃P:Int,P=2^(64-s):=⟨_,rfl⟩
 obtain⟨T,hT⟩:=hT
 obtain⟨P,hP⟩:=hP
 have hPT:P*T=18446744073709551616:=by
  rw[hT,hP,←Int.pow_add,show 64-s+s=64 by omega];rfl
 have hT0:0<T:=by rw[hT];exact Int.pow_pos (by decide)
 have hP0:0<P:=by rw[hP];exact Int.pow_pos (by decide)
 rw[←hT]at b1 b2
 have d1:=Int.emod_add_mul_ediv lo P
 have d2:=Int.emod_nonneg lo (by omega:P≠0)
 have d3:=Int.emod_lt_of_pos lo hP0
 have d4:0≤lo/P:=Int.ediv_nonneg hl (by omega)
 have d5:lo/P<T:=(Int.ediv_lt_iff_lt_mul hP0).mpr (by rw[Int.mul_comm];omega)
 have a1:(hi+1)*T≤y*T:=Int.mul_le_mul_of_nonneg_right (by omega) (by omega)
 have a2:(hi+1)*T=hi*T+T:=by grind
 have a3:0≤hi*T:=Int.mul_nonneg (by omega) (by omega)
 have eu:=or_join hi (lo/P) s (by omega) (by rw[←hT];omega) d4 (by rw[←hT];omega) (by omega)
 rw[←hT]at eu
 have em:IntKind.u64.wrap (lo*T)=lo%P*T:=by
  rw[IntKind.wrap_u64,←hPT,Int.mul_comm P T,Int.mul_comm lo T,Int.mul_emod_mul_of_pos _ _ hT0,Int.mul_comm]
 have m0:0≤lo%P*T:=Int.mul_nonneg d2 (by omega)
 have m1:lo%P*T≤18446744073709551615:=by
  have:lo%P*T≤(P-1)*T:=Int.mul_le_mul_of_nonneg_right (by omega) (by omega)
  have:(P-1)*T=P*T-T:=by grind
  omega
 obtain⟨u,hu⟩: ∃u,u=hi*T+lo/P:=⟨_,rfl⟩
 obtain⟨m,hm⟩: ∃m,m=lo%P*T:=⟨_,rfl⟩
 have hN:u*18446744073709551616+m=(hi*18446744073709551616+lo)*T:=by
  rw[hu,hm,←hPT]
  have:lo=lo%P+P*(lo/P):=by omega
  grind
 rw[←hu]at eu
 rw[←hm]at em m0 m1
 obtain⟨v,hv⟩: ∃v,v=y*T:=⟨_,rfl⟩
 have hsplit:m=m/4294967296*4294967296+m%4294967296:=by omega
 have hvs:v=v/4294967296*4294967296+v%4294967296:=by omega
 have hvpos:0<v:=by omega
 have huv:u<v:=by omega
 have hu0:0≤u:=by omega
 obtain⟨f1,f2,f3,f4,f5⟩:=digRel_first u (m/4294967296) v (v/4294967296) (v%4294967296) hvs (by omega) (by omega) (by omega) (by omega) hu0 (by omega) (by omega) (by omega)
 have q1:=quo_facts (u*4294967296+m/4294967296) v hvpos
 have k1:=quo_small u (m/4294967296) v hvpos huv (by omega)
 have k0:0≤(u*4294967296+m/4294967296)/v:=Int.ediv_nonneg (by omega) (by omega)
 have td:=two_digits u (m/4294967296) (m%4294967296) v hvpos
 have hsum:u*18446744073709551616+m/4294967296*4294967296+m%4294967296=(hi*18446744073709551616+lo)*T:=by omega
 simp only[hsum]at td
 obtain⟨Q,hQ⟩: ∃Q,Q=(u*4294967296+m/4294967296)/v:=⟨_,rfl⟩
 rw[←hQ]at q1 k1 k0 td f1
 have q1':(Q+1)*v=Q*v+v:=by grind
 obtain⟨n,hn⟩: ∃n,n=u*4294967296+m/4294967296-Q*v:=⟨_,rfl⟩
 have n0:0≤n:=by omega
 have n1:n<v:=by omega
 obtain⟨r1,r2,r3,r4,r5⟩:=digRel_first n (m%4294967296) v (v/4294967296) (v%4294967296) hvs (by omega) (by omega) (by omega) (by omega) n0 (by omega) (by omega) (by omega)
 have p1:=quo_facts (n*4294967296+m%4294967296) v hvpos
 have j1:=quo_small n (m%4294967296) v hvpos n1 (by omega)
 have j0:0≤(n*4294967296+m%4294967296)/v:=Int.ediv_nonneg (by omega) (by omega)
 rw[←hn]at td
 obtain⟨Q0,hQ0⟩: ∃Q0,Q0=(n*4294967296+m%4294967296)/v:=⟨_,rfl⟩
 rw[←hQ0]at p1 j1 j0 td r1
 have p1':(Q0+1)*v=Q0*v+v:=by grind
 obtain⟨t1,t2⟩:=td
 rw[hv,Int.mul_ediv_mul_of_pos_left _ _ hT0]at t1
 have t3:n*4294967296+m%4294967296-Q0*v=(hi*18446744073709551616+lo)%y*T:=by
  rw[t2,hv,Int.mul_comm _ T,Int.mul_comm y T,Int.mul_emod_mul_of_pos _ _ hT0,Int.mul_comm]
 have wl1:=wrap_left u (m/4294967296) Q v (by omega) (by omega) (by omega)
 have wl2:=wrap_left n (m%4294967296) Q0 v (by omega) (by omega) (by omega)
 rw[←hn]at wl1
 refine(div_core hi lo y v (v/4294967296) (v%4294967296) (hi*T) u m (m/4294967296) (m%4294967296) (u/(v/4294967296)*(v/4294967296)) Q n (n/(v/4294967296)*(v/4294967296)) Q0 ((hi*18446744073709551616+lo)%y*T) s h0 h1 hl hl' hy' hs
  (by rw[←hT,hv]) (by omega) (by omega) rfl (and_low v (by omega) (by omega))
  (by rw[←hT]) a3 (by omega) (by rw[←hP];exact eu) hu0 huv
  (by rw[←hT];exact em) rfl (and_low m m0 m1) m0 m1
  rfl f2 f3 f4 f5 (by omega)
  k0 k1 hvs
  (by omega) (by omega) (by omega) (by omega) (by omega) (by omega) (by omega)
  f1 (by rw[←hvs];exact q1.1) (by rw[←hvs];exact q1.2)
  wl1 n0 n1 rfl r2 r3 r4 r5 r1 j0 j1 (by rw[←hvs];exact p1.1) (by rw[←hvs];exact p1.2)
  (by rw[wl2,t3]) (by omega) (by omega) lz w).mono ?_
 rintro e w' ⟨rfl,hw⟩
 refine⟨?_,hw⟩
 rw[t1,←hT,Int.mul_ediv_cancel _ (by omega)]
theorem div_flat (lo y:Int) (hl:0≤lo) (hl':lo≤18446744073709551615) (hy:1≤y) (_hy':y≤18446744073709551615) (w:World):
  Calls Tryz.prog 280 #[.int .u64 0, .int .u64 lo, .int .u64 y] w fun e w'=>e= .returned (.tuple #[.int .u64 (lo/y), .int .u64 (lo%y)])∧∃n,w'=w.drewN n:=by
 have h0: ¬y≤0:=by omega
 have h1:(y==0)=false:=by simp;omega
 go_enter Tryz.func280,Tryz.ntmps280
 go_wp2
 go_quiet (fail)
 go_wp2
 go_ret2
 exact⟨rfl,_,rfl⟩
theorem div_any (hi lo y:Int) (h0:0≤hi) (h1:hi<y) (hl:0≤lo) (hl':lo≤18446744073709551615) (hy':y≤18446744073709551615) (w:World):
  Calls Tryz.prog 280 #[.int .u64 hi, .int .u64 lo, .int .u64 y] w fun e w'=>e= .returned (.tuple #[.int .u64 ((hi*18446744073709551616+lo)/y), .int .u64 ((hi*18446744073709551616+lo)%y)])∧∃n,w'=w.drewN n:=by
 by_cases h:hi=0
 ·subst h
  refine(div_flat lo y hl hl' (by omega) hy' w).mono ?_
  rintro e w' ⟨rfl,hw⟩
  exact⟨by simp,hw⟩
 ·exact div_deep hi lo y (by omega) h1 hl hl' hy' w
end
section
open Go.RowKit
def GivesF (q r:Nat) (c:Int) (w:World) (e:Ending) (w':World):Prop:= ∃h l x:Int,e= .returned (.tuple #[.agg #[.int .u64 h, .int .u64 l], .int .u64 x, .int .i64 c])∧IsW h l q∧0≤x∧x.toNat=r∧Below w.heap.size w w'
theorem floor_num {h l n:Int} {A:Nat} (hA:IsW h l A) (hn:1≤n) (hn':n≤18446744073709551615):
  IsW (h/n) ((h%n*18446744073709551616+l)/n) (A/n.toNat)∧0≤(h%n*18446744073709551616+l)%n∧((h%n*18446744073709551616+l)%n).toNat=A%n.toNat:=by
 obtain⟨a,b,c,d,e⟩:=hA
 have m1:=Int.emod_add_mul_ediv h n
 have m2:=Int.emod_nonneg h (by omega:n≠0)
 have m3:=Int.emod_lt_of_pos h (by omega:0<n)
 have q0:0≤h/n:=Int.ediv_nonneg a (by omega)
 have q1:h/n≤h:=Int.ediv_le_self _ a
 have r0:0≤(h%n*18446744073709551616+l)/n:=Int.ediv_nonneg (by omega) (by omega)
 have r1:(h%n*18446744073709551616+l)/n<18446744073709551616:=(Int.ediv_lt_iff_lt_mul (by omega)).mpr (by omega)
 have hAe:(A:Int)=(h%n*18446744073709551616+l)+(h/n*18446744073709551616)*n:=by grind
 have e1:(A:Int)/n=(h%n*18446744073709551616+l)/n+h/n*18446744073709551616:=by
  rw[hAe,Int.add_mul_ediv_right _ _ (by omega)]
 have e2:(A:Int)%n=(h%n*18446744073709551616+l)%n:=by
  rw[hAe,Int.add_mul_emod_self_right]
 have en:(n.toNat:Int)=n:=by omega
 have e3:((A/n.toNat:Nat):Int)=(A:Int)/n:=by rw[Int.natCast_ediv,en]
 have e4:((A%n.toNat:Nat):Int)=(A:Int)%n:=by rw[Int.natCast_emod,en]
 have f0:=Int.emod_nonneg (h%n*18446744073709551616+l) (by omega:n≠0)
 refine⟨⟨q0,by omega,r0,by omega,by rw[e3,e1];omega⟩,f0,?_⟩
 have:((A%n.toNat:Nat):Int)=(h%n*18446744073709551616+l)%n:=by rw[e4,e2]
 omega
theorem floor_any (h l n:Int) (A:Nat) (w:World) (hA:IsW h l A) (hn:1≤n) (hn':n≤18446744073709551615):
  Calls Tryz.prog 264 #[.agg #[.int .u64 h, .int .u64 l], .int .u64 n] w (GivesF (A/n.toNat) (A%n.toNat) 0 w):=by
 obtain⟨n1,n2,n3⟩:=floor_num hA hn hn'
 replace n1:=Lh n1
 replace n3:=Lh n3
 have n2:=Lh n2
 obtain⟨a0,a4,a1,a2,_⟩:=hA
 have hne:(n==0)=false:=by simp;omega
 have m2:=Int.emod_nonneg h (by omega:n≠0)
 have m3:=Int.emod_lt_of_pos h (by omega:0<n)
 have q0:0≤h/n:=Int.ediv_nonneg a0 (by omega)
 have q1:h/n≤h:=Int.ediv_le_self _ a0
 go_enter Tryz.func264,Tryz.ntmps264
 go_wp2
 go_quiet ((go_at_call 280;refine Calls.quiet_of (n:=_) (div_any (h%n) l n m2 m3 a1 a2 hn' _)))
 go_wp2
 refine bodyPost_ret (v:= .tuple #[.agg #[.int .u64 (h/n), .int .u64 ((h%n*18446744073709551616+l)/n)], .int .u64 ((h%n*18446744073709551616+l)%n), .int .i64 0]) (by simp[results,Tryz.results264,go_sem]) rfl ⟨_,_,_,rfl,n1.out,n2.out,n3.out,?_⟩
 exact((Go.below_drewN (((Below.refl _ _).alloc (Mz _) _).alloc (by simp) _) _).setCell (by simp) _).setCell (by simp) _
end
section
open Go.RowKit
structure BoxRes (w W:World) (ah al:Int):Prop where
 c0:W.cell? ⟨w.heap.size,0,none⟩=some (.int .u64 ah)
 c1:W.cell? ⟨w.heap.size,1,none⟩=some (.int .u64 al)
 r0:W.cell? ⟨w.heap.size+1,0,none⟩=some (.int .u64 0)
 r1:W.cell? ⟨w.heap.size+1,1,none⟩=some (.int .u64 0)
 q0:W.frozen? ⟨w.heap.size+1,0,none⟩=false
 q1:W.frozen? ⟨w.heap.size+1,1,none⟩=false
 size:w.heap.size+1<W.heap.size
 size0:w.heap.size<W.heap.size
 bel:Below w.heap.size w W
def ceilN (A n:Nat):Nat:=if n=0 then 0 else A/n+if A%n=0 then 0 else 1
def ceilC (n:Nat):Int:=if n=0 then 4 else 0
end
section
open Go.RowKit
theorem toList_empty {s:ByteArray} (h:0<s.size):s.toList.isEmpty=false∧¬s.toList= []:=by
 have e:s.toList=s.data.toList:=ByteArray.toList_eq s
 have hl:s.data.toList.length=s.size:=by simp
 rw[e]
 cases hd:s.data.toList with
 |nil=>rw[hd]at hl;simp at hl;omega
 |cons a l=>simp
def GivesB (P:Prop) (w:World) (e:Ending) (w':World):Prop:= ∃b:Bool,e= .returned (.bool b)∧(b=true↔P)∧Below w.heap.size w w'
end
section
open Go.RowKit
structure RMem (w w1 wr:World) (s:ByteArray) (pos:Nat) (ah al:Int):Prop where
 it:wr.heap[w1.heap.size+1]?=some (.stringIter s pos)
 a0:wr.cell? ⟨w1.heap.size,0,none⟩=some (.int .u64 ah)
 a1:wr.cell? ⟨w1.heap.size,1,none⟩=some (.int .u64 al)
 f0:wr.frozen? ⟨w1.heap.size,0,none⟩=false
 f1:wr.frozen? ⟨w1.heap.size,1,none⟩=false
 r0:wr.cell? ⟨w.heap.size,0,none⟩=some (.int .u64 0)
 r1:wr.cell? ⟨w.heap.size,1,none⟩=some (.int .u64 0)
 q0:wr.frozen? ⟨w.heap.size,0,none⟩=false
 q1:wr.frozen? ⟨w.heap.size,1,none⟩=false
 bel:Below w.heap.size w wr
 lt0:w.heap.size<w1.heap.size
 s0:w.heap.size<wr.heap.size
 s1:w1.heap.size<wr.heap.size
 s2:w1.heap.size+1<wr.heap.size
end
end Go.Proofs.YtiapmjkaappcfaaGreatDoor
