/-
  Package span's calls, walked: each by what a text tells, and what a number's print is.
-/
import Derived.Test.YtiapmjkaappcfaaGreatDoorPkShowGoals02
import Derived.Test.YtiapmjkaappcfaaGreatDoorChecked
import Derived.Lib.AppendIntMem
import Derived.Lib.LaidTab
import Derived.Stop.LaidErr
import Derived.Lib.IndexLaws
import Derived.Lib.MinMax
set_option maxRecDepth 100000
set_option maxHeartbeats 4000000
namespace Go.Proofs.YtiapmjkaappcfaaGreatDoor
open Lib renaming hid→Lh
open Go.RowKit.Below renaming refl→Mj
open Nat renaming le_refl→Mz
open List renaming length_cons→Jq
section
open Go.RowKit
structure PMem (w wr:World) (f:Nat) (ah al:Int) (xs:List Int):Prop where
 c0:wr.cell? ⟨w.heap.size,0,none⟩=some (.int .u64 ah)
 c1:wr.cell? ⟨w.heap.size,1,none⟩=some (.int .u64 al)
 f0:wr.frozen? ⟨w.heap.size,0,none⟩=false
 f1:wr.frozen? ⟨w.heap.size,1,none⟩=false
 row: ∀i,i<39→∃v,wr.cell? ⟨w.heap.size+1,i,none⟩=some v
 free: ∀i,i<39→wr.frozen? ⟨w.heap.size+1,i,none⟩=false
 got: ∀i,i<xs.length→wr.cell? ⟨w.heap.size+1,f+i,none⟩=some (.int .u8 (xs.getD i 0))
 bel:Below w.heap.size w wr
 size:w.heap.size+1<wr.heap.size
theorem cell_new_at (W:World) (C:Array Value) (t:TypeId) (g j:Nat) (hg:g=W.heap.size) (hj:j<C.size): ∃v,(W.alloc (.cells C t)).cell? ⟨g,j,none⟩=some v:=by
 subst hg
 exact⟨C[j],by rw[World.cell?_alloc_mark];exact Array.getElem?_eq_getElem hj⟩
theorem PMem.after {w wr w1:World} {f:Nat} {ah al:Int} {xs:List Int} (h:PMem w wr f ah al xs) (hb:Below wr.heap.size wr w1):PMem w w1 f ah al xs:=by
 obtain⟨c0,c1,f0,f1,row,free,got,bel,size⟩:=h
 have hc: ∀b o,b<wr.heap.size→w1.cell? ⟨b,o,none⟩=wr.cell? ⟨b,o,none⟩:=fun b o h=>hb.cell (p:=⟨b,o,none⟩) h
 have hf: ∀b o,b<wr.heap.size→w1.frozen? ⟨b,o,none⟩=wr.frozen? ⟨b,o,none⟩:=fun b o h=>hb.frozen (p:=⟨b,o,none⟩) h
 have:=hb.size
 exact⟨by rw[hc _ _ (by omega),c0],by rw[hc _ _ (by omega),c1],by rw[hf _ _ (by omega),f0],by rw[hf _ _ (by omega),f1],
  fun i hi=>by rw[hc _ _ (by omega)];exact row i hi,fun i hi=>by rw[hf _ _ (by omega)];exact free i hi,fun i hi=>by rw[hc _ _ (by omega)];exact got i hi,
  bel.trans (hb.mono bel.size),by omega⟩
theorem PMem.put {w W:World} {f:Nat} {ah al d:Int} {xs:List Int} (h:PMem w W f ah al xs) (hf:0<f) (hf':f≤39):PMem w (W.setCell ⟨w.heap.size+1,f-1,none⟩ (.int .u8 d)) (f-1) ah al (d::xs):=by
 obtain⟨c0,c1,f0,f1,row,free,got,bel,size⟩:=h
 obtain⟨v,hv⟩:=row (f-1) (by omega)
 refine⟨?_,?_,by rw[World.frozen?_setCell];exact f0,by rw[World.frozen?_setCell];exact f1,?_,fun i hi=>by rw[World.frozen?_setCell];exact free i hi,?_,bel.setCell (by simp) _,by simpa using size⟩
 ·rw[World.cell?_setCell_other _ _ _ _ (by simp)];exact c0
 ·rw[World.cell?_setCell_other _ _ _ _ (by simp)];exact c1
 ·intro i hi
  by_cases he:i=f-1
  ·subst he;exact⟨_,World.cell?_setCell_same _ _ _ hv⟩
  ·rw[World.cell?_setCell_other _ _ _ _ (by first|(simp;done)|(simp;omega))];exact row i hi
 ·intro i hi
  rcases i with _|i
  ·exact World.cell?_setCell_same _ _ _ hv
  ·rw[World.cell?_setCell_other _ _ _ _ (by first|(simp;done)|(simp;omega)),show f-1+(i+1)=f+i by omega]
   simpa using got i (by simpa using hi)
theorem PMem.move {w W:World} {f:Nat} {ah al h l:Int} {xs:List Int} (k:PMem w W f ah al xs):PMem w ((W.setCell ⟨w.heap.size,0,none⟩ (.int .u64 h)).setCell ⟨w.heap.size,1,none⟩ (.int .u64 l)) f h l xs:=by
 obtain⟨c0,c1,f0,f1,row,free,got,bel,size⟩:=k
 have hc: ∀i,((W.setCell ⟨w.heap.size,0,none⟩ (.int .u64 h)).setCell ⟨w.heap.size,1,none⟩ (.int .u64 l)).cell? ⟨w.heap.size+1,i,none⟩=W.cell? ⟨w.heap.size+1,i,none⟩:=fun i=>by
  rw[World.cell?_setCell_other _ _ _ _ (by simp),World.cell?_setCell_other _ _ _ _ (by simp)]
 refine⟨?_,?_,by rw[World.frozen?_setCell,World.frozen?_setCell];exact f0,by rw[World.frozen?_setCell,World.frozen?_setCell];exact f1,?_,fun i hi=>by rw[World.frozen?_setCell,World.frozen?_setCell];exact free i hi,?_,(bel.setCell (by simp) _).setCell (by simp) _,by simpa using size⟩
 ·rw[World.cell?_setCell_other _ _ _ _ (by simp)];exact World.cell?_setCell_same _ _ _ c0
 ·exact World.cell?_setCell_same _ _ _ (by rw[World.cell?_setCell_other _ _ _ _ (by simp)];exact c1)
 ·intro i hi;rw[hc];exact row i hi
 ·intro i hi;rw[hc];exact got i hi
theorem conv_row {w W:World} {f:Nat} {ah al:Int} {xs:List Int} (h:PMem w W f ah al xs) (n:Nat) (hn:n=xs.length):
  (convert 140 9 (.slice (some ⟨w.heap.size+1,f,none⟩) n n)).run Tryz.prog W= .ok (.string (strOfNums xs)) W:=
 run_convert_bytes_arg W 140 5 Tryz.underlying140 Tryz.underlying5 _ _ _ _ xs hn.symm (fun i hi=>h.got i (by omega)) 9 Tryz.underlying9
theorem arrayLen_digits:Tryz.prog.arrayLen 304=39:=by kernel_rfl
theorem slice_tail (W:World) (B f n:Nat) (z:Int) (hz:z=f) (hf:n+f=39) (h0:f<39):
  (Instr.sliceAt 304 (.pointer (some ⟨B,0,none⟩)) (some (.int .i64 z)) none none).run Tryz.prog W= .ok (.slice (some ⟨B,f,none⟩) n n) W:=by
 subst hz
 have:=run_sliceAt_array_l (P:=Tryz.prog) W 304 ⟨B,0,none⟩ (by kernel_rfl) .i64 (f:Int) (by omega) (by rw[arrayLen_digits];omega)
 rw[this,arrayLen_digits]
 have hs:(sizeOf (Tryz.prog.elem 304)).run Tryz.prog W= .ok 1 W:=by kernel_rfl
 rw[hs]
 simp only[Result.andThen,slicedAt,Int.toNat_natCast,Nat.mul_one]
 rw[if_neg (by omega),show 39-f=n by omega]
 rcases f with _|f<;>simp[Addr.add]
theorem print_last {A a:Nat} {xs:List Int} {x:Int} (h:PrintAt A a xs) (ha:a<10) (_h0:0≤x) (hx:x.toNat=a%10):strOfNums ((48+x)::xs)=strOfNums (dec A):=by
 rw[h.last ha]
 have e:x=((a%10:Nat):Int):=by omega
 rw[e]
theorem print_next {A a:Nat} {xs:List Int} {x:Int} (h:PrintAt A a xs) (ha: ¬a<10) (h0:0≤x) (hx:x.toNat=a%10):PrintAt A (a/10) ((48+x)::xs):=by
 have e:x=((a%10:Nat):Int):=by omega
 rw[e];exact h.next ha
theorem not_zero_of {a:Nat} (h1:IsW 0 0 (a/10)) (ha: ¬a<10):False:=by
 have h2:IsW 0 0 (a/10):=h1
 obtain⟨_,_,_,_,e⟩:=h2
 omega
theorem ten {h l:Int} {a:Nat} (h1:IsW h l (a/10)):IsW h l (a/10):=h1
theorem floor_dig {x:Int} {a:Nat} (_h0:0≤x) (h:x.toNat=a%10):x≤9:=by
 omega
theorem zero_of {h l:Int} {a:Nat} (h1:IsW h l (a/10)) (ha:a<10):h=0∧l=0:=by
 have e:a/10=0:=by have:10=10:=rfl;omega
 rw[e]at h1
 exact h1.unique IsW.zero
theorem print_any (h l:Int) (A:Nat) (w:World) (hA:IsW h l A):
  Calls Tryz.prog 234 #[.agg #[.int .u64 h, .int .u64 l]] w fun e w'=>e= .returned (.string (strOfNums (dec A)))∧Below w.heap.size w w':=by
 have HA:=Lh hA
 have HL:=Lh hA.lt
 go_enter Tryz.func234,Tryz.ntmps234
 go_wp2
 go_loopw [4,5,6,7] (fun i _ _ _ wr=> ∃(f a:Nat) (ah al:Int) (xs:List Int),f≤39∧i= .int .i64 f∧Hid (xs.length+f=39)∧IsW ah al a∧PrintAt A a xs∧PMem w wr f ah al xs) (fun i _ _ _ _=>(intOf i).toNat)
 case atStart=>
  refine⟨39,A,h,l,[],by omega,rfl,Lh rfl,hA,PrintAt.start A,⟨by simp[go_sem],by simp[go_sem],by simp[go_sem],by simp[go_sem],?_,?_,?_,((Mj _ _).alloc (Mz _) _).alloc (by simp) _,by simp⟩⟩
  ·intro i hi;exact cell_new_at _ _ _ _ _ (by simp) (by simpa using hi)
  ·intro i hi;simp[go_sem]
  ·intro i hi;simp at hi
 case round=>
  obtain⟨f,a,ah,al,xs,hf,rfl,hlen,hW,hP,hM⟩:=hrel
  have hroom:=hP.room HL.out
  have hf0:0<f:=by have:=hlen.out;omega
  obtain⟨c0,c1,_,_,_,_,_,_,hsz⟩:=hM.after (Mj _ _)
  by_cases ha:a<10
  ·go_wp2_with (go_at_call 264;refine(floor_any ah al 10 a _ hW (by decide) (by decide)).mono ?_;rintro e w1 ⟨h',l',x,rfl,hW1,hx0,hx,hb⟩;have hM1:=hM.after hb;obtain⟨d0,d1,e0,e1,row,free,_,_,hsz1⟩:=hM1;obtain⟨v,hv⟩:=row (f-1) (by omega);have hv':=free (f-1) (by omega);clear row free;replace hx:x.toNat=a%10:=hx;replace hW1:IsW h' l' (a/10):=hW1;have hx9:x≤9:=floor_dig hx0 hx;obtain⟨rfl,rfl⟩:=zero_of hW1 ha;have hsl:=fun W=>slice_tail W (w.heap.size+1) (f-1) (xs.length+1) (f-1) (by omega) (by have:=hlen.out;omega) (by omega);have hcv:=conv_row (((hM.after hb).put (d:=48+x) hf0 hf).after ((Mj _ _).alloc (Mz _) (.cells #[.int .u64 0, .int .u64 0] 162))) (xs.length+1) rfl;have hlast:=Lh (print_last hP ha hx0 hx);have hbel:=(hM.after hb).bel)
   go_ret
   exact⟨by rw[hlast.out];rfl,(hbel.setCell (by simp) _).alloc (by simp;omega) _⟩
  ·go_wp2_with (go_at_call 264;refine(floor_any ah al 10 a _ hW (by decide) (by decide)).mono ?_;rintro e w1 ⟨h',l',x,rfl,hW1,hx0,hx,hb⟩;have hM1:=hM.after hb;obtain⟨d0,d1,e0,e1,row,free,_,_,hsz1⟩:=hM1;obtain⟨v,hv⟩:=row (f-1) (by omega);have hv':=free (f-1) (by omega);clear row free;replace hx:x.toNat=a%10:=hx;replace hW1:IsW h' l' (a/10):=hW1;have hx9:x≤9:=floor_dig hx0 hx;have HW1:=Lh hW1;have HX:=Lh (print_next hP ha hx0 hx);have hsz2:w.heap.size<w1.heap.size:=(by omega))
   ·have z1:h'=0:=by assumption
    have z2:l'=0:=by assumption
    have hw:=HW1.out
    rw[z1,z2]at hw
    exact(not_zero_of hw ha).elim
   ·have z1:h'=0:=by assumption
    have hw:=HW1.out
    rw[z1]at hw
    have hm:=(((hM.after hb).put (d:=48+x) hf0 hf).move (h:=0) (l:=l')).after ((Mj _ _).alloc (Mz _) (.cells #[.int .u64 0, .int .u64 l'] 162))
    go_roundw
    case rel=>exact⟨f-1,a/10,0,l',_,by omega,by rw[show((f-1:Nat):Int)=(f:Int)-1 by omega],Lh (by have:=hlen.out;simp only[Jq];omega),hw,HX.out,hm⟩
    case measure=>simp[intOf];omega
   ·have hm:=(((hM.after hb).put (d:=48+x) hf0 hf).move (h:=h') (l:=l')).after ((Mj _ _).alloc (Mz _) (.cells #[.int .u64 h', .int .u64 l'] 162))
    go_roundw
    case rel=>exact⟨f-1,a/10,h',l',_,by omega,by rw[show((f-1:Nat):Int)=(f:Int)-1 by omega],Lh (by have:=hlen.out;simp only[Jq];omega),HW1.out,HX.out,hm⟩
    case measure=>simp[intOf];omega
end
section
open Go.RowKit
def DecAt (A a:Nat) (xs:List Int):Prop:=(a=0∧dec A=xs)∨(1≤a∧dec A=dec a++xs)
structure SpAt (N k m:Nat) (xs:List Int):Prop where
 all:sp units N=xs++sp (units.drop k) m
 le:m≤253402300799
 len:xs.length≤40*k
theorem SpAt.start (N:Nat) (h:N≤253402300799):SpAt N 0 N []:=⟨rfl,h,by simp⟩
theorem SpAt.yes {N k m:Nat} {xs:List Int} (h:SpAt N k m xs) {c:Int} {r:List Int} (hd:units.drop k=c::r) (hr:units.drop (k+1)=r) (hm:unitOf c≤m):SpAt N (k+1) (m%unitOf c) (xs++(dec (m/unitOf c)++ [c])):=by
 obtain⟨h1,h2,h3⟩:=h
 have h4:(dec (m/unitOf c)).length≤39:=dec_len (by have:=Nat.div_le_self m (unitOf c);unfold W128;omega)
 refine⟨?_,by have:=Nat.mod_le m (unitOf c);omega,by simp only[List.length_append,List.length_singleton];omega⟩
 rw[h1,hd,hr,sp,if_pos hm];simp
theorem SpAt.no {N k m:Nat} {xs:List Int} (h:SpAt N k m xs) {c:Int} {r:List Int} (hd:units.drop k=c::r) (hr:units.drop (k+1)=r) (hm: ¬unitOf c≤m):SpAt N (k+1) m xs:=by
 obtain⟨h1,h2,h3⟩:=h
 refine⟨?_,h2,by omega⟩
 rw[h1,hd,hr,sp,if_neg hm]
theorem SpAt.fin {N m:Nat} {xs:List Int} (h:SpAt N 5 m xs):sp units N=xs:=by
 rw[h.all];simp[units,sp]
end
section
open Go.RowKit
def SpanOut (zs:List Int) (x c:Int):Prop:=((∀N,¬Tells zs N)∧x=0∧c=5)∨∃N,Tells zs N∧((253402300799<N∧x=0∧c=8)∨(N≤253402300799∧x=(N:Int)∧c=0))
def GivesSpan (zs:List Int) (w:World) (e:Ending) (w':World):Prop:= ∃x c:Int,e= .returned (.tuple #[.int .i64 x, .int .i64 c])∧SpanOut zs x c∧Below w.heap.size w w'
structure RdS (zs:List Int) (i acc:Nat) (last sum:Int) (far:Bool):Prop where
 run:runs St0 (zs.take i)=some ⟨acc,last.toNat,none⟩
 l0:1≤last
 l1:last≤1000000
 s0:0≤sum
 s1:sum≤253402300799
 near:far=false→sum=(acc:Int)
 over:far=true→253402300799<acc
structure InS (zs:List Int) (i k acc:Nat) (last n:Int) (N:Nat):Prop where
 run:runs St0 (zs.take k)=some ⟨acc,last.toNat,if k=i then none else some N⟩
 zero:k=i→N=0
 n0:0≤n
 n1:n≤2534023007999
 near:n≤253402300799→n=(N:Int)
 over:253402300799<n→253402300799<N
end
section
open Go.RowKit
theorem tabIs_of_mem {laid:List (String×DataW Unit)} {W:World} {name:String} {k:IntKind} {zs:List Int} {g:Nat} {t e:TypeId} {n:Nat}
  (hg:Tryz.prog.globalNamed name=some g) (hty:(Tryz.prog.globals[g]?).map (·.type)=some t) (ht:Tryz.prog.underlying t=some (.array n e)) (he:Tryz.prog.underlying e=some (.int k)) (hce:Tryz.prog.cellsOf e=1) (hct:Tryz.prog.cellsOf t=n)
  (h:laidMet Tryz.prog laid W) (hm:(name,Lib.tabData k zs)∈laid):Lib.TabIs Tryz.prog W name k zs:=by
 induction laid with
 |nil=>cases hm
 |cons x r ih=>
  rcases List.mem_cons.mp hm with hx|hx
  ·subst hx
   exact Lib.tabIs_of_head hg hty ht he hce hct h
  ·exact ih h.tail hx
end
section
open Go.RowKit
def Tab (w:World):Prop:=Lib.TabBelow Tryz.prog w.heap.size w "internal/strconv.uint64pow10" .u64 Lib.pow10Tab
theorem Tab.step {w w':World} (h:Tab w) (hb:Below w.heap.size w w'):Tab w':=fun x hx=>h x (below_step hb hx)
theorem dec_digits (n:Nat):(⟨(Lib.decDigits n).toArray⟩:ByteArray)=strOfNums (dec n):=by
 have key: ∀n:Nat,Lib.decDigits n=(dec n).map fun z=>UInt8.ofNat z.toNat:=by
  intro n
  induction n using Nat.strongRecOn with
  |_ n ih=>
   by_cases h:n<10
   ·rw[dec_small h,Lib.decDigits_one h]
    simp only[List.map_cons,List.map_nil]
    rw[show(48+(n:Int)).toNat=48+n by omega]
   ·rw[dec_big h,Lib.decDigits,dif_neg h,ih (n/10) (by omega),List.map_append]
    simp only[List.map_cons,List.map_nil]
    rw[show(48+((n%10:Nat):Int)).toNat=48+n%10 by omega]
 unfold strOfNums
 rw[key]
theorem fmt_any (n:Int) (w:World) (h0:0≤n) (h1:n≤9223372036854775807) (hT:Tab w):
  Calls Tryz.prog 240 #[.int .i64 n, .int .i64 10] w fun e w'=>e= .returned (.string (strOfNums (dec n.toNat)))∧Below w.heap.size w w':=by
 refine(Tryz.strconv_FormatInt_10 n (by omega) h1 w hT.here).mono ?_
 rintro e w' ⟨rfl,k,os,rfl⟩
 refine⟨?_,Lib.below_grow _ w (Mz _) k os⟩
 obtain⟨N,rfl⟩: ∃N:Nat,n=N:=⟨n.toNat,by omega⟩
 rw[Lib.itoa_nonneg,Int.toNat_natCast,dec_digits]
theorem tab_of_laid {laid:List (String×DataW Unit)} {W:World} (h:laidMet Tryz.prog laid W) (hm:("internal/strconv.uint64pow10",Lib.tabData .u64 Lib.pow10Tab)∈laid):Tab W:=
 Lib.tabBelow_of_tabIs (tabIs_of_mem (g:=5) (t:=331) (e:=64) (n:=20) (by kernel_rfl) (by kernel_rfl) Tryz.underlying331 Tryz.underlying64 (by kernel_rfl) (by kernel_rfl) h hm)
end
section
open Go.RowKit
def deTab:List Int:= [0,1,56,2,57,49,28,3,61,58,42,50,38,29,17,4,62,47,59,36,45,43,51,22,53,39,33,30,24,18,12,5,63,55,48,27,60,41,37,16,46,35,44,21,52,32,23,11,54,26,40,15,34,20,31,10,25,14,19,9,13,8,7,6]
def DeB (w:World):Prop:=Lib.TabBelow Tryz.prog w.heap.size w "math/bits.deBruijn64tab" .u8 deTab
theorem DeB.step {w w':World} (h:DeB w) (hb:Below w.heap.size w w'):DeB w':=fun x hx=>h x (below_step hb hx)
theorem DeB.four {w:World} (h:DeB w):w.cell? ⟨7,15,none⟩=some (.int .u8 4):=by
 have hg:Tryz.prog.globalNamed "math/bits.deBruijn64tab" =some 7:=by kernel_rfl
 exact h.here.cell hg 15 (by decide)
def Utf (w:World):Prop:=Lib.Utf8Tabs 0 1 w
theorem Utf.step {w w':World} (h:Utf w) (hb:Below w.heap.size w w'):Utf w':=Utf8Tabs_below h hb
theorem deb_of_laid {laid:List (String×DataW Unit)} {W:World} (h:laidMet Tryz.prog laid W) (hm:("math/bits.deBruijn64tab",Lib.tabData .u8 deTab)∈laid):DeB W:=
 Lib.tabBelow_of_tabIs (tabIs_of_mem (g:=7) (t:=338) (e:=5) (n:=64) (by kernel_rfl) (by kernel_rfl) Tryz.underlying338 Tryz.underlying5 (by kernel_rfl) (by kernel_rfl) h hm)
theorem utf_of_laid {laid:List (String×DataW Unit)} {W:World} (h:laidMet Tryz.prog laid W) (h3:("unicode/utf8.first",Lib.firstData)∈laid) (h4:("unicode/utf8.acceptRanges",Lib.acceptData)∈laid):Utf W:=
 Tryz.utf8_tabs (Lib.laidMet.reads h h3) (Lib.laidMet.reads h h4)
def Env (w:World):Prop:=Utf w
theorem Env.step {w w':World} (h:Env w) (hb:Below w.heap.size w w'):Env w':=Utf.step h hb
theorem Env.utf {w:World} (h:Env w):Utf w:=h
def EnvQ (w:World):Prop:=DeB w∧Utf w∧Tab w
theorem EnvQ.step {w w':World} (h:EnvQ w) (hb:Below w.heap.size w w'):EnvQ w':=⟨h.1.step hb,h.2.1.step hb,Tab.step h.2.2 hb⟩
theorem EnvQ.deb {w:World} (h:EnvQ w):DeB w:=h.1
theorem EnvQ.lo {w:World} (h:EnvQ w):Env w:=h.2.1
theorem EnvQ.tab {w:World} (h:EnvQ w):Tab w:=h.2.2
end
section
open Go.RowKit
end
section
open Go.RowKit
theorem runes_len (zs:List Int):(runesOf zs).length≤zs.length:=by
 have key: ∀n i,zs.length-i≤n→(rfrom zs i).length≤zs.length-i:=by
  intro n
  induction n with
  |zero=>intro i hi;rw[rfrom_out (by omega)];simp
  |succ n ih=>
   intro i hi
   by_cases h:i<zs.length
   ·rw[rfrom_in h,Jq]
    have h1:=widA_pos zs i
    have h2:=ih (i+widA zs i) (by omega)
    omega
   ·rw[rfrom_out h];simp
 have:=key zs.length 0 (by omega)
 unfold runesOf;omega
def GivesQ (A:Prop) (w:World) (e:Ending) (w':World):Prop:= ∃q:Bool,e= .returned (.bool q)∧(q=true↔A)∧Below w.heap.size w w'
theorem GivesQ.yes {A:Prop} {w w':World} (h:A) (hb:Below w.heap.size w w'):GivesQ A w (.returned (.bool true)) w':=⟨true,rfl,⟨fun _=>h,fun _=>rfl⟩,hb⟩
theorem GivesQ.no {A:Prop} {w w':World} (h: ¬A) (hb:Below w.heap.size w w'):GivesQ A w (.returned (.bool false)) w':=⟨false,rfl,⟨fun e=>Bool.noConfusion e,fun e=>(h e).elim⟩,hb⟩
theorem rletter_any (r:Int) (w:World):Calls Tryz.prog 121 #[.int .i32 r] w fun e w'=>e= .returned (.bool (letterB r))∧w=w':=by
 obtain⟨q,hq⟩: ∃q,letterB r=q:=⟨_,rfl⟩
 rw[hq]
 have HQ:=Lh hq
 clear hq
 by_cases h1:97≤r
 ·by_cases h2:r≤122
  ·obtain rfl:q=true:=by rw[←HQ.out];unfold letterB;simp[h1,h2]
   go_enter Tryz.func121,Tryz.ntmps121
   go_wp2
   go_ret
   exact⟨rfl,rfl⟩
  ·by_cases h3:r<192
   ·obtain rfl:q=false:=by rw[←HQ.out];unfold letterB;simp;omega
    have g1: ¬r≤90:=by omega
    have g2: ¬880≤r:=by omega
    have g3: ¬192≤r:=by omega
    go_enter Tryz.func121,Tryz.ntmps121
    go_wp2
    go_ret
    exact⟨rfl,rfl⟩
   ·have g1: ¬r≤90:=by omega
    have g3:192≤r:=by omega
    by_cases h4:r≤591
    ·by_cases h5:r=215
     ·subst h5
      obtain rfl:q=false:=by rw[←HQ.out];decide
      go_enter Tryz.func121,Tryz.ntmps121
      go_wp2
      go_ret
      exact⟨rfl,rfl⟩
     ·by_cases h6:r=247
      ·subst h6
       obtain rfl:q=false:=by rw[←HQ.out];decide
       go_enter Tryz.func121,Tryz.ntmps121
       go_wp2
       go_ret
       exact⟨rfl,rfl⟩
      ·obtain rfl:q=true:=by rw[←HQ.out];unfold letterB;simp;omega
       have d1:(r==215)=false:=by simpa using h5
       have d2:(r==247)=false:=by simpa using h6
       have d3:(r !=215)=true:=by simpa using h5
       have d4:(r !=247)=true:=by simpa using h6
       go_enter Tryz.func121,Tryz.ntmps121
       go_wp2
       go_ret
       exact⟨rfl,rfl⟩
    ·by_cases h5:880≤r
     ·by_cases h6:r≤1279
      ·obtain rfl:q=true:=by rw[←HQ.out];unfold letterB;simp;omega
       go_enter Tryz.func121,Tryz.ntmps121
       go_wp2
       go_ret
       exact⟨rfl,rfl⟩
      ·obtain rfl:q=false:=by rw[←HQ.out];unfold letterB;simp;omega
       have d1:decide (r≤1279)=false:=by simp;omega
       go_enter Tryz.func121,Tryz.ntmps121
       go_wp2
       go_ret
       exact⟨rfl,rfl⟩
     ·obtain rfl:q=false:=by rw[←HQ.out];unfold letterB;simp;omega
      have d1:decide (r≥880)=false:=by simp;omega
      go_enter Tryz.func121,Tryz.ntmps121
      go_wp2
      go_ret
      exact⟨rfl,rfl⟩
 ·by_cases h2:65≤r
  ·by_cases h3:r≤90
   ·obtain rfl:q=true:=by rw[←HQ.out];unfold letterB;simp[h2,h3]
    go_enter Tryz.func121,Tryz.ntmps121
    go_wp2
    go_ret
    exact⟨rfl,rfl⟩
   ·obtain rfl:q=false:=by rw[←HQ.out];unfold letterB;simp;omega
    have g2: ¬880≤r:=by omega
    have g3: ¬192≤r:=by omega
    go_enter Tryz.func121,Tryz.ntmps121
    go_wp2
    go_ret
    exact⟨rfl,rfl⟩
  ·obtain rfl:q=false:=by rw[←HQ.out];unfold letterB;simp;omega
   have g2: ¬880≤r:=by omega
   have g3: ¬192≤r:=by omega
   go_enter Tryz.func121,Tryz.ntmps121
   go_wp2
   go_ret
   exact⟨rfl,rfl⟩
theorem rgood_any (s:ByteArray) (w:World) (hm:s.size≤4294967296):Calls Tryz.prog 72 #[.string s] w (GivesQ (GoodL (runesOf (nums s))) w):=by
 have hll:=runes_len (nums s)
 rw[nums_length]at hll
 obtain⟨l,hl⟩: ∃l,runesOf (nums s)=l:=⟨_,rfl⟩
 have R:=Lh (fun w=>rrunes_any s w hm)
 rw[hl]at R hll ⊢
 clear hl
 go_enter Tryz.func72,Tryz.ntmps72
 go_wp2_with (go_at_call 73;(with_reducible refine(R.out _).mono ?_);rintro e w1 ⟨v,rfl,⟨b,off,cap,rfl,hcap,hb,hcell⟩,g,_⟩;have G:=Lh g;clear g)
 have HC:=Lh hcell
 clear hcell
 go_loop [4] (fun v4=> ∃i:Nat,i≤l.length∧v4= .int .i64 i∧Hid (∀j,j<i→0≤l.getD j 0)) (fun v4=>l.length-(intOf v4).toNat)
 case atStart=>exact⟨0,Nat.zero_le _,rfl,Lh (fun j hj=>by omega)⟩
 case round=>
  obtain⟨i,hi,rfl,hall⟩:=hrel
  by_cases h1:i<l.length
  ·have hx:=HC.out i h1
   obtain⟨z,hz⟩: ∃z,l.getD i 0=z:=⟨_,rfl⟩
   rw[hz]at hx
   have HZ:=Lh hz
   clear hz
   by_cases h2:z<0
   ·have hbad:=Lh (GoodL.of_not h1 (by rw[HZ.out];exact h2))
    go_wp2
    go_ret
    exact GivesQ.no hbad.out G.out
   ·have hall':Hid (∀j,j<i+1→0≤l.getD j 0):=fun j hj=>by
     by_cases e:j=i
     ·rw[e,HZ.out];omega
     ·exact hall.out j (by omega)
    go_wp2
    go_round
    case rel=>exact⟨i+1,by omega,by go_num,hall'⟩
    case measure=>simp[intOf];omega
  ·have hfin:Hid (GoodL l):=fun j hj=>hall.out j (by omega)
   go_wp2
   go_ret
   exact GivesQ.yes hfin.out G.out
end
section
open Go.RowKit
theorem rletter_is {r:Int} {q:Bool} (h:letterB r=q) (w:World):Calls Tryz.prog 121 #[.int .i32 r] w fun e w'=>e= .returned (.bool q)∧w=w':=by
 subst h;exact rletter_any r w
theorem letter_high {r:Int} (h:letterB r=true):57<r:=by
 unfold letterB at h
 simp at h
 omega
theorem NameL.bad {l:List Int} {i:Nat} (hi:i<l.length) (h:nameOk l i=false): ¬NameL l:=fun g=>by have:=g.2.2.2 i hi;rw[h]at this;cases this
theorem rname_any (s:ByteArray) (w:World) (hm:s.size≤4294967296):Calls Tryz.prog 71 #[.string s] w (GivesQ (NameL (runesOf (nums s))) w):=by
 have hll:=runes_len (nums s)
 rw[nums_length]at hll
 obtain⟨l,hl⟩: ∃l,runesOf (nums s)=l:=⟨_,rfl⟩
 have R:=Lh (fun w=>rrunes_any s w hm)
 rw[hl]at R hll ⊢
 clear hl
 by_cases h0:l.length=0
 ·have hbad:Hid (¬NameL l):=fun g=>by have h5:1≤l.length:=g.1;omega
  have hz:((l.length:Int)==0)=true:=by rw[h0];rfl
  clear h0
  go_enter Tryz.func71,Tryz.ntmps71
  go_wp2_with (go_at_call 73;(with_reducible refine(R.out _).mono ?_);rintro e w1 ⟨v,rfl,⟨b,off,cap,rfl,hcap,hb,hcell⟩,g,_⟩;have G:=Lh g;clear g)
  go_ret
  exact GivesQ.no hbad.out G.out
 ·have hz:((l.length:Int)==0)=false:=beq_eq_false_iff_ne.mpr (by omega)
  have hz2: ¬(l.length:Int)=0:=by omega
  have hpos:0<l.length:=by omega
  by_cases h24:24<l.length
  ·have hbad:Hid (¬NameL l):=fun g=>by have h5:l.length≤24:=g.2.1;omega
   clear h0
   go_enter Tryz.func71,Tryz.ntmps71
   go_wp2_with (go_at_call 73;(with_reducible refine(R.out _).mono ?_);rintro e w1 ⟨v,rfl,⟨b,off,cap,rfl,hcap,hb,hcell⟩,g,_⟩;have G:=Lh g;clear g)
   go_ret
   exact GivesQ.no hbad.out G.out
  ·have hl24:l.length≤24:=by omega
   clear h24 h0
   obtain⟨z0,hz0⟩: ∃z,l.getD 0 0=z:=⟨_,rfl⟩
   have HZ0:=Lh hz0
   clear hz0
   obtain⟨q0,hq0⟩: ∃q,letterB z0=q:=⟨_,rfl⟩
   have RL:=Lh (fun w=>rletter_is hq0 w)
   have HQ0:=Lh hq0
   clear hq0
   cases q0 with
   |false=>
    have hbad:Hid (¬NameL l):=fun g=>by have h5:=g.2.2.1;rw[HZ0.out,HQ0.out]at h5;cases h5
    go_enter Tryz.func71,Tryz.ntmps71
    go_wp2_with (first
     |(go_at_call 73;(with_reducible refine(R.out _).mono ?_);rintro e w1 ⟨v,rfl,⟨b,off,cap,rfl,hcap,hb,hcell⟩,g,_⟩;have G:=Lh g;clear g;have hc0:=hcell 0 hpos;rw[HZ0.out,Nat.add_zero]at hc0;clear hcell)
     |(go_at_call 121;(with_reducible refine(RL.out _).mono ?_);rintro e w2 ⟨rfl,rfl⟩))
    go_ret
    exact GivesQ.no hbad.out G.out
   |true=>
    go_enter Tryz.func71,Tryz.ntmps71
    go_wp2_with (first
     |(go_at_call 73;(with_reducible refine(R.out _).mono ?_);rintro e w1 ⟨v,rfl,⟨b,off,cap,rfl,hcap,hb,hcell⟩,g,_⟩;have G:=Lh g;clear g;have HC:=Lh hcell;have hc0:=hcell 0 hpos;rw[HZ0.out,Nat.add_zero]at hc0;clear hcell)
     |(go_at_call 121;(with_reducible refine(RL.out _).mono ?_);rintro e w2 ⟨rfl,rfl⟩))
    go_loop [4] (fun v4=> ∃i:Nat,i≤l.length∧v4= .int .i64 i∧Hid (∀j,j<i→nameOk l j=true)) (fun v4=>l.length-(intOf v4).toNat)
    case atStart=>exact⟨0,Nat.zero_le _,rfl,Lh (fun j hj=>by omega)⟩
    case round=>
     clear hc0
     obtain⟨i,hi,rfl,hall⟩:=hrel
     by_cases h1:i<l.length
     ·have hx:=HC.out i h1
      obtain⟨z,hz⟩: ∃z,l.getD i 0=z:=⟨_,rfl⟩
      rw[hz]at hx
      have HZ:=Lh hz
      clear hz
      obtain⟨q,hq⟩: ∃q,letterB z=q:=⟨_,rfl⟩
      have RL:=Lh (fun w=>rletter_is hq w)
      have HQ:=Lh hq
      clear hq
      have hok:Hid (nameOk l i=(q||digitB z||(decide (i+1≠l.length)&&(decide (z=95)||decide (z=45))))):=by unfold Hid nameOk;rw[HZ.out,HQ.out]
      have hnext:=Lh (fun h:nameOk l i=true=>fun(j:Nat) (hj:j<i+1)=>show nameOk l j=true from by
       by_cases e:j=i
       ·rw[e];exact h
       ·exact hall.out j (by omega))
      cases q with
      |true=>
       have hh:=letter_high HQ.out
       have hn:=Lh (hnext.out (by rw[hok.out];rfl))
       go_wp2_with (go_at_call 121;(with_reducible refine(RL.out _).mono ?_);rintro e w2 ⟨rfl,rfl⟩)
       go_round
       case rel=>exact⟨i+1,by omega,by go_num,hn⟩
       case measure=>simp[intOf];omega
      |false=>
       by_cases d1:z<48
       ·have g1:decide (z≥48)=false:=by simp;omega
        have e2:(z==95)=false:=by simp;omega
        have e3:(z !=95)=true:=by simp;omega
        by_cases hend:i+1=l.length
        ·have e1:((i:Int)==(l.length:Int)-1)=true:=by simp;omega
         have hb2:=Lh (NameL.bad h1 (by rw[hok.out];unfold digitB;simp;omega))
         go_wp2_with (go_at_call 121;(with_reducible refine(RL.out _).mono ?_);rintro e w2 ⟨rfl,rfl⟩)
         go_ret
         exact GivesQ.no hb2.out G.out
        ·have e1:((i:Int)==(l.length:Int)-1)=false:=by simp;omega
         by_cases hch:z=45
         ·subst hch
          have hn:=Lh (hnext.out (by rw[hok.out];unfold digitB;simp;omega))
          go_wp2_with (go_at_call 121;(with_reducible refine(RL.out _).mono ?_);rintro e w2 ⟨rfl,rfl⟩)
          go_round
          case rel=>exact⟨i+1,by omega,by go_num,hn⟩
          case measure=>simp[intOf];omega
         ·have e4:(z==45)=false:=by simpa using hch
          have e5:(z !=45)=true:=by simpa using hch
          have hb2:=Lh (NameL.bad h1 (by rw[hok.out];unfold digitB;simp;omega))
          go_wp2_with (go_at_call 121;(with_reducible refine(RL.out _).mono ?_);rintro e w2 ⟨rfl,rfl⟩)
          go_ret
          exact GivesQ.no hb2.out G.out
       ·by_cases d2:57<z
        ·have g1:decide (z≤57)=false:=by simp;omega
         have e2:(z==45)=false:=by simp;omega
         have e3:(z !=45)=true:=by simp;omega
         by_cases hend:i+1=l.length
         ·have e1:((i:Int)==(l.length:Int)-1)=true:=by simp;omega
          have hb2:=Lh (NameL.bad h1 (by rw[hok.out];unfold digitB;simp;omega))
          go_wp2_with (go_at_call 121;(with_reducible refine(RL.out _).mono ?_);rintro e w2 ⟨rfl,rfl⟩)
          go_ret
          exact GivesQ.no hb2.out G.out
         ·have e1:((i:Int)==(l.length:Int)-1)=false:=by simp;omega
          by_cases hch:z=95
          ·subst hch
           have hn:=Lh (hnext.out (by rw[hok.out];unfold digitB;simp;omega))
           go_wp2_with (go_at_call 121;(with_reducible refine(RL.out _).mono ?_);rintro e w2 ⟨rfl,rfl⟩)
           go_round
           case rel=>exact⟨i+1,by omega,by go_num,hn⟩
           case measure=>simp[intOf];omega
          ·have e4:(z==95)=false:=by simpa using hch
           have e5:(z !=95)=true:=by simpa using hch
           have hb2:=Lh (NameL.bad h1 (by rw[hok.out];unfold digitB;simp;omega))
           go_wp2_with (go_at_call 121;(with_reducible refine(RL.out _).mono ?_);rintro e w2 ⟨rfl,rfl⟩)
           go_ret
           exact GivesQ.no hb2.out G.out
        ·have d3:z≤57:=by omega
         have hn:=Lh (hnext.out (by rw[hok.out];unfold digitB;simp;omega))
         go_wp2_with (go_at_call 121;(with_reducible refine(RL.out _).mono ?_);rintro e w2 ⟨rfl,rfl⟩)
         go_round
         case rel=>exact⟨i+1,by omega,by go_num,hn⟩
         case measure=>simp[intOf];omega
     ·have hfin:Hid (NameL l):=⟨hpos,hl24,by rw[HZ0.out];exact HQ0.out,fun j hj=>hall.out j (by omega)⟩
      go_wp2
      go_ret
      exact GivesQ.yes hfin.out G.out
end
section
open Go.RowKit
theorem quoteB_len {l:List Int} (h: ∀z∈l,-1≤z∧z≤1114111):(quoteB l).length≤9*l.length:=by
 induction l with
 |nil=>simp[quoteB]
 |cons z l ih=>
  have h1:=quoteR_len (h z List.mem_cons_self).2
  have h2:=ih (fun x hx=>h x (List.mem_cons_of_mem _ hx))
  unfold quoteB at*
  rw[List.flatMap_cons,List.length_append,Jq]
  omega
end
section
open Go.RowKit
theorem right_yes (p:Int) (w:World) (h:p≤1000000):Calls Tryz.prog 236 #[.int .u32 p] w fun e w'=>e= .returned (.bool true)∧w=w':=by
 go_enter Tryz.func236,Tryz.ntmps236
 go_wp2
 go_ret
 exact⟨rfl,rfl⟩
theorem pdigits_any (n:Int) (w:World) (h0:0≤n) (h1:n≤4294967295):
  Calls Tryz.prog 237 #[.int .u32 n] w fun e w'=>e= .returned (.string (strOfNums (dec n.toNat)))∧Below w.heap.size w w':=by
 go_enter Tryz.func237,Tryz.ntmps237
 go_wp2_with (go_at_call 234;(with_reducible refine(print_any 0 n n.toNat _ (IsW.small h0 (by omega))).mono ?_);rintro e w1 ⟨rfl,g1⟩)
 go_ret
 exact⟨rfl,g1⟩
theorem str_percent (l:List Int):strOfNums l++⟨#[37]⟩=strOfNums (l++ [37]):=strOfNums_append l [37]
theorem str_point (l:List Int):strOfNums l++⟨#[46]⟩=strOfNums (l++ [46]):=strOfNums_append l [46]
theorem dec_small_len {n:Nat} (h:n≤1000000):(dec n).length≤39:=dec_len (by unfold W128;omega)
theorem five_tail (l:Nat) (h:l<10000):(strOfNums (dec (10000+l))).extract 1 (strOfNums (dec (10000+l))).size=strOfNums [48+((l/1000:Nat):Int),48+((l/100%10:Nat):Int),48+((l/10%10:Nat):Int),48+((l%10:Nat):Int)]:=by
 rw[dec_five l h,Lib.extract_from]
 rfl
theorem byte_digit (n:Nat) (h:n≤9):UInt8.ofNat (48+(n:Int)).toNat=48↔n=0:=by
 constructor
 ·intro e
  have:=congrArg UInt8.toNat e
  simp only[UInt8.toNat_ofNat']at this
  have e2:(48:UInt8).toNat=48:=rfl
  omega
 ·rintro rfl;rfl
theorem trim_four (l:Nat) (h:l<10000):Lib.trimRightB (strOfNums [48+((l/1000:Nat):Int),48+((l/100%10:Nat):Int),48+((l/10%10:Nat):Int),48+((l%10:Nat):Int)]).data.toList 48=(strOfNums (fr 4 l)).data.toList:=by
 have b1:=byte_digit (l/1000) (by omega)
 have b2:=byte_digit (l/100%10) (by omega)
 have b3:=byte_digit (l/10%10) (by omega)
 have b4:=byte_digit (l%10) (by omega)
 rw[fr_four l h]
 unfold Lib.trimRightB strOfNums
 simp only[List.map_cons,List.map_nil,List.reverse_cons,List.reverse_nil,List.nil_append,List.cons_append,List.dropWhile_cons,beq_iff_eq,b1,b2,b3,b4]
 by_cases h1:l%10=0
 ·by_cases h2:l%100=0
  ·by_cases h3:l%1000=0
   ·by_cases h4:l=0
    ·subst h4;rfl
    ·rw[if_pos h1,if_pos (show l/10%10=0 by omega),if_pos (show l/100%10=0 by omega),if_neg (show¬l/1000=0 by omega),if_neg (show¬¬l%10=0 by omega),if_neg (show¬¬l%100=0 by omega),if_neg (show¬¬l%1000=0 by omega),if_pos h4];rfl
   ·rw[if_pos h1,if_pos (show l/10%10=0 by omega),if_neg (show¬l/100%10=0 by omega),if_neg (show¬¬l%10=0 by omega),if_neg (show¬¬l%100=0 by omega),if_pos h3];rfl
  ·rw[if_pos h1,if_neg (show¬l/10%10=0 by omega),if_neg (show¬¬l%10=0 by omega),if_pos h2];rfl
 ·rw[if_neg h1,if_pos h1];rfl
theorem pct_whole (p:Nat) (h:p%10000=0):strOfNums (dec (p/10000))++⟨#[37]⟩=strOfNums (pct p):=by
 unfold pct tailOf;rw[if_pos h,str_percent];rfl
theorem pct_left (p:Nat) (h: ¬p%10000=0):strOfNums (dec (p/10000))++⟨#[46]⟩++strOfNums (fr 4 (p%10000))++⟨#[37]⟩=strOfNums (pct p):=by
 unfold pct tailOf;rw[if_neg h,str_point,strOfNums_append,str_percent];simp
theorem pprint_any (p:Int) (w:World) (h0:0≤p) (h:p≤1000000):
  Calls Tryz.prog 208 #[.int .u32 p] w fun e w'=>e= .returned (.string (strOfNums (pct p.toNat)))∧Below w.heap.size w w':=by
 obtain⟨q,hq⟩: ∃q,p/10000=q:=⟨_,rfl⟩
 obtain⟨l,hl⟩: ∃l,p%10000=l:=⟨_,rfl⟩
 have q0:0≤q:=by omega
 have q1:q≤100:=by omega
 have l0:0≤l:=by omega
 have l1:l≤9999:=by omega
 have hqn:Hid (q.toNat=p.toNat/10000):=by unfold Hid;omega
 have hln:Hid (l.toNat=p.toNat%10000):=by unfold Hid;omega
 have hlen:Hid ((dec q.toNat).length≤39):=dec_small_len (by omega)
 by_cases hz:l=0
 ·subst hz
  have hfin:=Lh (pct_whole p.toNat (by have:=hln.out;omega))
  have hsz:(strOfNums (dec q.toNat)).size+(⟨#[37]⟩:ByteArray).size≤9223372036854775807:=by rw[strOfNums_size];have:=hlen.out;have e:(⟨#[37]⟩:ByteArray).size=1:=rfl;omega
  go_enter Tryz.func208,Tryz.ntmps208
  go_wp2_with (first
   |(go_at_call 236;(with_reducible refine(right_yes p _ h).mono ?_);rintro e w1 ⟨rfl,rfl⟩)
   |(go_at_call 237;(with_reducible refine(pdigits_any q _ q0 (by omega)).mono ?_);rintro e w1 ⟨rfl,g1⟩))
  go_ret
  exact⟨by rw[←hfin.out,←hqn.out];rfl,g1⟩
 ·have hzb:(l==0)=false:=by simpa using hz
  have hfin:=Lh (pct_left p.toNat (by have:=hln.out;omega))
  have hne:Hid (l.toNat<10000):=by unfold Hid;omega
  have htn:Hid ((10000+l).toNat=10000+l.toNat):=by unfold Hid;omega
  have hs5:(strOfNums (dec (10000+l).toNat)).size=5:=by rw[htn.out,dec_five _ hne.out];rfl
  obtain⟨four,hfour⟩: ∃four,(strOfNums (dec (10000+l).toNat)).extract 1 5=four:=⟨_,rfl⟩
  have hf4:Hid (four=strOfNums [48+((l.toNat/1000:Nat):Int),48+((l.toNat/100%10:Nat):Int),48+((l.toNat/10%10:Nat):Int),48+((l.toNat%10:Nat):Int)]):=by
   unfold Hid
   rw[←hfour,←five_tail l.toNat hne.out,←htn.out,hs5]
  have htrim: ∀w,Calls Tryz.prog 235 #[.string four, .string ⟨#[48]⟩] w fun e w'=>e= .returned (.string (strOfNums (fr 4 l.toNat)))∧w=w':=fun w=>by
   refine(Tryz.strings_TrimRight_one four 48 (by decide) w (by rw[hf4.out,strOfNums_size];simp)).mono ?_
   rintro e w' ⟨rfl,hw⟩
   exact⟨by rw[hf4.out,trim_four _ hne.out],hw.symm⟩
  have hsq:(strOfNums (dec q.toNat)).size≤39:=by rw[strOfNums_size];exact hlen.out
  have hsf:(strOfNums (fr 4 l.toNat)).size≤4:=by rw[strOfNums_size];exact fr_len _ _
  have hs1:(strOfNums (dec q.toNat)).size+1≤9223372036854775807:=by omega
  have hs2:(strOfNums (dec q.toNat)).size+1+(strOfNums (fr 4 l.toNat)).size≤9223372036854775807:=by omega
  have hs3:(strOfNums (dec q.toNat)).size+1+(strOfNums (fr 4 l.toNat)).size+1≤9223372036854775807:=by omega
  clear hz
  have HT:=Lh htrim
  clear htrim
  go_enter Tryz.func208,Tryz.ntmps208
  go_wp2_with (first
   |(go_at_call 236;(with_reducible refine(right_yes p _ h).mono ?_);rintro e w1 ⟨rfl,rfl⟩)
   |(go_at_call 237;(with_reducible refine(pdigits_any (10000+l) _ (by omega) (by omega)).mono ?_);rintro e w1 ⟨rfl,g1⟩)
   |(go_at_call 237;(with_reducible refine(pdigits_any q _ q0 (by omega)).mono ?_);rintro e w2 ⟨rfl,g2⟩)
   |(go_at_call 235;(with_reducible refine(HT.out _).mono ?_);rintro e w' ⟨rfl,rfl⟩))
  go_ret
  exact⟨by rw[←hfin.out,←hqn.out,←hln.out];rfl,below_step g1 g2⟩
def GivesCut (q r:Nat) (c:Int) (w:World) (e:Ending) (w':World):Prop:= ∃x y:Int,e= .returned (.tuple #[.int .u64 x, .int .u64 y, .int .i64 c])∧0≤x∧x≤18446744073709551615∧x.toNat=q∧0≤y∧y≤18446744073709551615∧y.toNat=r∧Below w.heap.size w w'
def GivesPC (N:Nat) (c:Int) (w:World) (e:Ending) (w':World):Prop:= ∃x:Int,e= .returned (.tuple #[.int .u32 x, .int .i64 c])∧0≤x∧x≤4294967295∧x.toNat=N∧Below w.heap.size w w'
end
section
open Go.RowKit
structure BAt (B:List Int) (pos:Nat) (P u z:Int):Prop where
 few:pos≤4
 len:pos≤B.length
 p:P=(pv B pos:Int)
 u:u=((10^(4-pos):Nat):Int)
 z:(pos=0∧z=48)∨(1≤pos∧B.getD (pos-1) 0=z)
 all: ∀i,i<pos→48≤B.getD i 0∧B.getD i 0≤57
def GivesB2 (B:List Int) (w:World) (e:Ending) (w':World):Prop:= ∃(x:Int) (b:Bool),e= .returned (.tuple #[.int .u64 x, .bool b])∧(b=true↔Fr B)∧(b=true→x=(pv B 4:Int))∧Below w.heap.size w w'
end
section
open Go.RowKit
def Shape (s:ByteArray) (p:Nat):Prop:= ∃ys A B d,nums s=ys++ [37]∧Halves ys A B d∧Written A B d∧parts A B=p
def WhenFr (d:Bool) (B:List Int):Prop:=d=true→Fr B
end
section
open Go.RowKit
structure Ends (s:ByteArray) (ys A B:List Int) (d:Bool):Prop where
 all:nums s=ys++ [37]
 halves:Halves ys A B d
def Outcome (R:Nat→Int→Prop) (s:ByteArray):Prop:=
 ((¬∃ys,nums s=ys++ [37])∧R 0 5)∨∃ys A B d,Ends s ys A B d∧((¬Written A B d∧R 0 5)∨(Written A B d∧1000000<parts A B∧R 0 8)∨(Written A B d∧parts A B≤1000000∧R (parts A B) 0))
end
section
open Go.RowKit
def ExactOut (s:ByteArray) (x c:Int):Prop:= ∃y d,SpanOut (nums s) y d∧((d=0∧strOfNums (spn y.toNat)=s∧x=y∧c=0)∨(d=0∧strOfNums (spn y.toNat)≠s∧x=0∧c=5)∨(d≠0∧x=0∧c=d))
def GivesExact (s:ByteArray) (w:World) (e:Ending) (w':World):Prop:= ∃x c:Int,e= .returned (.tuple #[.int .i64 x, .int .i64 c])∧ExactOut s x c∧Below w.heap.size w w'
def roundI (n u:Int):Int:=if n<0∨253402300799<n∨u<1 then 0 else if n%u=0∨253402300799<u∨253402300799/u≤n/u then n else(n/u+1)*u
end
section
open Go.RowKit
structure ReadAt (zs:List Int) (l:List Bool) (k:Nat):Prop where
 len:l.length≤129+5*k
 num:val l=numOf (zs.take k)
structure RdMem (w wr:World):Prop where
 r0:wr.cell? ⟨w.heap.size,0,none⟩=some (.int .u64 0)
 r1:wr.cell? ⟨w.heap.size,1,none⟩=some (.int .u64 0)
 q0:wr.frozen? ⟨w.heap.size,0,none⟩=false
 q1:wr.frozen? ⟨w.heap.size,1,none⟩=false
 ten:Bools wr (.slice (some ⟨w.heap.size+1+1,0,none⟩) 4 4) [false,true,false,true]
 s0:w.heap.size<wr.heap.size
 bel:Below w.heap.size w wr
end
section
open Go.RowKit
end
section
open Go.RowKit
end
section
open Go.RowKit
def spadL (B:List Int):List Int:=B++List.replicate (3-B.length) 48
end
section
structure TkV where
 kind:Nat
 text:List Int
 n:Nat
def tk0:TkV:=⟨0,[],0⟩
noncomputable def shareF (zs:List Int):Nat×Int:=
 open Classical in
 if h: ∃p:List Int×List Int,∃ys d,zs=ys++ [37]∧Halves ys p.1 p.2 d∧Written p.1 p.2 d then(if 1000000<parts h.choose.1 h.choose.2 then(0,8)else(parts h.choose.1 h.choose.2,0))else(0,5)
noncomputable def spanF (zs:List Int):Nat×Int:=
 open Classical in
 if h: ∃N,Tells zs N then(if h.choose≤253402300799 then(h.choose,0)else(0,8))else(0,5)
def numT (k:Nat) (p:Nat×Int):TkV×Int:=if p.2=0 then(⟨k,[],p.1⟩,0)else(tk0,p.2)
def headP (zs:List Int):List Int:=zs.takeWhile (fun z=>decide (z≠46))
def tailP (zs:List Int):List Int:=(zs.dropWhile (fun z=>decide (z≠46))).tail
noncomputable def valF (l:List Int):TkV×Int:=
 open Classical in
 if l= []∨digitB (l.getD 0 0)=false then(if NameL l then(⟨1,textR l,0⟩,0)else(tk0,5))
 else if AllD (textR l)then numT 3 (numF (textR l))
 else if(textR l).getD ((textR l).length-1) 0=37 then numT 5 (shareF (textR l))
 else if 46∈textR l then numT 4 (facF (headP (textR l)) (tailP (textR l)))
 else numT 6 (spanF (textR l))
def RunesOk (l:List Int):Prop:= ∀r∈l,r= -1∨RuneOk r
end
section
open Go.RowKit
def isD (z:Int):Prop:=48≤z∧z≤57
structure Lets (s:ByteArray) (A B:List Int) (d:Bool):Prop where
 size:s.size=if d then A.length+B.length+2 else A.length+1
 ahead: ∀i,i<A.length→(nums s).getD i 0=A.getD i 0∧A.getD i 0≠46
 point:d=true→(nums s).getD A.length 0=46
 behind: ∀i,i<B.length→(nums s).getD (A.length+1+i) 0=B.getD i 0
 last:(nums s).getD (s.size-1) 0=37
 nil:d=false→B= []
def dotI (a n k:Nat):Int:=if k≤a then(n:Int)-1 else a
def DigTo (s:ByteArray) (a k:Nat):Prop:= ∀i,i<k→i≠a→isD ((nums s).getD i 0)
def vv (A B:List Int):Nat→Nat
 |0=>numOf A
 |k+1=>10*vv A B k+dB B k
def GivesRd (A B:List Int) (d:Bool) (w:World) (e:Ending) (w':World):Prop:= ∃(N:Nat) (c x:Int),e= .returned (.tuple #[.int .u32 x, .int .i64 c])∧x=(N:Int)∧
 ((¬Written A B d∧N=0∧c=5)∨(Written A B d∧1000000<parts A B∧N=0∧c=8)∨(Written A B d∧parts A B≤1000000∧N=parts A B∧c=0))∧w=w'
end
section
open Go.RowKit
end
section
open Go.RowKit
structure FrAt (L k m:Nat) (xs:List Int):Prop where
 le:k≤4
 lt:m<10000
 all:fr 4 L=xs++fr k m
 div:m%10^(4-k)=0
 len:xs.length≤4-k
def preOf (p:Nat):List Int:=dec (p/10000)++(if p%10000=0 then []else [46])
end
section
open Go.RowKit
end
section
open Go.RowKit
def GivesUnq (l:List Int) (w:World) (e:Ending) (w':World):Prop:= ∃t c,e= .returned (.tuple #[.string (strOfNums t), .int .i64 c])∧UnqL l t c∧Below w.heap.size w w'
def bdH:Nat→Int
 |0=>0
 |k+1=>16*bdH k+15
end
section
open Go.RowKit
theorem spright_yes (n:Int) (w:World) (h0:0≤n) (h1:n≤253402300799):Calls Tryz.prog 238 #[.int .i64 n] w fun e w'=>e= .returned (.bool true)∧w=w':=by
 go_enter Tryz.func238,Tryz.ntmps238
 go_wp2
 go_ret
 exact⟨rfl,rfl⟩
theorem spunit_any (r:Int) (w:World):Calls Tryz.prog 239 #[.int .i32 r] w fun e w'=>e= .returned (.int .i64 (unitOf r))∧Below w.heap.size w w':=by
 by_cases c119:r=119
 ·subst c119
  go_enter Tryz.func239,Tryz.ntmps239
  go_wp2
  go_ret
  exact⟨rfl,Mj _ _⟩
 by_cases c100:r=100
 ·subst c100
  clear c119
  go_enter Tryz.func239,Tryz.ntmps239
  go_wp2
  go_ret
  exact⟨rfl,Mj _ _⟩
 by_cases c104:r=104
 ·subst c104
  clear c119
  clear c100
  go_enter Tryz.func239,Tryz.ntmps239
  go_wp2
  go_ret
  exact⟨rfl,Mj _ _⟩
 by_cases c109:r=109
 ·subst c109
  clear c119
  clear c100
  clear c104
  go_enter Tryz.func239,Tryz.ntmps239
  go_wp2
  go_ret
  exact⟨rfl,Mj _ _⟩
 by_cases c115:r=115
 ·subst c115
  clear c119
  clear c100
  clear c104
  clear c109
  go_enter Tryz.func239,Tryz.ntmps239
  go_wp2
  go_ret
  exact⟨rfl,Mj _ _⟩
 have hz:Hid (unitOf r=0):=by
  unfold Hid unitOf
  rw[if_neg c119,if_neg c100,if_neg c104,if_neg c109,if_neg c115]
 have d119:(r==119)=false:=by simpa using c119
 have d100:(r==100)=false:=by simpa using c100
 have d104:(r==104)=false:=by simpa using c104
 have d109:(r==109)=false:=by simpa using c109
 have d115:(r==115)=false:=by simpa using c115
 go_enter Tryz.func239,Tryz.ntmps239
 go_wp2
 go_ret
 exact⟨by rw[hz.out];rfl,Mj _ _⟩
structure SPMem (w wr:World) (s:ByteArray) (pos:Nat):Prop where
 it:wr.heap[w.heap.size]?=some (.stringIter s pos)
 bel:Below w.heap.size w wr
 s1:w.heap.size<wr.heap.size
theorem SPMem.start (w:World) (s:ByteArray):SPMem w (w.iter s 0) s 0:=⟨World.iter_heap w s 0,(Mj _ _).alloc (Mz _) _,by simp[World.iter]⟩
theorem SPMem.after {w wr w2:World} {s:ByteArray} {pos:Nat} (h:SPMem w wr s pos) (hb:Below wr.heap.size wr w2):SPMem w w2 s pos:=by
 obtain⟨it,bel,s1⟩:=h
 have:=hb.size
 exact⟨(hb.block _ s1).trans it,bel.trans (hb.mono bel.size),by omega⟩
theorem SPMem.next {w wr:World} {s:ByteArray} {pos:Nat} (h:SPMem w wr s pos) (p:Nat):SPMem w (wr.iterAt w.heap.size s p) s p:=by
 obtain⟨it,bel,s1⟩:=h
 exact⟨Lib.iterAt_heap wr _ s pos p it,Lib.below_iterAt bel (Mz _) s p,by rw[Lib.iterAt_size];exact s1⟩
theorem spprint_any (n:Int) (w:World) (h0:0≤n) (h1:n≤253402300799) (hT:Tab w):
  Calls Tryz.prog 209 #[.int .i64 n] w fun e w'=>e= .returned (.string (strOfNums (spn n.toNat)))∧Below w.heap.size w w':=by
 obtain⟨N,rfl⟩: ∃N:Nat,n=N:=⟨n.toNat,by omega⟩
 rw[Int.toNat_natCast]
 by_cases hz:N=0
 ·subst hz
  go_enter Tryz.func209,Tryz.ntmps209
  go_wp2_with (go_at_call 238;(with_reducible refine(spright_yes _ _ (by decide) (by decide)).mono ?_);rintro e w1 ⟨rfl,rfl⟩)
  go_ret
  exact⟨rfl,Mj _ _⟩
 ·have hsp:Hid (spn N=sp units N):=by unfold Hid spn;rw[if_neg hz]
  have hz1:((N:Int)==0)=false:=by simp;omega
  have hz2: ¬(N:Int)=0:=by omega
  clear hz
  go_enter Tryz.func209,Tryz.ntmps209
  go_wp2_with (go_at_call 238;(with_reducible refine(spright_yes _ _ h0 h1).mono ?_);rintro e w1 ⟨rfl,rfl⟩)
  go_loopw [0,3] (fun v0 v3 wr=> ∃(k m:Nat) (xs:List Int),k≤5∧v0= .int .i64 m∧v3= .string (strOfNums xs)∧SpAt N k m xs∧SPMem w wr ⟨#[119,100,104,109,115]⟩ k) (fun _ _ wr=>5-wr.iterPos w.heap.size)
  case atStart=>exact⟨0,N,[],by omega,rfl,rfl,SpAt.start N (by omega),SPMem.start _ _⟩
  case round=>
   obtain⟨k,m,xs,hk,rfl,rfl,hS,hM⟩:=hrel
   have HS:=Lh hS
   have hm9:(m:Int)≤253402300799:=by have:=hS.le;omega
   have hlx:(strOfNums xs).size≤200:=by rw[strOfNums_size];have:=hS.len;omega
   have hM0:=Lh hM.it
   clear hS
   have hk6:k=0∨k=1∨k=2∨k=3∨k=4∨k=5:=by omega
   rcases hk6 with rfl|rfl|rfl|rfl|rfl|rfl
   ·have hnx: ∀ty,(Instr.next (.pointer (some ⟨w.heap.size,0,none⟩)) true ty).run Tryz.prog wr= .ok (.tuple #[.bool true, .int .i64 0, .int .i32 119]) (wr.iterAt w.heap.size ⟨#[119,100,104,109,115]⟩ 1):=fun ty=>Lib.run_next_ascii_at wr w.heap.size ⟨#[119,100,104,109,115]⟩ 0 ty hM.it (by decide) (by decide)
    have M1:=Lh (hM.next 1)
    have hbel:=Lh hM.bel
    clear hM
    have HU:Hid (unitOf 119=604800):=rfl
    have henc:Utf8.encode 119=⟨#[119]⟩:=rfl
    by_cases hc:604800≤m
    ·have hnext:=Lh (HS.out.yes (c:=119) (r:= [100,104,109,115]) rfl rfl (by rw[HU.out];exact hc))
     obtain⟨q,hq⟩: ∃q:Nat,(m:Int)/604800=(q:Int):=⟨m/604800,by omega⟩
     obtain⟨y,hy⟩: ∃y:Nat,(m:Int)%604800=(y:Int):=⟨m%604800,by omega⟩
     have hqn:Hid (q=m/unitOf 119):=by unfold Hid;rw[HU.out];omega
     have hyn:Hid (y=m%unitOf 119):=by unfold Hid;rw[HU.out];omega
     have hq9:(q:Int)≤253402300799:=by omega
     have hlq:(strOfNums (dec q)).size≤39:=by rw[strOfNums_size];exact dec_len (by unfold W128;omega)
     have hqt:(m:Int).tdiv 604800=(q:Int):=by rw[Int.tdiv_eq_ediv_of_nonneg (by omega)];exact hq
     have hyt:(m:Int).tmod 604800=(y:Int):=by rw[Int.tmod_eq_emod_of_nonneg (by omega)];exact hy
     have hqw:IntKind.i64.wrap (q:Int)=(q:Int):=by rw[IntKind.wrap_i64];omega
     have hci:(604800:Int)≤m:=by omega
     have hs1n: ¬9223372036854775807<(strOfNums (dec q)).size+1:=by omega
     have hs2n: ¬9223372036854775807<(strOfNums xs).size+((strOfNums (dec q)).size+1):=by omega
     have hstr:Hid (strOfNums xs++(strOfNums (dec q)++⟨#[119]⟩)=strOfNums (xs++(dec (m/unitOf 119)++ [119]))):=by unfold Hid;rw[show(⟨#[119]⟩:ByteArray)=strOfNums [119] from rfl,strOfNums_append,strOfNums_append,hqn.out]
     clear hc
     go_wp2_with (first
      |(go_at_call 239;(with_reducible refine(spunit_any 119 _).mono ?_);rintro e w1 ⟨rfl,g1⟩;rw[HU.out];have M2:=Lh (M1.out.after g1))
      |(go_at_call 240;(with_reducible refine(fmt_any (q:Int) _ (by omega) (by omega) (hT.step M2.out.bel)).mono ?_);rintro e w2 ⟨rfl,g2⟩;rw[Int.toNat_natCast];have M3:=Lh (M2.out.after g2)))
     go_roundw
     case rel=>exact⟨1,y,_,by omega,by first|rfl|rw[hyt]|exact congrArg (Value.int IntKind.i64) (by omega),by rw[hstr.out],by rw[hyn.out];exact hnext.out,M3.out⟩
     case measure=>rw[iterPos_of M3.out.it,iterPos_of hM0.out];omega
    ·have hnext:=Lh (HS.out.no (c:=119) (r:= [100,104,109,115]) rfl rfl (by rw[HU.out];exact hc))
     have hcd:decide ((m:Int)≥604800)=false:=by simp;omega
     have hyt:(m:Int).tmod 604800=(m:Int):=by rw[Int.tmod_eq_emod_of_nonneg (by omega)];omega
     clear hc
     go_wp2_with (go_at_call 239;(with_reducible refine(spunit_any 119 _).mono ?_);rintro e w1 ⟨rfl,g1⟩;rw[HU.out];have M2:=Lh (M1.out.after g1))
     go_roundw
     case rel=>exact⟨1,m,xs,by omega,by first|rfl|rw[hyt]|exact congrArg (Value.int IntKind.i64) (by omega),rfl,hnext.out,M2.out⟩
     case measure=>rw[iterPos_of M2.out.it,iterPos_of hM0.out];omega
   ·have hnx: ∀ty,(Instr.next (.pointer (some ⟨w.heap.size,0,none⟩)) true ty).run Tryz.prog wr= .ok (.tuple #[.bool true, .int .i64 1, .int .i32 100]) (wr.iterAt w.heap.size ⟨#[119,100,104,109,115]⟩ 2):=fun ty=>Lib.run_next_ascii_at wr w.heap.size ⟨#[119,100,104,109,115]⟩ 1 ty hM.it (by decide) (by decide)
    have M1:=Lh (hM.next 2)
    have hbel:=Lh hM.bel
    clear hM
    have HU:Hid (unitOf 100=86400):=rfl
    have henc:Utf8.encode 100=⟨#[100]⟩:=rfl
    by_cases hc:86400≤m
    ·have hnext:=Lh (HS.out.yes (c:=100) (r:= [104,109,115]) rfl rfl (by rw[HU.out];exact hc))
     obtain⟨q,hq⟩: ∃q:Nat,(m:Int)/86400=(q:Int):=⟨m/86400,by omega⟩
     obtain⟨y,hy⟩: ∃y:Nat,(m:Int)%86400=(y:Int):=⟨m%86400,by omega⟩
     have hqn:Hid (q=m/unitOf 100):=by unfold Hid;rw[HU.out];omega
     have hyn:Hid (y=m%unitOf 100):=by unfold Hid;rw[HU.out];omega
     have hq9:(q:Int)≤253402300799:=by omega
     have hlq:(strOfNums (dec q)).size≤39:=by rw[strOfNums_size];exact dec_len (by unfold W128;omega)
     have hqt:(m:Int).tdiv 86400=(q:Int):=by rw[Int.tdiv_eq_ediv_of_nonneg (by omega)];exact hq
     have hyt:(m:Int).tmod 86400=(y:Int):=by rw[Int.tmod_eq_emod_of_nonneg (by omega)];exact hy
     have hqw:IntKind.i64.wrap (q:Int)=(q:Int):=by rw[IntKind.wrap_i64];omega
     have hci:(86400:Int)≤m:=by omega
     have hs1n: ¬9223372036854775807<(strOfNums (dec q)).size+1:=by omega
     have hs2n: ¬9223372036854775807<(strOfNums xs).size+((strOfNums (dec q)).size+1):=by omega
     have hstr:Hid (strOfNums xs++(strOfNums (dec q)++⟨#[100]⟩)=strOfNums (xs++(dec (m/unitOf 100)++ [100]))):=by unfold Hid;rw[show(⟨#[100]⟩:ByteArray)=strOfNums [100] from rfl,strOfNums_append,strOfNums_append,hqn.out]
     clear hc
     go_wp2_with (first
      |(go_at_call 239;(with_reducible refine(spunit_any 100 _).mono ?_);rintro e w1 ⟨rfl,g1⟩;rw[HU.out];have M2:=Lh (M1.out.after g1))
      |(go_at_call 240;(with_reducible refine(fmt_any (q:Int) _ (by omega) (by omega) (hT.step M2.out.bel)).mono ?_);rintro e w2 ⟨rfl,g2⟩;rw[Int.toNat_natCast];have M3:=Lh (M2.out.after g2)))
     go_roundw
     case rel=>exact⟨2,y,_,by omega,by first|rfl|rw[hyt]|exact congrArg (Value.int IntKind.i64) (by omega),by rw[hstr.out],by rw[hyn.out];exact hnext.out,M3.out⟩
     case measure=>rw[iterPos_of M3.out.it,iterPos_of hM0.out];omega
    ·have hnext:=Lh (HS.out.no (c:=100) (r:= [104,109,115]) rfl rfl (by rw[HU.out];exact hc))
     have hcd:decide ((m:Int)≥86400)=false:=by simp;omega
     have hyt:(m:Int).tmod 86400=(m:Int):=by rw[Int.tmod_eq_emod_of_nonneg (by omega)];omega
     clear hc
     go_wp2_with (go_at_call 239;(with_reducible refine(spunit_any 100 _).mono ?_);rintro e w1 ⟨rfl,g1⟩;rw[HU.out];have M2:=Lh (M1.out.after g1))
     go_roundw
     case rel=>exact⟨2,m,xs,by omega,by first|rfl|rw[hyt]|exact congrArg (Value.int IntKind.i64) (by omega),rfl,hnext.out,M2.out⟩
     case measure=>rw[iterPos_of M2.out.it,iterPos_of hM0.out];omega
   ·have hnx: ∀ty,(Instr.next (.pointer (some ⟨w.heap.size,0,none⟩)) true ty).run Tryz.prog wr= .ok (.tuple #[.bool true, .int .i64 2, .int .i32 104]) (wr.iterAt w.heap.size ⟨#[119,100,104,109,115]⟩ 3):=fun ty=>Lib.run_next_ascii_at wr w.heap.size ⟨#[119,100,104,109,115]⟩ 2 ty hM.it (by decide) (by decide)
    have M1:=Lh (hM.next 3)
    have hbel:=Lh hM.bel
    clear hM
    have HU:Hid (unitOf 104=3600):=rfl
    have henc:Utf8.encode 104=⟨#[104]⟩:=rfl
    by_cases hc:3600≤m
    ·have hnext:=Lh (HS.out.yes (c:=104) (r:= [109,115]) rfl rfl (by rw[HU.out];exact hc))
     obtain⟨q,hq⟩: ∃q:Nat,(m:Int)/3600=(q:Int):=⟨m/3600,by omega⟩
     obtain⟨y,hy⟩: ∃y:Nat,(m:Int)%3600=(y:Int):=⟨m%3600,by omega⟩
     have hqn:Hid (q=m/unitOf 104):=by unfold Hid;rw[HU.out];omega
     have hyn:Hid (y=m%unitOf 104):=by unfold Hid;rw[HU.out];omega
     have hq9:(q:Int)≤253402300799:=by omega
     have hlq:(strOfNums (dec q)).size≤39:=by rw[strOfNums_size];exact dec_len (by unfold W128;omega)
     have hqt:(m:Int).tdiv 3600=(q:Int):=by rw[Int.tdiv_eq_ediv_of_nonneg (by omega)];exact hq
     have hyt:(m:Int).tmod 3600=(y:Int):=by rw[Int.tmod_eq_emod_of_nonneg (by omega)];exact hy
     have hqw:IntKind.i64.wrap (q:Int)=(q:Int):=by rw[IntKind.wrap_i64];omega
     have hci:(3600:Int)≤m:=by omega
     have hs1n: ¬9223372036854775807<(strOfNums (dec q)).size+1:=by omega
     have hs2n: ¬9223372036854775807<(strOfNums xs).size+((strOfNums (dec q)).size+1):=by omega
     have hstr:Hid (strOfNums xs++(strOfNums (dec q)++⟨#[104]⟩)=strOfNums (xs++(dec (m/unitOf 104)++ [104]))):=by unfold Hid;rw[show(⟨#[104]⟩:ByteArray)=strOfNums [104] from rfl,strOfNums_append,strOfNums_append,hqn.out]
     clear hc
     go_wp2_with (first
      |(go_at_call 239;(with_reducible refine(spunit_any 104 _).mono ?_);rintro e w1 ⟨rfl,g1⟩;rw[HU.out];have M2:=Lh (M1.out.after g1))
      |(go_at_call 240;(with_reducible refine(fmt_any (q:Int) _ (by omega) (by omega) (hT.step M2.out.bel)).mono ?_);rintro e w2 ⟨rfl,g2⟩;rw[Int.toNat_natCast];have M3:=Lh (M2.out.after g2)))
     go_roundw
     case rel=>exact⟨3,y,_,by omega,by first|rfl|rw[hyt]|exact congrArg (Value.int IntKind.i64) (by omega),by rw[hstr.out],by rw[hyn.out];exact hnext.out,M3.out⟩
     case measure=>rw[iterPos_of M3.out.it,iterPos_of hM0.out];omega
    ·have hnext:=Lh (HS.out.no (c:=104) (r:= [109,115]) rfl rfl (by rw[HU.out];exact hc))
     have hcd:decide ((m:Int)≥3600)=false:=by simp;omega
     have hyt:(m:Int).tmod 3600=(m:Int):=by rw[Int.tmod_eq_emod_of_nonneg (by omega)];omega
     clear hc
     go_wp2_with (go_at_call 239;(with_reducible refine(spunit_any 104 _).mono ?_);rintro e w1 ⟨rfl,g1⟩;rw[HU.out];have M2:=Lh (M1.out.after g1))
     go_roundw
     case rel=>exact⟨3,m,xs,by omega,by first|rfl|rw[hyt]|exact congrArg (Value.int IntKind.i64) (by omega),rfl,hnext.out,M2.out⟩
     case measure=>rw[iterPos_of M2.out.it,iterPos_of hM0.out];omega
   ·have hnx: ∀ty,(Instr.next (.pointer (some ⟨w.heap.size,0,none⟩)) true ty).run Tryz.prog wr= .ok (.tuple #[.bool true, .int .i64 3, .int .i32 109]) (wr.iterAt w.heap.size ⟨#[119,100,104,109,115]⟩ 4):=fun ty=>Lib.run_next_ascii_at wr w.heap.size ⟨#[119,100,104,109,115]⟩ 3 ty hM.it (by decide) (by decide)
    have M1:=Lh (hM.next 4)
    have hbel:=Lh hM.bel
    clear hM
    have HU:Hid (unitOf 109=60):=rfl
    have henc:Utf8.encode 109=⟨#[109]⟩:=rfl
    by_cases hc:60≤m
    ·have hnext:=Lh (HS.out.yes (c:=109) (r:= [115]) rfl rfl (by rw[HU.out];exact hc))
     obtain⟨q,hq⟩: ∃q:Nat,(m:Int)/60=(q:Int):=⟨m/60,by omega⟩
     obtain⟨y,hy⟩: ∃y:Nat,(m:Int)%60=(y:Int):=⟨m%60,by omega⟩
     have hqn:Hid (q=m/unitOf 109):=by unfold Hid;rw[HU.out];omega
     have hyn:Hid (y=m%unitOf 109):=by unfold Hid;rw[HU.out];omega
     have hq9:(q:Int)≤253402300799:=by omega
     have hlq:(strOfNums (dec q)).size≤39:=by rw[strOfNums_size];exact dec_len (by unfold W128;omega)
     have hqt:(m:Int).tdiv 60=(q:Int):=by rw[Int.tdiv_eq_ediv_of_nonneg (by omega)];exact hq
     have hyt:(m:Int).tmod 60=(y:Int):=by rw[Int.tmod_eq_emod_of_nonneg (by omega)];exact hy
     have hqw:IntKind.i64.wrap (q:Int)=(q:Int):=by rw[IntKind.wrap_i64];omega
     have hci:(60:Int)≤m:=by omega
     have hs1n: ¬9223372036854775807<(strOfNums (dec q)).size+1:=by omega
     have hs2n: ¬9223372036854775807<(strOfNums xs).size+((strOfNums (dec q)).size+1):=by omega
     have hstr:Hid (strOfNums xs++(strOfNums (dec q)++⟨#[109]⟩)=strOfNums (xs++(dec (m/unitOf 109)++ [109]))):=by unfold Hid;rw[show(⟨#[109]⟩:ByteArray)=strOfNums [109] from rfl,strOfNums_append,strOfNums_append,hqn.out]
     clear hc
     go_wp2_with (first
      |(go_at_call 239;(with_reducible refine(spunit_any 109 _).mono ?_);rintro e w1 ⟨rfl,g1⟩;rw[HU.out];have M2:=Lh (M1.out.after g1))
      |(go_at_call 240;(with_reducible refine(fmt_any (q:Int) _ (by omega) (by omega) (hT.step M2.out.bel)).mono ?_);rintro e w2 ⟨rfl,g2⟩;rw[Int.toNat_natCast];have M3:=Lh (M2.out.after g2)))
     go_roundw
     case rel=>exact⟨4,y,_,by omega,by first|rfl|rw[hyt]|exact congrArg (Value.int IntKind.i64) (by omega),by rw[hstr.out],by rw[hyn.out];exact hnext.out,M3.out⟩
     case measure=>rw[iterPos_of M3.out.it,iterPos_of hM0.out];omega
    ·have hnext:=Lh (HS.out.no (c:=109) (r:= [115]) rfl rfl (by rw[HU.out];exact hc))
     have hcd:decide ((m:Int)≥60)=false:=by simp;omega
     have hyt:(m:Int).tmod 60=(m:Int):=by rw[Int.tmod_eq_emod_of_nonneg (by omega)];omega
     clear hc
     go_wp2_with (go_at_call 239;(with_reducible refine(spunit_any 109 _).mono ?_);rintro e w1 ⟨rfl,g1⟩;rw[HU.out];have M2:=Lh (M1.out.after g1))
     go_roundw
     case rel=>exact⟨4,m,xs,by omega,by first|rfl|rw[hyt]|exact congrArg (Value.int IntKind.i64) (by omega),rfl,hnext.out,M2.out⟩
     case measure=>rw[iterPos_of M2.out.it,iterPos_of hM0.out];omega
   ·have hnx: ∀ty,(Instr.next (.pointer (some ⟨w.heap.size,0,none⟩)) true ty).run Tryz.prog wr= .ok (.tuple #[.bool true, .int .i64 4, .int .i32 115]) (wr.iterAt w.heap.size ⟨#[119,100,104,109,115]⟩ 5):=fun ty=>Lib.run_next_ascii_at wr w.heap.size ⟨#[119,100,104,109,115]⟩ 4 ty hM.it (by decide) (by decide)
    have M1:=Lh (hM.next 5)
    have hbel:=Lh hM.bel
    clear hM
    have HU:Hid (unitOf 115=1):=rfl
    have henc:Utf8.encode 115=⟨#[115]⟩:=rfl
    by_cases hc:1≤m
    ·have hnext:=Lh (HS.out.yes (c:=115) (r:= []) rfl rfl (by rw[HU.out];exact hc))
     obtain⟨q,hq⟩: ∃q:Nat,(m:Int)/1=(q:Int):=⟨m/1,by omega⟩
     obtain⟨y,hy⟩: ∃y:Nat,(m:Int)%1=(y:Int):=⟨m%1,by omega⟩
     have hqn:Hid (q=m/unitOf 115):=by unfold Hid;rw[HU.out];omega
     have hyn:Hid (y=m%unitOf 115):=by unfold Hid;rw[HU.out];omega
     have hq9:(q:Int)≤253402300799:=by omega
     have hlq:(strOfNums (dec q)).size≤39:=by rw[strOfNums_size];exact dec_len (by unfold W128;omega)
     have hqt:(m:Int).tdiv 1=(q:Int):=by rw[Int.tdiv_eq_ediv_of_nonneg (by omega)];exact hq
     have hyt:(m:Int).tmod 1=(y:Int):=by rw[Int.tmod_eq_emod_of_nonneg (by omega)];exact hy
     have hqw:IntKind.i64.wrap (q:Int)=(q:Int):=by rw[IntKind.wrap_i64];omega
     have hci:(1:Int)≤m:=by omega
     have hs1n: ¬9223372036854775807<(strOfNums (dec q)).size+1:=by omega
     have hs2n: ¬9223372036854775807<(strOfNums xs).size+((strOfNums (dec q)).size+1):=by omega
     have hstr:Hid (strOfNums xs++(strOfNums (dec q)++⟨#[115]⟩)=strOfNums (xs++(dec (m/unitOf 115)++ [115]))):=by unfold Hid;rw[show(⟨#[115]⟩:ByteArray)=strOfNums [115] from rfl,strOfNums_append,strOfNums_append,hqn.out]
     clear hc
     go_wp2_with (first
      |(go_at_call 239;(with_reducible refine(spunit_any 115 _).mono ?_);rintro e w1 ⟨rfl,g1⟩;rw[HU.out];have M2:=Lh (M1.out.after g1))
      |(go_at_call 240;(with_reducible refine(fmt_any (q:Int) _ (by omega) (by omega) (hT.step M2.out.bel)).mono ?_);rintro e w2 ⟨rfl,g2⟩;rw[Int.toNat_natCast];have M3:=Lh (M2.out.after g2)))
     go_roundw
     case rel=>exact⟨5,y,_,by omega,by first|rfl|rw[hyt]|exact congrArg (Value.int IntKind.i64) (by omega),by rw[hstr.out],by rw[hyn.out];exact hnext.out,M3.out⟩
     case measure=>rw[iterPos_of M3.out.it,iterPos_of hM0.out];omega
    ·have hnext:=Lh (HS.out.no (c:=115) (r:= []) rfl rfl (by rw[HU.out];exact hc))
     have hcd:decide ((m:Int)≥1)=false:=by simp;omega
     have hyt:(m:Int).tmod 1=(m:Int):=by rw[Int.tmod_eq_emod_of_nonneg (by omega)];omega
     clear hc
     go_wp2_with (go_at_call 239;(with_reducible refine(spunit_any 115 _).mono ?_);rintro e w1 ⟨rfl,g1⟩;rw[HU.out];have M2:=Lh (M1.out.after g1))
     go_roundw
     case rel=>exact⟨5,m,xs,by omega,by first|rfl|rw[hyt]|exact congrArg (Value.int IntKind.i64) (by omega),rfl,hnext.out,M2.out⟩
     case measure=>rw[iterPos_of M2.out.it,iterPos_of hM0.out];omega
   ·have hnx: ∀ty,(Instr.next (.pointer (some ⟨w.heap.size,0,none⟩)) true ty).run Tryz.prog wr=_:=fun ty=>Lib.run_next_end_at wr w.heap.size ⟨#[119,100,104,109,115]⟩ 5 ty hM.it (by decide)
    have hbel:=Lh hM.bel
    have hfin:=Lh HS.out.fin
    clear hM
    go_wp2
    go_ret
    exact⟨by rw[hsp.out,hfin.out];rfl,hbel.out⟩
structure LS (zs:List Int) (pos acc lastN N:Nat) (digits:Bool) (sum number last:Int):Prop where
 run:runs St0 (zs.take pos)=some ⟨acc,lastN,if digits=true then some N else none⟩
 zero:digits=false→N=0
 esum:sum=min (acc:Int) 253402300800
 enum:number=min (N:Int) 253402300800
 elast:(last=(lastN:Int)∧lastN≤604800)∨(last=253402300800∧lastN=1000000)
end
end Go.Proofs.YtiapmjkaappcfaaGreatDoor
