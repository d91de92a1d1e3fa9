/-
  A statement that draws its order, with loads, calls and new variables in whatever order, and stores behind all of them: each operation is shown once, by what it waits for. No program in sight.
-/
import Derived.Shelf.Small.Bits
import Derived.Shelf.Utf8.RuneCount
import Derived.Shelf.Strconv.Itoa0
import Derived.Ground.SlgnProg
import Derived.Shelf.SlicesG.Equal
import Derived.Shelf.SlicesG.CompactI
import Derived.Shelf.SlicesG.SearchI
import Derived.Ground.SlgmProg
import Derived.Shelf.SortM.Plain
import Derived.Shelf.SortM.SortNone
import Derived.Shelf.Unicode.ValidAny
import Derived.Lib.LaidU8T
import Derived.Test.YtgmfkbamfnkbgaaDoorProg
import Derived.WalkKit
import Derived.Lib.Hide
import Derived.Laws.AppendOwn
import Derived.Laws.OwnMore
import Derived.WalkSpells
import Derived.Lib.AppendZeros
import Derived.Laws.Append
import Derived.Maps.AppendAt
import Derived.WalkSmall
import Derived.Laws.BytesArg
import Derived.Laws.RangeAny
import Derived.StillTail
section
namespace Go.Proofs
open Go.Shelf
def Tryd.lays128_ren:Go.Shelf.Ren:=⟨fun|128=>75|n=>n,fun|51=>40|3=>3|4=>4|46=>83|5=>5|9=>9|n=>n,fun|n=>n⟩
def Tryd.lays125_ren:Go.Shelf.Ren:=⟨fun|125=>47|128=>75|129=>76|n=>n,fun|46=>83|3=>3|51=>40|53=>50|4=>4|5=>5|9=>9|n=>n,fun|n=>n⟩
def Tryd.lays195_ren:Go.Shelf.Ren:=⟨fun|195=>95|n=>n,fun|9=>9|3=>3|0=>0|4=>4|n=>n,fun|n=>n⟩
theorem Tryd.lays195:Go.Proofs.Lays.n195 Tryd.prog Tryd.lays195_ren:= {
 mixed:=by kernel_rfl
 f195:=Tryd.func95.trans (congrArg some (by kernel_rfl))
 t0:=Tryd.underlying0
 a0:=Tryd.isAgg0
 z0:=Tryd.sizeOf0
 v0:=Tryd.zeroValue0
 t3:=Tryd.underlying3
 a3:=Tryd.isAgg3
 z3:=Tryd.sizeOf3
 v3:=Tryd.zeroValue3
 t4:=Tryd.underlying4
 a4:=Tryd.isAgg4
 z4:=Tryd.sizeOf4
 v4:=Tryd.zeroValue4
 t9:=Tryd.underlying9
 a9:=Tryd.isAgg9
 z9:=Tryd.sizeOf9
 v9:=Tryd.zeroValue9 }
open Go.RowKit in
theorem Tryd.utf8_RuneCountInString (s:ByteArray) (w:World) (hs:s.size<9223372036854775807):
  Calls Tryd.prog 95 #[.string s] w fun e w'=>e= .returned (.int .i64 (Lib.runeCount s))∧∃pos,w'=w.iter s pos:=Any.utf8_RuneCountInString Tryd.lays195 s w hs
def Tryd.lays129_ren:Go.Shelf.Ren:=⟨fun|129=>76|n=>n,fun|53=>50|3=>3|4=>4|46=>83|5=>5|9=>9|n=>n,fun|n=>n⟩
def Tryd.laysSlN33_f62_ren:Go.Shelf.Ren:=⟨fun|33=>62|n=>n,fun|22=>47|23=>2|4=>4|3=>3|0=>0|n=>n,fun|n=>n⟩
theorem Tryd.laysSlN33_f62:Go.Proofs.SlLaysN.n33 Tryd.prog Tryd.laysSlN33_f62_ren:= {
 mixed:=by kernel_rfl
 f33:=⟨Tryd.f62.name,by decide,Tryd.func62.trans (congrArg some (by kernel_rfl))⟩
 t0:=Tryd.underlying0
 a0:=Tryd.isAgg0
 z0:=Tryd.sizeOf0
 v0:=Tryd.zeroValue0
 t3:=Tryd.underlying3
 a3:=Tryd.isAgg3
 z3:=Tryd.sizeOf3
 v3:=Tryd.zeroValue3
 t4:=Tryd.underlying4
 a4:=Tryd.isAgg4
 z4:=Tryd.sizeOf4
 v4:=Tryd.zeroValue4
 t22:=Tryd.underlying47
 a22:=Tryd.isAgg47
 z22:=Tryd.sizeOf47
 v22:=Tryd.zeroValue47
 t23:=Tryd.underlying2
 a23:=Tryd.isAgg2
 z23:=Tryd.sizeOf2
 v23:=Tryd.zeroValue2 }
open Go.RowKit Go.Lib in
theorem Tryd.slices_Equal_int (b1 o1 n c b2 o2 m d:Nat) (xs ys:List Int) (w:World) (hx:n≤xs.length) (hy:m≤ys.length) (hbig:n≤9223372036854775807) (hbig2:m≤9223372036854775807) (hc1: ∀j,j<xs.length→w.cell? ⟨b1,o1+j,none⟩=some (.int .i64 (xs.getD j 0))) (hc2: ∀j,j<ys.length→w.cell? ⟨b2,o2+j,none⟩=some (.int .i64 (ys.getD j 0))):
  Calls Tryd.prog 62 #[.slice (some ⟨b1,o1,none⟩) n c, .slice (some ⟨b2,o2,none⟩) m d] w fun e w'=>e= .returned (.bool (xs.take n==ys.take m))∧∃q,w'=w.drewN q:=AnyG.slices_Equal_int Tryd.laysSlN33_f62 b1 o1 n c b2 o2 m d xs ys w hx hy hbig hbig2 hc1 hc2
open Go.RowKit Go.Lib in
theorem Tryd.slices_Equal_int_empty (a1 a2:Option Addr) (c m d:Nat) (w:World) (hbig2:m≤9223372036854775807):
  Calls Tryd.prog 62 #[.slice a1 0 c, .slice a2 m d] w fun e w'=>e= .returned (.bool (decide (m=0)))∧w'=w:=AnyG.slices_Equal_int_empty Tryd.laysSlN33_f62 a1 a2 c m d w hbig2
def Tryd.laysSlN43_f30_ren:Go.Shelf.Ren:=⟨fun|43=>30|n=>n,fun|22=>47|23=>2|3=>3|4=>4|0=>0|n=>n,fun|n=>n⟩
theorem Tryd.laysSlN43_f30:Go.Proofs.SlLaysN.n43 Tryd.prog Tryd.laysSlN43_f30_ren:= {
 mixed:=by kernel_rfl
 f43:=⟨Tryd.f30.name,by decide,Tryd.func30.trans (congrArg some (by kernel_rfl))⟩
 t0:=Tryd.underlying0
 a0:=Tryd.isAgg0
 z0:=Tryd.sizeOf0
 v0:=Tryd.zeroValue0
 t3:=Tryd.underlying3
 a3:=Tryd.isAgg3
 z3:=Tryd.sizeOf3
 v3:=Tryd.zeroValue3
 t4:=Tryd.underlying4
 a4:=Tryd.isAgg4
 z4:=Tryd.sizeOf4
 v4:=Tryd.zeroValue4
 t22:=Tryd.underlying47
 a22:=Tryd.isAgg47
 z22:=Tryd.sizeOf47
 v22:=Tryd.zeroValue47
 t23:=Tryd.underlying2
 a23:=Tryd.isAgg2
 z23:=Tryd.sizeOf2
 v23:=Tryd.zeroValue2
 i23:=by kernel_rfl }
open Go.RowKit Go.Lib Go.Sort in
theorem Tryd.slices_Compact_int (blk off cap:Nat) (zs:List Int) (w:World) (hH:Holds (Value.int .i64) w blk off zs.toArray) (hsz:zs.length≤9223372036854775807) (hcap:zs.length≤cap):
  Calls Tryd.prog 30 #[.slice (some ⟨blk,off,none⟩) zs.length cap] w fun e w'=>e= .returned (.slice (some ⟨blk,off,none⟩) (Lib.compact zs).length cap)∧∃q,w'=putRow (Value.int .i64) (Sort.ahead w q) blk off (Lib.compact zs++List.replicate (zs.length-(Lib.compact zs).length) 0).toArray:=AnyG.slices_Compact_int Tryd.laysSlN43_f30 blk off cap zs w hH hsz hcap
open Go.RowKit Go.Lib Go.Sort in
theorem Tryd.slices_Compact_int_empty (a:Option Addr) (cap:Nat) (w:World):
  Calls Tryd.prog 30 #[.slice a 0 cap] w fun e w'=>e= .returned (.slice a 0 cap)∧w'=w:=AnyG.slices_Compact_int_empty Tryd.laysSlN43_f30 a cap w
def Tryd.laysSlN68_f92_ren:Go.Shelf.Ren:=⟨fun|68=>92|n=>n,fun|23=>2|4=>4|n=>n,fun|n=>n⟩
def Tryd.laysSlN59_f72_ren:Go.Shelf.Ren:=⟨fun|59=>72|68=>92|n=>n,fun|23=>2|4=>4|n=>n,fun|n=>n⟩
def Tryd.laysSlM5_f29_ren:Go.Shelf.Ren:=⟨fun|5=>29|8=>47|7=>46|19=>75|20=>76|10=>66|11=>67|12=>68|13=>69|14=>70|15=>71|16=>72|17=>73|18=>74|30=>87|31=>88|32=>89|33=>90|34=>91|35=>92|40=>96|n=>n,fun|23=>47|25=>2|3=>3|32=>83|22=>47|0=>0|44=>40|46=>50|4=>4|36=>98|35=>97|41=>102|5=>5|9=>9|53=>111|57=>115|63=>119|64=>120|n=>n,fun|n=>n⟩
theorem Tryd.laysSlM5_f29:Go.Proofs.SlLaysM.n5 Tryd.prog Tryd.laysSlM5_f29_ren:= {
 mixed:=by kernel_rfl
 f5:=⟨Tryd.f29.name,by decide,Tryd.func29.trans (congrArg some (by kernel_rfl))⟩
 f7:=⟨Tryd.f46.name,by decide,Tryd.func46.trans (congrArg some (by kernel_rfl))⟩
 f8:=Tryd.func47.trans (congrArg some (by kernel_rfl))
 f10:=⟨Tryd.f66.name,by decide,Tryd.func66.trans (congrArg some (by kernel_rfl))⟩
 f11:=⟨Tryd.f67.name,by decide,Tryd.func67.trans (congrArg some (by kernel_rfl))⟩
 f12:=⟨Tryd.f68.name,by decide,Tryd.func68.trans (congrArg some (by kernel_rfl))⟩
 f13:=⟨Tryd.f69.name,by decide,Tryd.func69.trans (congrArg some (by kernel_rfl))⟩
 f14:=⟨Tryd.f70.name,by decide,Tryd.func70.trans (congrArg some (by kernel_rfl))⟩
 f15:=⟨Tryd.f71.name,by decide,Tryd.func71.trans (congrArg some (by kernel_rfl))⟩
 f16:=⟨Tryd.f72.name,by decide,Tryd.func72.trans (congrArg some (by kernel_rfl))⟩
 f17:=⟨Tryd.f73.name,by decide,Tryd.func73.trans (congrArg some (by kernel_rfl))⟩
 f18:=⟨Tryd.f74.name,by decide,Tryd.func74.trans (congrArg some (by kernel_rfl))⟩
 f19:=Tryd.func75.trans (congrArg some (by kernel_rfl))
 f20:=Tryd.func76.trans (congrArg some (by kernel_rfl))
 f30:=⟨Tryd.f87.name,by decide,Tryd.func87.trans (congrArg some (by kernel_rfl))⟩
 f31:=Tryd.func88.trans (congrArg some (by kernel_rfl))
 f32:=Tryd.func89.trans (congrArg some (by kernel_rfl))
 f33:=⟨Tryd.f90.name,by decide,Tryd.func90.trans (congrArg some (by kernel_rfl))⟩
 f34:=⟨Tryd.f91.name,by decide,Tryd.func91.trans (congrArg some (by kernel_rfl))⟩
 f35:=⟨Tryd.f92.name,by decide,Tryd.func92.trans (congrArg some (by kernel_rfl))⟩
 f40:=⟨Tryd.f96.name,by decide,Tryd.func96.trans (congrArg some (by kernel_rfl))⟩
 t0:=Tryd.underlying0
 a0:=Tryd.isAgg0
 z0:=Tryd.sizeOf0
 v0:=Tryd.zeroValue0
 t3:=Tryd.underlying3
 a3:=Tryd.isAgg3
 z3:=Tryd.sizeOf3
 v3:=Tryd.zeroValue3
 t4:=Tryd.underlying4
 a4:=Tryd.isAgg4
 z4:=Tryd.sizeOf4
 v4:=Tryd.zeroValue4
 t5:=Tryd.underlying5
 a5:=Tryd.isAgg5
 z5:=Tryd.sizeOf5
 v5:=Tryd.zeroValue5
 t9:=Tryd.underlying9
 a9:=Tryd.isAgg9
 z9:=Tryd.sizeOf9
 v9:=Tryd.zeroValue9
 t22:=Tryd.underlying47
 a22:=Tryd.isAgg47
 z22:=Tryd.sizeOf47
 v22:=Tryd.zeroValue47
 t23:=Tryd.underlying47
 a23:=Tryd.isAgg47
 z23:=Tryd.sizeOf47
 v23:=Tryd.zeroValue47
 t25:=Tryd.underlying2
 a25:=Tryd.isAgg2
 z25:=Tryd.sizeOf2
 v25:=Tryd.zeroValue2
 t32:=Tryd.underlying83
 a32:=Tryd.isAgg83
 z32:=Tryd.sizeOf83
 v32:=Tryd.zeroValue83
 t35:=Tryd.underlying97
 a35:=Tryd.isAgg97
 z35:=Tryd.sizeOf97
 v35:=Tryd.zeroValue97
 t36:=Tryd.underlying98
 a36:=Tryd.isAgg98
 z36:=Tryd.sizeOf98
 v36:=Tryd.zeroValue98
 t41:=Tryd.underlying102
 a41:=Tryd.isAgg102
 z41:=Tryd.sizeOf102
 v41:=Tryd.zeroValue102
 t44:=Tryd.underlying40
 a44:=Tryd.isAgg40
 z44:=Tryd.sizeOf40
 v44:=Tryd.zeroValue40
 t46:=Tryd.underlying50
 a46:=Tryd.isAgg50
 z46:=Tryd.sizeOf50
 v46:=Tryd.zeroValue50
 t53:=Tryd.underlying111
 a53:=Tryd.isAgg111
 z53:=Tryd.sizeOf111
 v53:=Tryd.zeroValue111
 t57:=Tryd.underlying115
 a57:=Tryd.isAgg115
 z57:=Tryd.sizeOf115
 v57:=Tryd.zeroValue115
 t63:=Tryd.underlying119
 a63:=Tryd.isAgg119
 z63:=Tryd.sizeOf119
 v63:=Tryd.zeroValue119
 t64:=Tryd.underlying120
 a64:=Tryd.isAgg120
 z64:=Tryd.sizeOf120
 v64:=Tryd.zeroValue120 }
open Go.Sort Go.RowKit in
theorem Tryd.slices_Sort_int (blk off cap:Nat) (zs:List Int) (w:World) (hH:Holds (Value.int .i64) w blk off zs.toArray) (hblk:blk<w.heap.size) (hsz:zs.length<4611686018427387904):
  Calls Tryd.prog 29 #[.slice (some ⟨blk,off,none⟩) zs.length cap] w fun e w'=>
   e= .returned (.tuple #[])∧∃n os,w'=grow (putRow (Value.int .i64) (Sort.ahead w n) blk off (zs.mergeSort fun x y=>decide (x≤y)).toArray) os:=AnyM.slices_Sort_int Tryd.laysSlM5_f29 blk off cap zs w hH hblk hsz
open Go.RowKit Go.Sort in
theorem Tryd.slices_Sort_int_none (p:Option Addr) (cap:Nat) (w:World):
  Calls Tryd.prog 29 #[.slice p 0 cap] w fun e w'=>e= .returned (.tuple #[])∧w'=w:=AnyM.slices_Sort_int_none Tryd.laysSlM5_f29 p cap w
def Tryd.lays196_ren:Go.Shelf.Ren:=⟨fun|196=>94|259=>97|n=>n,fun|9=>9|4=>4|3=>3|5=>5|12=>12|119=>123|0=>0|46=>83|139=>126|138=>125|53=>50|n=>n,fun|3=>0|4=>1|n=>n⟩
theorem Tryd.lays196:Go.Proofs.Lays.n196 Tryd.prog Tryd.lays196_ren:= {
 mixed:=by kernel_rfl
 f196:=Tryd.func94.trans (congrArg some (by kernel_rfl))
 f259:=Tryd.func97.trans (congrArg some (by kernel_rfl))
 t0:=Tryd.underlying0
 a0:=Tryd.isAgg0
 z0:=Tryd.sizeOf0
 v0:=Tryd.zeroValue0
 t3:=Tryd.underlying3
 a3:=Tryd.isAgg3
 z3:=Tryd.sizeOf3
 v3:=Tryd.zeroValue3
 t4:=Tryd.underlying4
 a4:=Tryd.isAgg4
 z4:=Tryd.sizeOf4
 v4:=Tryd.zeroValue4
 t5:=Tryd.underlying5
 a5:=Tryd.isAgg5
 z5:=Tryd.sizeOf5
 v5:=Tryd.zeroValue5
 t9:=Tryd.underlying9
 a9:=Tryd.isAgg9
 z9:=Tryd.sizeOf9
 v9:=Tryd.zeroValue9
 t12:=Tryd.underlying12
 a12:=Tryd.isAgg12
 z12:=Tryd.sizeOf12
 v12:=Tryd.zeroValue12
 t46:=Tryd.underlying83
 a46:=Tryd.isAgg83
 z46:=Tryd.sizeOf83
 v46:=Tryd.zeroValue83
 t53:=Tryd.underlying50
 a53:=Tryd.isAgg50
 z53:=Tryd.sizeOf50
 v53:=Tryd.zeroValue50
 t119:=Tryd.underlying123
 a119:=Tryd.isAgg123
 z119:=Tryd.sizeOf123
 t138:=Tryd.underlying125
 a138:=Tryd.isAgg125
 z138:=Tryd.sizeOf125
 v138:=Tryd.zeroValue125
 t139:=Tryd.underlying126
 a139:=Tryd.isAgg126
 z139:=Tryd.sizeOf126
 v139:=Tryd.zeroValue126
 g3:=by kernel_rfl
 g4:=by kernel_rfl }
theorem Tryd.U8Extra_196:U8Extra Tryd.prog Tryd.lays196_ren:= {
 n3:=by kernel_rfl
 n4:=by kernel_rfl
 y3:=by kernel_rfl
 y4:=by kernel_rfl
 c5:=by kernel_rfl
 c119:=by kernel_rfl
 c138:=by kernel_rfl }
open Go.RowKit in
theorem Tryd.utf8_ValidString (s:ByteArray) (w:World) (hs:s.size≤9223372036854775807) (hT:Lib.Utf8Tabs 0 1 w):
  Calls Tryd.prog 94 #[.string s] w fun e w'=>e= .returned (.bool (Lib.validD s.data.toList))∧Below w.heap.size w w':=Any.utf8_ValidString Tryd.lays196 s w hs hT
theorem Tryd.utf8_tabs {w:World} (h3:Lib.VarReads Tryd.prog w "unicode/utf8.first" Lib.firstData) (h4:Lib.VarReads Tryd.prog w "unicode/utf8.acceptRanges" Lib.acceptData):Lib.Utf8Tabs 0 1 w:=utf8Tabs_of_readsT (U8Types.of196 Tryd.lays196) Tryd.U8Extra_196 h3 h4
end Go.Proofs
end
namespace Go.Proofs.YtgmfkbamfnkbgaaDoor
theorem k4{α β:Type}{P Q:α→Prop}{T:α→β→Prop}:∀j v,P j→Q j→T j v→T j v:=fun _ _ _ _ h=>h
open Nat renaming zero_add→Ly,le_refl→Mz
open List renaming getD_eq_getElem?_getD→Mk,getElem?_eq_getElem→Kh,length_append→Kq,mem_cons_of_mem→Jx,mem_cons_self→Jy
section
open Go.RowKit
theorem below_step {w a b:World} (h:Below w.heap.size w a) (g:Below a.heap.size a b):Below w.heap.size w b:=h.trans (g.mono h.size)
def Box (W:World) (p:Nat) (h l:Int):Prop:=W.cell? ⟨p,0,none⟩=some (.int .u64 h)∧W.cell? ⟨p,1,none⟩=some (.int .u64 l)∧p<W.heap.size
end
section
open Go.RowKit
structure Var2 (W:World) (p:Nat) (x y:Value):Prop where
 c0:W.cell? ⟨p,0,none⟩=some x
 c1:W.cell? ⟨p,1,none⟩=some y
 q0:W.frozen? ⟨p,0,none⟩=false
 q1:W.frozen? ⟨p,1,none⟩=false
 s:p<W.heap.size
structure Var3 (W:World) (p:Nat) (x y z:Value):Prop where
 c0:W.cell? ⟨p,0,none⟩=some x
 c1:W.cell? ⟨p,1,none⟩=some y
 c2:W.cell? ⟨p,2,none⟩=some z
 q0:W.frozen? ⟨p,0,none⟩=false
 q1:W.frozen? ⟨p,1,none⟩=false
 q2:W.frozen? ⟨p,2,none⟩=false
 s:p<W.heap.size
end
section
open Go.RowKit
abbrev Foot:=Nat→Prop
structure OnlyO (base:Nat) (O:Foot) (w w':World):Prop where
 bel:Below base w w'
 keep: ∀i,i<w.heap.size→¬O i→w'.heap[i]?=w.heap[i]?
def Grown (O O':Foot) (n:Nat):Prop:= ∀i,O' i→O i∨n≤i
end
section
open Go.RowKit
structure OwnRow (t:TypeId) (w:World) (base:Nat) (v:Value) (vs:List Value):Prop where
 own:w.ownsRow base t 1 v vs.length vs
 non:v≠ .slice none 0 0
 one: ∀u∈vs,u.oneCell'=true
end
section
open Go.RowKit
theorem addr_add (g k:Nat):(⟨g,0,none⟩:Addr).add k=⟨g,k,none⟩:=by rcases k with _|k<;>simp[Addr.add]
structure RowK (t:TypeId) (sz:Nat) (w:World) (base:Nat) (v:Value) (vs:List (List Value)):Prop where
 own:w.ownsRow base t sz v vs.length vs.flatten
 wid: ∀u∈vs,u.length=sz
 one: ∀u∈vs,∀y∈u,y.oneCell'=true
theorem RowK.nil (t:TypeId) (sz:Nat) (w:World) (base:Nat):RowK t sz w base (.slice none 0 0) []:=⟨World.ownsRow_nil w base _ _,fun u hu=>(by cases hu),fun u hu=>(by cases hu)⟩
theorem RowK.fresh (t:TypeId) (sz:Nat) (w:World) (base g:Nat) (hg:g=w.heap.size) (h:base≤g):RowK t sz (w.alloc (.cells #[] t)) base (.slice (some ⟨g,0,none⟩) 0 0) []:=by
 subst hg
 exact⟨World.ownsRow_made w #[] 0 h (Nat.zero_le _) (by simp),fun u hu=>(by cases hu),fun u hu=>(by cases hu)⟩
theorem RowK.size {t:TypeId} {sz:Nat} {w:World} {base:Nat} {v:Value} {vs:List (List Value)} (h:RowK t sz w base v vs): ∃a cap,v= .slice a vs.length cap:=by
 rcases h.own.2 with⟨e,h0⟩|⟨g,cap,_,e,_⟩
 ·exact⟨none,0,by rw[e,h0]⟩
 ·exact⟨_,cap,e⟩
theorem RowK.form {t:TypeId} {sz:Nat} {w:World} {base:Nat} {v:Value} {vs:List (List Value)} (h:RowK t sz w base v vs) (hne:0<vs.length): ∃g cap,v= .slice (some ⟨g,0,none⟩) vs.length cap∧base≤g∧g<w.heap.size∧vs.length≤cap:=by
 have hlt:=h.own.lt
 rcases h.own.2 with⟨_,h0⟩|⟨g,cap,_,e,hb,_,hc,_⟩
 ·omega
 ·exact⟨g,cap,e,hb,(hlt g (by rw[e];rfl)).2,hc⟩
theorem RowK.lt {t:TypeId} {sz:Nat} {w:World} {base:Nat} {v:Value} {vs:List (List Value)} (h:RowK t sz w base v vs) {b:Nat} (hb:v.ownBlock=some b):base≤b∧b<w.heap.size:=h.own.lt b hb
theorem RowK.kept {t:TypeId} {sz:Nat} {w w':World} {base:Nat} {v:Value} {vs:List (List Value)} (h:RowK t sz w base v vs) (hk: ∀b,v.ownBlock=some b→w'.heap[b]?=w.heap[b]?):RowK t sz w' base v vs:=by
 obtain⟨⟨h1,h2⟩,hn,ho⟩:=h
 refine⟨⟨h1,?_⟩,hn,ho⟩
 rcases h2 with hx|⟨g,cap,cur,rfl,hbg,hg,rest⟩
 ·exact Or.inl hx
 ·exact Or.inr ⟨g,cap,cur,rfl,hbg,(hk g rfl).trans hg,rest⟩
theorem RowK.below {t:TypeId} {sz:Nat} {w w':World} {base:Nat} {v:Value} {vs:List (List Value)} (h:RowK t sz w base v vs) (hb:Below w.heap.size w w'):RowK t sz w' base v vs:=
 h.kept fun b e=>hb.block b (h.lt e).2
theorem RowK.weaken {t:TypeId} {sz:Nat} {w:World} {base base':Nat} {v:Value} {vs:List (List Value)} (h:RowK t sz w base v vs) (hb:base'≤base):RowK t sz w base' v vs:=by
 obtain⟨⟨h1,h2⟩,hn,ho⟩:=h
 refine⟨⟨h1,?_⟩,hn,ho⟩
 rcases h2 with hx|⟨g,cap,cur,rfl,hbg,rest⟩
 ·exact Or.inl hx
 ·exact Or.inr ⟨g,cap,cur,rfl,Nat.le_trans hb hbg,rest⟩
theorem getD_flatten {sz:Nat} : ∀(vs:List (List Value)) (i j:Nat),(∀u∈vs,u.length=sz)→i<vs.length→j<sz→vs.flatten[i*sz+j]?=some ((vs.getD i []).getD j undef)
 | [],i,j,_,h,_=>by cases h
 |u::vs,0,j,hl,_,hj=>by
  have h1:=hl u (Jy ..)
  rw[List.flatten_cons,Nat.zero_mul,Ly,List.getElem?_append_left (by omega),Kh (by omega)]
  simp[Mk,Kh (show j<u.length by omega)]
 |u::vs,i+1,j,hl,h,hj=>by
  have h1:=hl u (Jy ..)
  have ih:=getD_flatten vs i j (fun x hx=>hl x (Jx _ hx)) (by simpa using h) hj
  have e:(i+1)*sz+j=u.length+(i*sz+j):=by rw[Nat.add_mul,h1];omega
  rw[List.flatten_cons,e,List.getElem?_append_right (by omega),show u.length+(i*sz+j)-u.length=i*sz+j by omega,ih]
  rfl
theorem RowK.at {t:TypeId} {sz:Nat} {w:World} {base g n cap:Nat} {vs:List (List Value)} (h:RowK t sz w base (.slice (some ⟨g,0,none⟩) n cap) vs) (i j:Nat) (hi:i<vs.length) (hj:j<sz):w.cell? ⟨g,i*sz+j,none⟩=some ((vs.getD i []).getD j undef):=by
 have hcs:= @World.ownsRow.cells _ _ _ _ _ _ _ h.own
 have:=hcs (g:=g) rfl (i*sz+j) _ (getD_flatten vs i j h.wid hi hj)
 rw[addr_add]at this
 exact this
theorem run_rowK {w:World} {T t:TypeId} {z:Value} {sz bts:Nat} (hT:Tryd.prog.underlying T=some (.slice t)) (hinf:(Tryd.prog.info? t).map (fun i=>(i.zero,i.size,i.bytes))=some (some z,sz,bts)) (hzs:z.cells.size=sz) (hsz:0<sz) (hbt:bts≤128)
  (base:Nat) (v:Value) (vs:List (List Value)) (hown:RowK t sz w base v vs) (g:Nat) (y:List Value) (hyl:y.length=sz) (hcell: ∀j,j<sz→w.cell? ⟨g,j,none⟩=some (y.getD j undef)) (hy: ∀u∈y,u.oneCell'=true) (hlen:vs.length≤1000000) (hbase:base≤w.heap.size) (ty:TypeId):
  ∃v' w',(Builtin.append_ #[T,T] ty #[v, .slice (some ⟨g,0,none⟩) 1 1]).run Tryd.prog w= .ok v' w'∧RowK t sz w' base v' (vs++ [y])∧OnlyO base (fun i=>some i=v.ownBlock) w w'∧(v'.ownBlock=v.ownBlock∨v'.ownBlock=some w.heap.size):=by
 obtain⟨i0,hi,hz0,hz1,hz2⟩:=info_parts hinf
 have hnews: ∀j u,y[j]?=some u→w.cell? ((⟨g,0,none⟩:Addr).add j)=some u:=by
  intro j u hj
  have hj2:j<y.length:=(List.getElem?_eq_some_iff.1 hj).1
  have:=hcell j (by omega)
  rw[Mk,hj]at this
  rw[addr_add]
  exact this
 have hby:(vs.length+1)*bts≤1000001*128:=Nat.mul_le_mul (by omega) hbt
 obtain⟨v',w',hr,h2,h3,h4,h5⟩:=run_append_own_at (P:=Tryd.prog) w base T ty t i0 z sz bts hT hi hz0 hz1 hz2 hzs hsz v vs.length vs.flatten hown.own ⟨g,0,none⟩ 1 1 y (by omega) hnews hy (by unfold maxLen;omega) (by omega) hbase
 refine⟨v',w',hr,⟨?_,fun u hm=>?_,fun u hm=>?_⟩,⟨(Below.refl base w).grown h3 hbase (fun b hk=>(hown.lt hk).1),fun i hi hne=>h3.block i hi hne⟩,h5⟩
 ·rw[Kq,List.flatten_append]
  simpa using h2
 ·rcases List.mem_append.mp hm with hm|hm
  ·exact hown.wid u hm
  ·rw[List.mem_singleton.mp hm];exact hyl
 ·rcases List.mem_append.mp hm with hm|hm
  ·exact hown.one u hm
  ·rw[List.mem_singleton.mp hm];exact hy
theorem wp_rowK {w:World} {ops:Array Oper} {rest:List Oper} {o:Oper} {a:Act} {Q:Exit→Act→World→Prop} {T t:TypeId} {z:Value} {sz bts:Nat} (hgd:o.guard=none) (s x:Operand)
  (ho:o.op= .call { callee:= .builtin .append,args:= #[s,x],argTypes:= #[T,T] }) (hT:Tryd.prog.underlying T=some (.slice t)) (hinf:(Tryd.prog.info? t).map (fun i=>(i.zero,i.size,i.bytes))=some (some z,sz,bts)) (hzs:z.cells.size=sz) (hsz:0<sz) (hbt:bts≤128)
  (base:Nat) (v:Value) (vs:List (List Value)) (hs:a.eval s=v) (hown:RowK t sz w base v vs) (g:Nat) (y:List Value) (hx:a.eval x= .slice (some ⟨g,0,none⟩) 1 1) (hyl:y.length=sz) (hcell: ∀j,j<sz→w.cell? ⟨g,j,none⟩=some (y.getD j undef)) (hy: ∀u∈y,u.oneCell'=true)
  (hlen:vs.length≤1000000) (hbase:base≤w.heap.size)
  (h: ∀v' w',RowK t sz w' base v' (vs++ [y])→OnlyO base (fun i=>some i=v.ownBlock) w w'→(v'.ownBlock=v.ownBlock∨v'.ownBlock=some w.heap.size)→wpList Tryd.prog ops Q rest (a.put o.dst v') w'):wpList Tryd.prog ops Q (o::rest) a w:=by
 obtain⟨v',w',hr,h1,h2,h3⟩:=run_rowK hT hinf hzs hsz hbt base v vs hown g y hyl hcell hy hlen hbase o.type
 exact Lib.wpList_append_run w hgd s x _ _ ho v _ hs hx _ w' hr (h v' w' h1 h2 h3)
end
section
open Go.RowKit
def Ints (k:IntKind) (w:World) (v:Value) (l:List Int):Prop:=
 ∃b off cap,v= .slice (some ⟨b,off,none⟩) l.length cap∧l.length≤cap∧b<w.heap.size∧∀i,i<l.length→w.cell? ⟨b,off+i,none⟩=some (.int k (l.getD i 0))
def OwnInts (t:TypeId) (k:IntKind) (w:World) (base:Nat) (v:Value) (l:List Int):Prop:=
 w.ownsRow base t 1 v l.length (l.map (Value.int k))∧v≠ .slice none 0 0
end
section
structure Tk3 where
 k:Int:=0
 s:ByteArray:=⟨#[]⟩
 n:Int:=0
 a:Int:=0
 b:Int:=0
inductive It where
 |mk (name:ByteArray) (words:List Tk3) (block:Bool) (kids:List It) (a b:Int):It
instance:Inhabited It:=⟨.mk ⟨#[]⟩ [] false [] 0 0⟩
def It.name:It→ByteArray| .mk n _ _ _ _ _=>n
def It.words:It→List Tk3| .mk _ w _ _ _ _=>w
def It.block:It→Bool| .mk _ _ k _ _ _=>k
def It.kids:It→List It| .mk _ _ _ l _ _=>l
def It.a:It→Int| .mk _ _ _ _ a _=>a
def It.b:It→Int| .mk _ _ _ _ _ b=>b
def cntL:List It→Nat
 | []=>0
 | .mk _ _ _ kids _ _::l=>1+cntL kids+cntL l
def depL:List It→Nat
 | []=>0
 | .mk _ _ _ kids _ _::l=>max (1+depL kids) (depL l)
def Tk3.bare (t:Tk3):Tk3:= { t with a:=0,b:=0 }
def bareL:List It→List It
 | []=> []
 | .mk n w k kids _ _::l=> .mk n (w.map Tk3.bare) k (bareL kids) 0 0::bareL l
def toksL:List It→List Tk3
 | []=> []
 | .mk n w k kids a b::l=> { k:=1,s:=n,a:=a,b:=b } ::(w++(if k then { k:=7 } ::(toksL kids++ [{ k:=8 }])else [{ k:=9 }]))++toksL l
structure Hd where
 name:ByteArray:=⟨#[]⟩
 words:List Tk3:= []
 a:Int:=0
 b:Int:=0
def Hd.it (h:Hd) (block:Bool) (kids:List It):It:= .mk h.name h.words block kids h.a h.b
def pushS (x:It):List (Hd×List It)→List (Hd×List It)
 | []=> []
 |(h,l)::st=>(h,l++ [x])::st
def popS:List (Hd×List It)→List (Hd×List It)
 | []=> []
 |(h,l)::st=>pushS (h.it true l) st
def trF:List Tk3→List (Hd×List It)→Nat→Option Hd→Except (Int×Int×Int) (List It)
 | [],_,_,_=> .ok []
 |t::T,st,n,some h=>
  if t.k=9 then trF T (pushS (h.it false []) st) n none
  else if t.k=7 then trF T ((h,[])::st) n none
  else if t.k<1∨6<t.k then .error (6,t.a,t.b)
  else if 6≤h.words.length then .error (9,t.a,t.b)
  else trF T st n (some { h with words:=h.words++ [t] })
 |t::T,st,n,none=>
  if t.k=8∧2≤st.length then trF T (popS st) n none
  else if t.k=0∧st.length=1 then .ok (st.headD ({},[])).2
  else if t.k≠1 then .error (6,t.a,t.b)
  else if 5≤st.length then .error (19,t.a,t.b)
  else if 300≤n then .error (9,t.a,t.b)
  else trF T st (n+1) (some { name:=t.s,a:=t.a,b:=t.b })
def cntS:List (Hd×List It)→Nat
 | []=>0
 |(_,l)::st=>cntL l+(if st= []then 0 else 1)+cntS st
def depS:List (Hd×List It)→Nat
 | []=>0
 |(_,l)::st=>max (st.length+depL l) (depS st)
def oneO (o:Option Hd):Nat:=if o.isSome then 1 else 0
def depO (st:List (Hd×List It)) (o:Option Hd):Nat:=if o.isSome then max st.length (depS st)else depS st
def underS:List (Hd×List It)→List (Hd×List It)→List (Hd×List It)
 | [],K=>K
 | [(_,M)],K=>match K with
  | []=> []
  |(h,l)::R=>(h,l++M)::R
 |x::y::st,K=>x::underS (y::st) K
end
section
def W64 (n:Nat):Prop:=n<18446744073709551616
def W128 (n:Nat):Prop:=n<340282366920938463463374607431768211456
def wide (h l:Nat):Nat:=h*18446744073709551616+l
def b2n (b:Bool):Nat:=if b then 1 else 0
def val:List Bool→Nat
 | []=>0
 |b::l=>b2n b+2*val l
def bitN (l:List Bool) (i:Nat):Nat:=b2n (l.getD i false)
def lo (l:List Bool) (k:Nat):Nat:=val (l.take k)
def hi (l:List Bool) (k:Nat):Nat:=val (l.drop k)
def cmpI (x y:Nat):Int:=if x<y then-1 else if y<x then 1 else 0
def LowOf (x:List Bool) (N:Nat):Prop:=val x=N%2^x.length
end
section
structure IsW (h l:Int) (N:Nat):Prop where
 h0:0≤h
 h1:h≤18446744073709551615
 l0:0≤l
 l1:l≤18446744073709551615
 n:h*18446744073709551616+l=(N:Int)
def capN (n:Nat):Nat:=if n<340282366920938463463374607431768211456 then n else 0
def capC (n:Nat):Int:=if n<340282366920938463463374607431768211456 then 0 else 3
end
section
def dec (n:Nat):List Int:=if n<10 then [48+(n:Int)]else dec (n/10)++ [48+((n%10:Nat):Int)]
termination_by n
decreasing_by omega
structure PrintAt (A a:Nat) (xs:List Int):Prop where
 all:dec A=dec a++xs
 some:xs= []∨1≤a
 le:a*10^xs.length≤A
end
section
def nums (s:ByteArray):List Int:=s.data.toList.map fun b=>(b.toNat:Int)
structure Dg (zs:List Int):Prop where
 some:zs≠ []
 head:zs.getD 0 0=48→zs.length=1
 all: ∀i,i<zs.length→48≤zs.getD i 0∧zs.getD i 0≤57
def numOf (zs:List Int):Nat:=zs.foldl (fun a z=>10*a+(z-48).toNat) 0
theorem nums_length (s:ByteArray):(nums s).length=s.size:=by simp[nums]
theorem nums_at (s:ByteArray) (i:Nat) (h:i<s.size):(nums s).getD i 0=(s[i].toNat:Int):=by
 rw[Mk,nums,List.getElem?_map,Kh (by simpa using h)]
 rfl
end
section
def clsN (b:Int):Nat:=if 192≤b∧b<224 then 1 else if 224≤b∧b<240 then 2 else if 240≤b∧b<248 then 3 else 0
def clsB (b:Int):Int:=if 192≤b∧b<224 then b-192 else if 224≤b∧b<240 then b-224 else if 240≤b∧b<248 then b-240 else b
def clsL (b:Int):Int:=if 192≤b∧b<224 then 128 else if 224≤b∧b<240 then 2048 else if 240≤b∧b<248 then 65536 else 0
def contB (zs:List Int) (j:Nat):Bool:=decide (j<zs.length)&&decide (128≤zs.getD j 0)&&decide (zs.getD j 0≤191)
def allB (zs:List Int) (i:Nat):Nat→Bool
 |0=>true
 |k+1=>allB zs i k&&contB zs (i+(k+1))
def cAt (zs:List Int) (i:Nat):Nat→Int
 |0=>clsB (zs.getD i 0)
 |k+1=>64*cAt zs i k+zs.getD (i+(k+1)) 0-128
def wholeB (zs:List Int) (i:Nat):Bool:=
 decide (0<clsN (zs.getD i 0))&&allB zs i (clsN (zs.getD i 0))&&decide (clsL (zs.getD i 0)≤cAt zs i (clsN (zs.getD i 0)))&&decide (cAt zs i (clsN (zs.getD i 0))≤1114111)&& !(decide (55296≤cAt zs i (clsN (zs.getD i 0)))&&decide (cAt zs i (clsN (zs.getD i 0))<57344))
def runeA (zs:List Int) (i:Nat):Int:=if zs.getD i 0<128 then zs.getD i 0 else if wholeB zs i=true then cAt zs i (clsN (zs.getD i 0))else-1
def widA (zs:List Int) (i:Nat):Nat:=if zs.getD i 0<128 then 1 else if wholeB zs i=true then clsN (zs.getD i 0)+1 else 1
theorem widA_pos (zs:List Int) (i:Nat):1≤widA zs i:=by
 unfold widA
 split
 ·exact Mz _
 ·split<;>omega
def rfrom (zs:List Int) (i:Nat):List Int:=if i<zs.length then runeA zs i::rfrom zs (i+widA zs i)else []
termination_by zs.length-i
decreasing_by have:=widA_pos zs i;omega
theorem rfrom_in {zs:List Int} {i:Nat} (h:i<zs.length):rfrom zs i=runeA zs i::rfrom zs (i+widA zs i):=by rw[rfrom,if_pos h]
theorem rfrom_out {zs:List Int} {i:Nat} (h: ¬i<zs.length):rfrom zs i= []:=by rw[rfrom,if_neg h]
def runesOf (zs:List Int):List Int:=rfrom zs 0
theorem contB_iff {zs:List Int} {j:Nat} :contB zs j=true↔j<zs.length∧128≤zs.getD j 0∧zs.getD j 0≤191:=by
 unfold contB;simp[and_assoc]
theorem allB_in {zs:List Int} {i k:Nat} (h:allB zs i k=true) {j:Nat} (h1:1≤j) (h2:j≤k):contB zs (i+j)=true:=by
 induction k with
 |zero=>omega
 |succ k ih=>
  simp only[allB,Bool.and_eq_true]at h
  by_cases e:j=k+1
  ·subst e;exact h.2
  ·exact ih h.1 (by omega)
theorem wholeB_end {zs:List Int} {i:Nat} (h:wholeB zs i=true):i+clsN (zs.getD i 0)<zs.length:=by
 unfold wholeB at h
 simp only[Bool.and_eq_true,decide_eq_true_eq]at h
 have:=allB_in h.1.1.1.2 (j:=clsN (zs.getD i 0)) (by omega) (Mz _)
 exact(contB_iff.mp this).1
theorem widA_in {zs:List Int} {i:Nat} (h:i<zs.length):i+widA zs i≤zs.length:=by
 unfold widA
 split
 ·omega
 ·split
  ·rename_i hw;have:=wholeB_end hw;omega
  ·omega
theorem runeA_le (zs:List Int) (i:Nat) (h0:0≤zs.getD i 0): -1≤runeA zs i∧runeA zs i≤1114111:=by
 unfold runeA
 split
 ·omega
 ·split
  ·rename_i hw
   unfold wholeB at hw
   simp only[Bool.and_eq_true,decide_eq_true_eq]at hw
   have h1:=hw.1.2
   have h2:=hw.1.1.2
   have h3 : 0 ≤ clsL (zs.getD i 0) := by unfold clsL; repeat' split
                                          all_goals omega
   omega
  ·omega
theorem runeA_bad {zs:List Int} {i:Nat} (h1: ¬zs.getD i 0<128) (h2:wholeB zs i=false):runeA zs i= -1∧widA zs i=1:=by
 unfold runeA widA
 rw[if_neg h1,if_neg h1,h2]
 exact⟨rfl,rfl⟩
theorem runeA_good {zs:List Int} {i:Nat} (h1: ¬zs.getD i 0<128) (h2:wholeB zs i=true):runeA zs i=cAt zs i (clsN (zs.getD i 0))∧widA zs i=clsN (zs.getD i 0)+1:=by
 unfold runeA widA
 rw[if_neg h1,if_neg h1,if_pos h2,if_pos h2]
 exact⟨rfl,rfl⟩
theorem runeA_low {zs:List Int} {i:Nat} (h1:zs.getD i 0<128):runeA zs i=zs.getD i 0∧widA zs i=1:=by
 unfold runeA widA
 rw[if_pos h1,if_pos h1]
 exact⟨rfl,rfl⟩
theorem nums_get (s:ByteArray) (k:Nat):(((s.get! k).toNat:Nat):Int)=(nums s).getD k 0:=by
 by_cases h:k<s.size
 ·rw[nums_at s k h]
  congr 2
  simp[ByteArray.get!,h]
  rfl
 ·rw[Mk,List.getElem?_eq_none (by rw[nums_length];omega)]
  have:s.get! k=0:=by
   simp[ByteArray.get!,h]
   rfl
  rw[this];rfl
theorem cont_get (s:ByteArray) (k:Nat):(decide (k<s.size)&&(s.get! k).toNat/64==2)=contB (nums s) k:=by
 have hg:=nums_get s k
 obtain⟨a,ha⟩: ∃a,(s.get! k).toNat=a:=⟨_,rfl⟩
 rw[ha]at hg ⊢
 unfold contB
 rw[nums_length,←hg]
 by_cases hk:k<s.size
 ·have e:(a/64==2)=(decide ((128:Int)≤a)&&decide ((a:Int)≤191)):=by
   rw[Bool.eq_iff_iff]
   simp only[beq_iff_eq,Bool.and_eq_true,decide_eq_true_eq]
   omega
  rw[e,Bool.and_assoc]
 ·simp[hk]
theorem decode_rune (s:ByteArray) (pos:Nat) (_h:pos<s.size):
  (runeA (nums s) pos= -1∧widA (nums s) pos=1∧Utf8.decode s pos=(65533,1))∨(0≤runeA (nums s) pos∧Utf8.decode s pos=((runeA (nums s) pos).toNat,widA (nums s) pos)):=by
 have g0:=nums_get s pos
 have g1:=nums_get s (pos+1)
 have g2:=nums_get s (pos+2)
 have g3:=nums_get s (pos+3)
 have c1:=cont_get s (pos+1)
 have c2:=cont_get s (pos+2)
 have c3:=cont_get s (pos+3)
 obtain⟨a0,e0⟩: ∃a,(s.get! pos).toNat=a:=⟨_,rfl⟩
 obtain⟨a1,e1⟩: ∃a,(s.get! (pos+1)).toNat=a:=⟨_,rfl⟩
 obtain⟨a2,e2⟩: ∃a,(s.get! (pos+2)).toNat=a:=⟨_,rfl⟩
 obtain⟨a3,e3⟩: ∃a,(s.get! (pos+3)).toNat=a:=⟨_,rfl⟩
 have b0:a0<256:=by rw[←e0];exact(s.get! pos).toNat_lt
 have b1:a1<256:=by rw[←e1];exact(s.get! (pos+1)).toNat_lt
 have b2:a2<256:=by rw[←e2];exact(s.get! (pos+2)).toNat_lt
 have b3:a3<256:=by rw[←e3];exact(s.get! (pos+3)).toNat_lt
 rw[e0]at g0
 rw[e1]at g1 c1
 rw[e2]at g2 c2
 rw[e3]at g3 c3
 simp only[Utf8.decode,Nat.add_zero,e0,e1,e2,e3,c1,c2,c3]
 generalize hzs:nums s=zs at*
 by_cases k0:a0<128
 ·rw[if_pos k0]
  obtain⟨r1,r2⟩:=runeA_low (zs:=zs) (i:=pos) (by omega)
  rw[r1,r2,←g0]
  exact Or.inr ⟨by omega,by simp⟩
 rw[if_neg k0]
 have kk: ¬zs.getD pos 0<128:=by omega
 have q1:allB zs pos 1=contB zs (pos+1):=by simp[allB]
 have q2:allB zs pos 2=(contB zs (pos+1)&&contB zs (pos+2)):=by simp[allB]
 have q3:allB zs pos 3=(contB zs (pos+1)&&contB zs (pos+2)&&contB zs (pos+3)):=by simp[allB]
 have none:wholeB zs pos=false→(runeA zs pos= -1∧widA zs pos=1∧(Utf8.runeError,1)=(65533,1)):=fun h=>⟨(runeA_bad kk h).1,(runeA_bad kk h).2,rfl⟩
 have some: ∀n c,wholeB zs pos=true→clsN (zs.getD pos 0)=n→cAt zs pos n=((c:Nat):Int)→(0≤runeA zs pos∧((c,n+1):Nat×Nat)=((runeA zs pos).toNat,widA zs pos)):=fun n c h hn hc=>by
  obtain⟨h1,h2⟩:=runeA_good kk h
  rw[h1,h2,hn,hc]
  exact⟨by omega,by simp⟩
 by_cases k2:192≤a0∧a0<224
 ·have n1:clsN (zs.getD pos 0)=1:=by unfold clsN;rw[if_pos (by omega)]
  have l1:clsL (zs.getD pos 0)=128:=by unfold clsL;rw[if_pos (by omega)]
  have v1:cAt zs pos 1=((a0:Int)-192)*64+a1-128:=by simp only[cAt,clsB];rw[if_pos (by omega),←g0,←g1];omega
  have t1:(a0/32==6)=true:=by simp;omega
  have t2:(a0/16==14)=false:=by simp;omega
  have t3:(a0/8==30)=false:=by simp;omega
  rw[t1,t2,t3]
  simp only[Bool.true_and,Bool.false_and,Bool.false_eq_true,if_false]
  cases hc1:contB zs (pos+1)with
  |false=>
   left
   simp only[Bool.false_eq_true,if_false]
   exact none (by unfold wholeB;rw[n1,q1,hc1];rfl)
  |true=>
   have:=contB_iff.mp hc1
   simp only[if_true]
   by_cases hv:a0%32*64+a1%64≥128
   ·rw[if_pos hv]
    right
    exact some 1 _ (by unfold wholeB;rw[n1,q1,hc1,l1,v1];simp;omega) n1 (by rw[v1];omega)
   ·rw[if_neg hv]
    left
    exact none (by unfold wholeB;rw[n1,q1,hc1,l1,v1];simp;omega)
 by_cases k3:224≤a0∧a0<240
 ·have n1:clsN (zs.getD pos 0)=2:=by unfold clsN;rw[if_neg (by omega),if_pos (by omega)]
  have l1:clsL (zs.getD pos 0)=2048:=by unfold clsL;rw[if_neg (by omega),if_pos (by omega)]
  have v1:cAt zs pos 2=64*(((a0:Int)-224)*64+a1-128)+a2-128:=by simp only[cAt,clsB];rw[if_neg (by omega),if_pos (by omega),←g0,←g1,←g2];omega
  have t1:(a0/32==6)=false:=by simp;omega
  have t2:(a0/16==14)=true:=by simp;omega
  have t3:(a0/8==30)=false:=by simp;omega
  rw[t1,t2,t3]
  simp only[Bool.true_and,Bool.false_and,Bool.false_eq_true,if_false]
  cases hc:(contB zs (pos+1)&&contB zs (pos+2))with
  |false=>
   left
   simp only[Bool.false_eq_true,if_false]
   exact none (by unfold wholeB;rw[n1,q2,hc];rfl)
  |true=>
   have hcc:=hc
   rw[Bool.and_eq_true,contB_iff,contB_iff]at hcc
   simp only[if_true]
   obtain⟨c,hcv⟩: ∃c,a0%16*4096+a1%64*64+a2%64=c:=⟨_,rfl⟩
   rw[hcv]
   have hcx:(c:Int)=cAt zs pos 2:=by rw[v1];omega
   by_cases hv:(decide (c≥2048)&&Utf8.valid (c:Int))=true
   ·rw[if_pos hv]
    right
    refine some 2 _ ?_ n1 hcx.symm
    unfold wholeB Utf8.valid at*
    rw[n1,q2,hc,l1,←hcx]
    simp at hv ⊢;omega
   ·rw[if_neg hv]
    left
    refine none ?_
    unfold wholeB Utf8.valid at*
    rw[n1,q2,hc,l1,←hcx]
    simp at hv ⊢;omega
 by_cases k4:240≤a0∧a0<248
 ·have n1:clsN (zs.getD pos 0)=3:=by unfold clsN;rw[if_neg (by omega),if_neg (by omega),if_pos (by omega)]
  have l1:clsL (zs.getD pos 0)=65536:=by unfold clsL;rw[if_neg (by omega),if_neg (by omega),if_pos (by omega)]
  have v1:cAt zs pos 3=64*(64*(((a0:Int)-240)*64+a1-128)+a2-128)+a3-128:=by simp only[cAt,clsB];rw[if_neg (by omega),if_neg (by omega),if_pos (by omega),←g0,←g1,←g2,←g3];omega
  have t1:(a0/32==6)=false:=by simp;omega
  have t2:(a0/16==14)=false:=by simp;omega
  have t3:(a0/8==30)=true:=by simp;omega
  rw[t1,t2,t3]
  simp only[Bool.true_and,Bool.false_and,Bool.false_eq_true,if_false]
  cases hc:(contB zs (pos+1)&&contB zs (pos+2)&&contB zs (pos+3))with
  |false=>
   left
   simp only[Bool.false_eq_true,if_false]
   exact none (by unfold wholeB;rw[n1,q3,hc];rfl)
  |true=>
   have hcc:=hc
   rw[Bool.and_eq_true,Bool.and_eq_true,contB_iff,contB_iff,contB_iff]at hcc
   simp only[if_true]
   obtain⟨c,hcv⟩: ∃c,a0%8*262144+a1%64*4096+a2%64*64+a3%64=c:=⟨_,rfl⟩
   rw[hcv]
   have hcx:(c:Int)=cAt zs pos 3:=by rw[v1];omega
   by_cases hv:(decide (c≥65536)&&Utf8.valid (c:Int))=true
   ·rw[if_pos hv]
    right
    refine some 3 _ ?_ n1 hcx.symm
    unfold wholeB Utf8.valid at*
    rw[n1,q3,hc,l1,←hcx]
    simp at hv ⊢;omega
   ·rw[if_neg hv]
    left
    refine none ?_
    unfold wholeB Utf8.valid at*
    rw[n1,q3,hc,l1,←hcx]
    simp at hv ⊢;omega
 ·have n1:clsN (zs.getD pos 0)=0:=by unfold clsN;rw[if_neg (by omega),if_neg (by omega),if_neg (by omega)]
  have t1:(a0/32==6)=false:=by simp;omega
  have t2:(a0/16==14)=false:=by simp;omega
  have t3:(a0/8==30)=false:=by simp;omega
  rw[t1,t2,t3]
  simp only[Bool.false_and,Bool.false_eq_true,if_false]
  left
  exact none (by unfold wholeB;rw[n1];rfl)
end
section
def letterB (r:Int):Bool:=(decide (97≤r)&&decide (r≤122))||(decide (65≤r)&&decide (r≤90))||(decide (192≤r)&&decide (r≤591)&&decide (r≠215)&&decide (r≠247))||(decide (880≤r)&&decide (r≤1279))
def digitB (r:Int):Bool:=decide (48≤r)&&decide (r≤57)
def GoodL (l:List Int):Prop:= ∀i,i<l.length→0≤l.getD i 0
def nameOk (l:List Int) (i:Nat):Bool:=letterB (l.getD i 0)||digitB (l.getD i 0)||(decide (i+1≠l.length)&&(decide (l.getD i 0=95)||decide (l.getD i 0=45)))
def NameL (l:List Int):Prop:=1≤l.length∧l.length≤24∧letterB (l.getD 0 0)=true∧∀i,i<l.length→nameOk l i=true
def encL (r:Int):List Int:=
 if r<128 then [r]else if r<2048 then [192+r/64,128+r%64]else if r<65536 then [224+r/4096,128+r/64%64,128+r%64]else [240+r/262144,128+r/4096%64,128+r/64%64,128+r%64]
def hexD (n:Nat):Int:=if n<10 then 48+(n:Int)else 87+(n:Int)
def hexL (n:Nat):List Int:=if n<16 then [hexD n]else hexL (n/16)++ [hexD (n%16)]
termination_by n
decreasing_by omega
def quoteR (r:Int):List Int:=
 if r=34 then [92,34]else if r=92 then [92,92]else if r=10 then [92,110]else if r=9 then [92,116]else if r<32∨r=127 then [92,117,123]++hexL r.toNat++ [125]else encL r
def quoteB (l:List Int):List Int:=l.flatMap quoteR
def quoteL (l:List Int):List Int:= [34]++quoteB l++ [34]
end
section
inductive Qs where
 |start|norm (xs:List Int)|esc (xs:List Int)|uni (xs:List Int)|hex (xs:List Int) (k:Nat) (x:Int)|done (xs:List Int)|dead
def hexV (r:Int):Int:=if 48≤r∧r≤57 then r-48 else if 97≤r∧r≤102 then r-87 else-1
def ustep:Qs→Int→Qs
 | .start,r=>if r=34 then .norm []else .dead
 | .norm xs,r=>if r=34 then .done xs else if r<32∨r=127 then .dead else if r=92 then .esc xs else .norm (xs++ [r])
 | .esc xs,r=>if r=34∨r=92 then .norm (xs++ [r])else if r=110 then .norm (xs++ [10])else if r=116 then .norm (xs++ [9])else if r=117 then .uni xs else .dead
 | .uni xs,r=>if r=123 then .hex xs 0 0 else .dead
 | .hex xs k x,r=>if 0≤hexV r∧k<6 then .hex xs (k+1) (16*x+hexV r)else if r=125∧k≠0∧x≤1114111∧¬(55296≤x∧x<57344)then .norm (xs++ [x])else .dead
 | .done _,_=> .dead
 | .dead,_=> .dead
def ut (l:List Int) (i:Nat):Qs:=(l.take i).foldl ustep .start
def uf (l:List Int):Qs:=l.foldl ustep .start
def NoQ (l:List Int):Prop:= ∀xs,uf l≠ .done xs
def UnqL (l:List Int) (t:List Int) (c:Int):Prop:=
 (NoQ l∧t= []∧c=5)∨∃xs,uf l= .done xs∧((120<xs.length∧t= []∧c=9)∨(xs.length≤120∧t=xs.flatMap encL∧c=0))
end
section
def RuneOk (r:Int):Prop:=0≤r∧r≤1114111∧¬(55296≤r∧r<57344)
theorem getD_right (a b:List Int) (i:Nat):(a++b).getD (a.length+i) 0=b.getD i 0:=by
 simp only[Mk]
 rw[List.getElem?_append_right (by omega)]
 congr 2
 omega
theorem contB_right (a b:List Int) (i:Nat):contB (a++b) (a.length+i)=contB b i:=by
 unfold contB
 rw[getD_right,Kq]
 congr 2
 simp
theorem allB_right (a b:List Int) (i k:Nat):allB (a++b) (a.length+i) k=allB b i k:=by
 induction k with
 |zero=>rfl
 |succ k ih=>simp only[allB];rw[ih,Nat.add_assoc,contB_right]
theorem cAt_right (a b:List Int) (i k:Nat):cAt (a++b) (a.length+i) k=cAt b i k:=by
 induction k with
 |zero=>simp only[cAt];rw[getD_right]
 |succ k ih=>simp only[cAt];rw[ih,Nat.add_assoc,getD_right]
theorem wholeB_right (a b:List Int) (i:Nat):wholeB (a++b) (a.length+i)=wholeB b i:=by
 unfold wholeB
 rw[getD_right,allB_right,cAt_right]
theorem runeA_right (a b:List Int) (i:Nat):runeA (a++b) (a.length+i)=runeA b i:=by
 unfold runeA
 rw[getD_right,wholeB_right,cAt_right]
theorem widA_right (a b:List Int) (i:Nat):widA (a++b) (a.length+i)=widA b i:=by
 unfold widA
 rw[getD_right,wholeB_right]
theorem rfrom_right (a b:List Int): ∀(n i:Nat),b.length-i≤n→rfrom (a++b) (a.length+i)=rfrom b i:=by
 intro n
 induction n with
 |zero=>intro i hi;rw[rfrom_out (by rw[Kq];omega),rfrom_out (by omega)]
 |succ n ih=>
  intro i hi
  by_cases h:i<b.length
  ·rw[rfrom_in (by rw[Kq];omega),rfrom_in h,runeA_right,widA_right,Nat.add_assoc,ih (i+widA b i) (by have:=widA_pos b i;omega)]
  ·rw[rfrom_out (by rw[Kq];omega),rfrom_out h]
theorem runes_right (a b:List Int):rfrom (a++b) a.length=runesOf b:=rfrom_right a b b.length 0 (by omega)
theorem runes_nil:runesOf []= []:=rfrom_out (by simp)
theorem runes_enc {r:Int} (h:RuneOk r) (ys:List Int):runesOf (encL r++ys)=r::runesOf ys:=by
 obtain⟨h0,h1,h2⟩:=h
 have key: ∀a:List Int,0<a.length→runeA (a++ys) 0=r→widA (a++ys) 0=a.length→runesOf (a++ys)=r::runesOf ys:=fun a ha hr hw=>by
  have e:=rfrom_in (zs:=a++ys) (i:=0) (by rw[Kq];omega)
  rw[hr,hw,Ly,runes_right]at e
  exact e
 unfold encL
 split
 ·rename_i h3
  exact key [r] (by simp) (runeA_low (by simpa using h3)).1 (runeA_low (by simpa using h3)).2
 split
 ·rename_i h3 h4
  refine key _ (by simp) ?_ ?_
  all_goals
   have hb:([192+r/64,128+r%64]++ys).getD 0 0=192+r/64:=rfl
   have hc:([192+r/64,128+r%64]++ys).getD 1 0=128+r%64:=rfl
   have hn:clsN (([192+r/64,128+r%64]++ys).getD 0 0)=1:=by rw[hb];unfold clsN;rw[if_pos (by omega)]
   have hv:cAt ([192+r/64,128+r%64]++ys) 0 1=r:=by simp only[cAt,Ly];rw[hb,hc];unfold clsB;rw[if_pos (by omega)];omega
   have hw:wholeB ([192+r/64,128+r%64]++ys) 0=true:=by
    unfold wholeB
    rw[hn,hv,hb]
    have:allB ([192+r/64,128+r%64]++ys) 0 1=true:=by simp only[allB,Bool.true_and,Ly];exact contB_iff.mpr ⟨by simp,by rw[hc];omega,by rw[hc];omega⟩
    rw[this];unfold clsL;rw[if_pos (by omega)];simp;omega
   have:=runeA_good (by rw[hb];omega) hw
   rw[hn,hv]at this
   first|exact this.1|exact this.2
 split
 ·rename_i h3 h4 h5
  refine key _ (by simp) ?_ ?_
  all_goals
   have hb:([224+r/4096,128+r/64%64,128+r%64]++ys).getD 0 0=224+r/4096:=rfl
   have hc:([224+r/4096,128+r/64%64,128+r%64]++ys).getD 1 0=128+r/64%64:=rfl
   have hd:([224+r/4096,128+r/64%64,128+r%64]++ys).getD 2 0=128+r%64:=rfl
   have hn:clsN (([224+r/4096,128+r/64%64,128+r%64]++ys).getD 0 0)=2:=by rw[hb];unfold clsN;rw[if_neg (by omega),if_pos (by omega)]
   have hv:cAt ([224+r/4096,128+r/64%64,128+r%64]++ys) 0 2=r:=by simp only[cAt,Ly];rw[hb,hc,hd];unfold clsB;rw[if_neg (by omega),if_pos (by omega)];omega
   have hw:wholeB ([224+r/4096,128+r/64%64,128+r%64]++ys) 0=true:=by
    unfold wholeB
    rw[hn,hv,hb]
    have:allB ([224+r/4096,128+r/64%64,128+r%64]++ys) 0 2=true:=by
     simp only[allB,Bool.true_and,Ly,Bool.and_eq_true]
     exact⟨contB_iff.mpr ⟨by simp,by rw[hc];omega,by rw[hc];omega⟩,contB_iff.mpr ⟨by simp,by rw[hd];omega,by rw[hd];omega⟩⟩
    rw[this];unfold clsL;rw[if_neg (by omega),if_pos (by omega)];simp;omega
   have:=runeA_good (by rw[hb];omega) hw
   rw[hn,hv]at this
   first|exact this.1|exact this.2
 ·rename_i h3 h4 h5
  refine key _ (by simp) ?_ ?_
  all_goals
   have hb:([240+r/262144,128+r/4096%64,128+r/64%64,128+r%64]++ys).getD 0 0=240+r/262144:=rfl
   have hc:([240+r/262144,128+r/4096%64,128+r/64%64,128+r%64]++ys).getD 1 0=128+r/4096%64:=rfl
   have hd:([240+r/262144,128+r/4096%64,128+r/64%64,128+r%64]++ys).getD 2 0=128+r/64%64:=rfl
   have he:([240+r/262144,128+r/4096%64,128+r/64%64,128+r%64]++ys).getD 3 0=128+r%64:=rfl
   have hn:clsN (([240+r/262144,128+r/4096%64,128+r/64%64,128+r%64]++ys).getD 0 0)=3:=by rw[hb];unfold clsN;rw[if_neg (by omega),if_neg (by omega),if_pos (by omega)]
   have hv:cAt ([240+r/262144,128+r/4096%64,128+r/64%64,128+r%64]++ys) 0 3=r:=by simp only[cAt,Ly];rw[hb,hc,hd,he];unfold clsB;rw[if_neg (by omega),if_neg (by omega),if_pos (by omega)];omega
   have hw:wholeB ([240+r/262144,128+r/4096%64,128+r/64%64,128+r%64]++ys) 0=true:=by
    unfold wholeB
    rw[hn,hv,hb]
    have:allB ([240+r/262144,128+r/4096%64,128+r/64%64,128+r%64]++ys) 0 3=true:=by
     simp only[allB,Bool.true_and,Ly,Bool.and_eq_true]
     exact⟨⟨contB_iff.mpr ⟨by simp,by rw[hc];omega,by rw[hc];omega⟩,contB_iff.mpr ⟨by simp,by rw[hd];omega,by rw[hd];omega⟩⟩,contB_iff.mpr ⟨by simp,by rw[he];omega,by rw[he];omega⟩⟩
    rw[this];unfold clsL;rw[if_neg (by omega),if_neg (by omega),if_pos (by omega)];simp;omega
   have:=runeA_good (by rw[hb];omega) hw
   rw[hn,hv]at this
   first|exact this.1|exact this.2
theorem runes_low {r:Int} (h0:0≤r) (h:r<128) (ys:List Int):runesOf (r::ys)=r::runesOf ys:=by
 have:=runes_enc (r:=r) ⟨h0,by omega,by omega⟩ ys
 unfold encL at this
 rw[if_pos h]at this
 exact this
end
section
def quoteU (r:Int):List Int:=
 if r=34 then [92,34]else if r=92 then [92,92]else if r=10 then [92,110]else if r=9 then [92,116]else if r<32∨r=127 then [92,117,123]++hexL r.toNat++ [125]else [r]
theorem runes_ascii (a:List Int) (h: ∀z∈a,0≤z∧z<128) (ys:List Int):runesOf (a++ys)=a++runesOf ys:=by
 induction a with
 |nil=>rfl
 |cons z a ih=>
  have:=h z Jy
  rw[List.cons_append,runes_low this.1 this.2,ih (fun x hx=>h x (Jx _ hx))];rfl
end
section
def posOf (zs:List Int):Nat→Nat
 |0=>0
 |k+1=>if posOf zs k<zs.length then posOf zs k+widA zs (posOf zs k)else posOf zs k
def foldB (z:Int):Int:=if 65≤z∧z≤90 then z+32 else z
end
section
open Go.RowKit
section
variable {P:Program} {Q:Exit→Act→World→Prop} {ops:Array Oper}
def putAll:List Oper→Nat→(Nat→Value)→Act→Act
 | [],_,_,a=>a
 |o::l,k,u,a=>putAll l (k+1) u (a.put o.dst (u k))
def Deps (n:Nat) (T:Nat→Value→World→Prop) (u:Nat→Value) (w:World):List Edge→Prop
 | []=>True
 |e::es=>(Region.binds .any e=true→e.on<n→T e.on (u e.on) w)∧Deps n T u w es
def blk:Value→Nat
 | .pointer (some a)=>a.block
 |_=>0
def StepsAll (P:Program) (ops:Array Oper) (Q:Exit→Act→World→Prop) (n:Nat) (T:Nat→Value→World→Prop) (A:Nat→Bool) (w0:World) (a0:Act) (l0:List Oper):List Oper→Nat→Prop
 | [],_=>True
 |o::l,k=>(∀u w,Below w0.heap.size w0 w→Deps n T u w o.after.toList→
   wpList P ops (Exit.then (fun a' w'=> ∃v,a'=(putAll l0 0 u a0).put o.dst v∧T k v w'∧Below w.heap.size w w'∧(A k=true→w.heap.size≤blk v)) Q) [o] (putAll l0 0 u a0) w)∧StepsAll P ops Q n T A w0 a0 l0 l (k+1)
theorem upon_then {o:Oper} {a:Act} {K K2:Act→World→Prop} {r:Result Next} (h:o.upon P a K (Exit.then K2 Q) r):o.upon P a K Q r:=by
 cases r with
 |ok n w'=>cases n<;>exact h
 |halt x w'=>cases x<;>exact h
theorem wpOp_of_one {i:Nat} {o:Oper} {a:Act} {w:World} {K K':Act→World→Prop} (ho:ops[i]?=some o) (hK: ∀a w,K a w→K' a w) (h:wpList P ops (Exit.then K Q) [o] a w):wpOp P ops Q i K' a w:=by
 refine wpOp_mono hK ?_
 unfold wpOp
 simp only[ho]
 unfold wpList at h
 split
 ·rename_i hw
  rw[if_pos hw]at h
  rcases h with h|h
  ·exact Or.inl (upon_then h)
  ·exact Or.inr h
 ·rename_i hw
  rw[if_neg hw]at h
  exact h
theorem steps_at {n:Nat} {T:Nat→Value→World→Prop} {A:Nat→Bool} {w0:World} {a0:Act} {l0:List Oper} : ∀(l:List Oper) (k:Nat),StepsAll P ops Q n T A w0 a0 l0 l k→∀j o,l[j]?=some o→
  ∀u w,Below w0.heap.size w0 w→Deps n T u w o.after.toList→wpList P ops (Exit.then (fun a' w'=> ∃v,a'=(putAll l0 0 u a0).put o.dst v∧T (k+j) v w'∧Below w.heap.size w w'∧(A (k+j)=true→w.heap.size≤blk v)) Q) [o] (putAll l0 0 u a0) w
 | [],_,_,j,o,hj=>by simp at hj
 |p::l,k,h,0,o,hj=>by
  obtain rfl:p=o:=by simpa using hj
  exact h.1
 |p::l,k,h,j+1,o,hj=>by
  have:=steps_at l (k+1) h.2 j o (by simpa using hj)
  rw[show k+(j+1)=k+1+j by omega];exact this
theorem put_put (a:Act) (x:Option Tmp) (v u:Value):(a.put x v).put x u=a.put x u:=by
 cases x with
 |none=>rfl
 |some d=>simp[Act.put]
theorem putAll_comm: ∀(l:List Oper) (k:Nat) (u:Nat→Value) (a:Act) (d:Option Tmp) (v:Value),d∉l.map (·.dst)→(putAll l k u a).put d v=putAll l k u (a.put d v)
 | [],_,_,_,_,_,_=>rfl
 |o::l,k,u,a,d,v,h=>by
  have h1: ¬d=o.dst:=fun e=>h (by simp[e])
  have h2:d∉l.map (·.dst):=fun e=>h (by simp only[List.map_cons,List.mem_cons];exact Or.inr e)
  unfold putAll
  rw[putAll_comm l (k+1) u _ d v h2,Act.put_comm a (x:=o.dst) (y:=d) (u k) v (fun e he hd=>h1 (hd.trans he.symm))]
theorem putAll_congr: ∀(l:List Oper) (k:Nat) (u u':Nat→Value) (a:Act),(∀j,k≤j→u j=u' j)→putAll l k u a=putAll l k u' a
 | [],_,_,_,_,_=>rfl
 |o::l,k,u,u',a,h=>by
  unfold putAll
  rw[h k (Mz _)]
  exact putAll_congr l (k+1) u u' _ fun j hj=>h j (by omega)
def upd (u:Nat→Value) (i:Nat) (v:Value):Nat→Value:=fun j=>if j=i then v else u j
theorem putAll_put: ∀(l:List Oper) (k:Nat) (u:Nat→Value) (a:Act) (i:Nat) (o:Oper) (v:Value),(l.map (·.dst)).Nodup→l[i]?=some o→(putAll l k u a).put o.dst v=putAll l k (upd u (k+i) v) a
 | [],_,_,_,i,_,_,_,hi=>by simp at hi
 |p::l,k,u,a,0,o,v,hd,hi=>by
  obtain rfl:p=o:=by simpa using hi
  rw[List.map_cons,List.nodup_cons]at hd
  unfold putAll
  rw[putAll_comm l (k+1) u _ _ v hd.1,put_put,show upd u (k+0) v k=v by simp[upd]]
  exact putAll_congr l (k+1) u _ _ fun j hj=>by unfold upd;rw[if_neg (by omega)]
 |p::l,k,u,a,i+1,o,v,hd,hi=>by
  rw[List.map_cons,List.nodup_cons]at hd
  unfold putAll
  rw[putAll_put l (k+1) u _ i o v hd.2 (by simpa using hi),show k+1+i=k+(i+1) by omega,show upd u (k+(i+1)) v k=u k by unfold upd;rw[if_neg (by omega)]]
def slot (a:Act):Option Tmp→Value
 |some d=>a.tmps.getD d undef
 |none=>undef
theorem put_slot (a:Act) (d:Option Tmp):a.put d (slot a d)=a:=by
 cases d with
 |none=>rfl
 |some d=>
  unfold Act.put slot
  have:a.tmps.setIfInBounds d (a.tmps.getD d undef)=a.tmps:=by
   apply Array.ext_getElem?
   intro k
   by_cases h:d=k
   ·subst h
    by_cases hs:d<a.tmps.size
    ·simp[hs]
    ·simp[Array.getElem?_eq_none (Nat.le_of_not_lt hs)];exact Nat.le_of_not_lt hs
   ·rw[Array.getElem?_setIfInBounds_ne h]
  simp only[this]
theorem putAll_self: ∀(l:List Oper) (k:Nat) (u:Nat→Value) (a:Act),(∀j o,l[j]?=some o→u (k+j)=slot a o.dst)→putAll l k u a=a
 | [],_,_,_,_=>rfl
 |o::l,k,u,a,h=>by
  unfold putAll
  rw[show u k=slot a o.dst from h 0 o rfl,put_slot]
  exact putAll_self l (k+1) u a fun j p hp=>by rw[show k+1+j=k+(j+1) by omega];exact h (j+1) p (by simpa using hp)
def mu (listed:Array Bool):Nat→Nat
 |0=>0
 |k+1=>mu listed k+if listed.getD k false=true then 0 else 1
theorem mu_zero {listed:Array Bool} : ∀k,mu listed k=0→∀i,i<k→listed.getD i false=true
 |0,_,i,hi=>by omega
 |k+1,h,i,hi=>by
  unfold mu at h
  by_cases hik:i=k
  ·subst hik
   by_cases hl:listed.getD i false=true
   ·exact hl
   ·rw[if_neg hl]at h;omega
  ·exact mu_zero k (by omega) i (by omega)
theorem mu_some {listed:Array Bool} : ∀k,0<mu listed k→∃i,i<k∧¬listed.getD i false=true∧∀j,j<i→listed.getD j false=true
 |0,h=>by simp[mu]at h
 |k+1,h=>by
  by_cases h0:0<mu listed k
  ·obtain⟨i,hi,h1,h2⟩:=mu_some k h0
   exact⟨i,by omega,h1,h2⟩
  ·refine⟨k,by omega,fun hl=>?_,fun j hj=>mu_zero k (by omega) j hj⟩
   unfold mu at h
   rw[if_pos hl]at h;omega
theorem mu_set_le {listed:Array Bool} {i:Nat} : ∀k,mu (listed.setIfInBounds i true) k≤mu listed k
 |0=>Mz _
 |k+1=>by
  have:=mu_set_le (listed:=listed) (i:=i) k
  unfold mu
  by_cases hl:listed.getD k false=true
  ·rw[if_pos hl,if_pos (getD_set_true hl)];omega
  ·rw[if_neg hl];split<;>omega
theorem mu_set {listed:Array Bool} {i:Nat} (hi:i<listed.size) (hu: ¬listed.getD i false=true): ∀k,i<k→mu (listed.setIfInBounds i true) k+1≤mu listed k
 |0,h=>by omega
 |k+1,h=>by
  unfold mu
  by_cases hik:i=k
  ·subst hik
   have:=mu_set_le (listed:=listed) (i:=i) i
   rw[if_neg hu,if_pos (by simp[hi])];omega
  ·have:=mu_set hi hu k (by omega)
   rw[getD_set_ne false hik];omega
theorem wpAny_seq: ∀(l:List Oper) (k:Nat) (listed:Array Bool) (a:Act) (w:World) (f:Nat),l.length≤f→(∀j,l[j]?=ops[k+j]?)→
  Region.seqB .any ops l.length k listed=true→wpList P ops Q l a w→wpAny P .any ops Q f listed a w
 | [],_,_,_,_,0,_,_,hB,h=>⟨by simpa [Region.seqB] using hB,h⟩
 | [],_,listed,_,_,f+1,_,_,hB,h=>by
  have hr:Region.ready .any ops listed= []:=by simpa [Region.seqB] using hB
  exact⟨fun _=>h,fun i hi=>by rw[hr]at hi;cases hi⟩
 |o::l,k,listed,a,w,0,hf,_,_,_=>by simp at hf
 |o::l,k,listed,a,w,f+1,hf,hl,hB,h=>by
  have h0:ops[k]?=some o:=by simpa using(hl 0).symm
  simp only[List.length_cons,Region.seqB,Bool.and_eq_true,decide_eq_true_eq]at hB
  refine⟨fun h1=>(by rw[hB.1]at h1;cases h1),fun i hi=>?_⟩
  rw[hB.1]at hi
  have hik:i=k:=by simpa using hi
  subst hik
  have hw:wpOp P ops Q i (wpList P ops Q l) a w:=by unfold wpOp;simp only[h0];exact h
  exact wpOp_mono (fun a' w' h'=>wpAny_seq l (i+1) _ a' w' f (by simpa using hf) (fun j=>by have:=hl (j+1);simpa [Nat.add_assoc,Nat.add_comm 1 j] using this) hB.2 h') hw
def reaches (l:List Oper) (f:Nat):Nat→Nat→Bool:=
 Nat.rec (motive:=fun _=>Nat→Nat→Bool) (fun k i=>Region.waitsFor .any l.toArray k i) (fun _ r k i=>Region.waitsFor .any l.toArray k i||(List.range k).any fun j=>Region.waitsFor .any l.toArray k j&&r j i) f
theorem reaches_listed {l:List Oper} {n:Nat} {listed:Array Bool} (inv:HeadInv .any l.toArray n listed): ∀(f k i:Nat),reaches l f k i=true→
  (∀o,l.toArray[k]?=some o→∀e∈o.after,Region.binds .any e=true→listed.getD e.on false=true)→listed.getD i false=true
 |0,k,i,h,hk=>by
  obtain⟨o,ho,e,he,hb,hon⟩:=Region.waitsFor_spec (show Region.waitsFor .any l.toArray k i=true from h)
  rw[←hon];exact hk o ho e he hb
 |f+1,k,i,h,hk=>by
  simp only[reaches,Bool.or_eq_true,List.any_eq_true,List.mem_range,Bool.and_eq_true]at h
  rcases h with h|⟨j,_,h1,h2⟩
  ·obtain⟨o,ho,e,he,hb,hon⟩:=Region.waitsFor_spec h
   rw[←hon];exact hk o ho e he hb
  ·obtain⟨o,ho,e,he,hb,hon⟩:=Region.waitsFor_spec h1
   have hj:listed.getD j false=true:=by rw[←hon];exact hk o ho e he hb
   exact reaches_listed inv f j i h2 fun o' ho'=>inv.closed j o' ho' hj
def mixB (l:List Oper) (n:Nat):Bool:=
 decide (n≤l.length)&&decide (((l.take n).map (·.dst)).Nodup)&&
 ((List.range n).all fun i=>match l[i]? with|some o=>o.after.all fun e=> !Region.binds .any e||decide (e.on<i)|none=>false)&&
 ((List.range l.length).all fun k=>decide (k<n)||(List.range n).all fun i=>reaches l n k i)&&
 Region.seqB .any l.toArray (l.length-n) n ((List.range l.length).map fun i=>decide (i<n)).toArray
theorem deps_of {n:Nat} {T:Nat→Value→World→Prop} {u:Nat→Value} {w:World} : ∀(es:List Edge),(∀e∈es,Region.binds .any e=true→e.on<n→T e.on (u e.on) w)→Deps n T u w es
 | [],_=>trivial
 |e::es,h=>⟨h e (by simp),deps_of es fun e' he'=>h e' (by simp[he'])⟩
theorem mix_all {l:List Oper} {n:Nat} {T:Nat→Value→World→Prop} {A:Nat→Bool} {w0:World} {a0:Act} (hB:mixB l n=true)
  (hT: ∀i v w w',T i v w→Below w.heap.size w w'→T i v w')
  (hA: ∀i v w,A i=true→T i v w→blk v<w.heap.size)
  (hs:StepsAll P l.toArray Q n T A w0 a0 (l.take n) (l.take n) 0)
  (hf: ∀u w,Below w0.heap.size w0 w→(∀i,i<n→T i (u i) w)→(∀i j,i<n→j<n→A i=true→A j=true→i≠j→blk (u i)≠blk (u j))→wpList P l.toArray Q (l.drop n) (putAll (l.take n) 0 u a0) w):
  ∀(f:Nat) (listed:Array Bool) (u:Nat→Value) (w:World),mu listed n≤f→HeadInv .any l.toArray n listed→Below w0.heap.size w0 w→(∀i,i<n→listed.getD i false=true→T i (u i) w)→(∀i j,i<n→j<n→A i=true→A j=true→listed.getD i false=true→listed.getD j false=true→i≠j→blk (u i)≠blk (u j))→
   wpAny P .any l.toArray Q (f+(l.length-n)) listed (putAll (l.take n) 0 u a0) w:=by
 simp only[mixB,Bool.and_eq_true,decide_eq_true_eq,List.all_eq_true,List.mem_range,Bool.or_eq_true]at hB
 obtain⟨⟨⟨⟨hn,hd⟩,h1⟩,h2⟩,h3⟩:=hB
 have done: ∀(f:Nat) (listed:Array Bool) (u:Nat→Value) (w:World),mu listed n=0→HeadInv .any l.toArray n listed→Below w0.heap.size w0 w→(∀i,i<n→listed.getD i false=true→T i (u i) w)→(∀i j,i<n→j<n→A i=true→A j=true→listed.getD i false=true→listed.getD j false=true→i≠j→blk (u i)≠blk (u j))→
   wpAny P .any l.toArray Q (f+(l.length-n)) listed (putAll (l.take n) 0 u a0) w:=by
  intro f listed u w hmu inv hb ht hdj
  have hall:=mu_zero n hmu
  have hls:listed.size=l.length:=by rw[inv.size];simp
  have he:listed=((List.range l.length).map fun i=>decide (i<n)).toArray:=by
   apply Array.ext (by simp[hls])
   intro i hi hi2
   simp only[List.getElem_toArray,List.getElem_map,List.getElem_range]
   by_cases hin:i<n
   ·have:=hall i hin
    simp[hi]at this
    simp[this,hin]
   ·have:=inv.tail i (by omega) (by simpa using(by omega:i<l.length))
    simp[hi]at this
    simp[this,hin]
  refine wpAny_seq (l.drop n) n listed _ w _ (by simp) (fun j=>by simp[List.getElem?_drop]) (by rw[he,List.length_drop];exact h3) (hf u w hb (fun i hi=>ht i hi (hall i hi)) fun i j hi hj ai aj=>hdj i j hi hj ai aj (hall i hi) (hall j hj))
 intro f
 induction f with
 |zero=>intro listed u w hmu inv hb ht hdj;exact done 0 listed u w (by omega) inv hb ht hdj
 |succ f ih=>
  intro listed u w hmu inv hb ht hdj
  by_cases h0:mu listed n=0
  ·exact done _ listed u w h0 inv hb ht hdj
  ·obtain⟨m,hmn,hmu1,hmu2⟩:=mu_some n (by omega:0<mu listed n)
   have hls:listed.size=l.length:=by rw[inv.size];simp
   rw[show f+1+(l.length-n)=f+(l.length-n)+1 by omega]
   refine⟨fun hr=>?_,fun i hi=>?_⟩
   ·have hm:m∈Region.ready .any l.toArray listed:=by
     rw[mem_ready]
     refine⟨getD_in (by omega) (by simpa using hmu1),?_⟩
     have:=h1 m hmn
     cases ho:l[m]? with
     |none=>rw[ho]at this;simp at this
     |some o=>
      rw[ho]at this
      refine⟨o,by simpa using ho,fun e he hbd=>hmu2 e.on ?_⟩
      simp only[Array.all_eq_true_iff_forall_mem]at this
      have:=this e he
      rw[hbd]at this
      simpa using this
    rw[hr]at hm;cases hm
   ·obtain⟨hun,o,ho,hall⟩:=mem_ready.1 hi
    have hil:i<l.length:=by have:=(Array.getElem?_eq_some_iff.1 ho).1;simpa using this
    have hin:i<n:=by
     rcases h2 i hil with h|h
     ·exact h
     ·refine(hmu1 (reaches_listed inv n i m (h m hmn) fun o' ho'=>?_)).elim
      have:o'=o:=Option.some.inj (ho'.symm.trans ho)
      subst this
      exact hall
    have ho2:(l.take n)[i]?=some o:=by rw[List.getElem?_take_of_lt hin];simpa using ho
    have hst:=steps_at (l.take n) 0 hs i o ho2 u w hb (deps_of _ fun e he hbd hen=>ht e.on hen (hall e (by simpa using he) hbd))
    refine wpOp_of_one ho (fun a' w' hK=>?_) hst
    obtain⟨v,rfl,htv,hbel,hnew⟩:=hK
    rw[Ly]at htv hnew
    rw[putAll_put (l.take n) 0 u a0 i o v hd ho2,Ly]
    have hun': ¬listed.getD i false=true:=by rw[getD_both hun];simp
    refine ih _ _ w' ?_ (inv.set hi hin) (hb.trans (hbel.mono hb.size)) (fun j hj hl=>?_) (fun j k hj hk aj ak lj lk hjk=>?_)
    ·have:=mu_set (by omega) hun' n hin;omega
    ·by_cases hji:j=i
     ·subst hji;simpa [upd] using htv
     ·rw[show upd u i v j=u j by unfold upd;rw[if_neg hji]]
      rw[getD_set_ne false (Ne.symm hji)]at hl
      exact hT j _ w w' (ht j hj hl) hbel
    ·by_cases hji:j=i
     ·subst hji
      rw[getD_set_ne false hjk]at lk
      rw[show upd u j v j=v by simp[upd],show upd u j v k=u k by unfold upd;rw[if_neg (Ne.symm hjk)]]
      have:=hA k _ w ak (ht k hk lk)
      have:=hnew aj
      omega
     ·rw[getD_set_ne false (Ne.symm hji)]at lj
      by_cases hki:k=i
      ·subst hki
       rw[show upd u k v k=v by simp[upd],show upd u k v j=u j by unfold upd;rw[if_neg hji]]
       have:=hA j _ w aj (ht j hj lj)
       have:=hnew ak
       omega
      ·rw[getD_set_ne false (Ne.symm hki)]at lk
       rw[show upd u i v j=u j by unfold upd;rw[if_neg hji],show upd u i v k=u k by unfold upd;rw[if_neg hki]]
       exact hdj j k hj hk aj ak lj lk hjk
theorem wp_region_mix {l:List Oper} {id:Nat} {a0:Act} {w0:World} (n:Nat) (T:Nat→Value→World→Prop) (A:Nat→Bool) (hm:P.follows .mixedOrders=true) (hB:mixB l n=true)
  (hT: ∀i v w w',T i v w→Below w.heap.size w w'→T i v w')
  (hA: ∀i v w,A i=true→T i v w→blk v<w.heap.size)
  (hs:StepsAll P l.toArray Q n T A w0 a0 (l.take n) (l.take n) 0)
  (hf: ∀u w,Below w0.heap.size w0 w→(∀i,i<n→T i (u i) w)→(∀i j,i<n→j<n→A i=true→A j=true→i≠j→blk (u i)≠blk (u j))→wpList P l.toArray Q (l.drop n) (putAll (l.take n) 0 u a0) w):(Code.region id l.toArray true).wp P Q a0 w0:=by
 refine wp_region_any hm ?_
 have inv0:HeadInv .any l.toArray n (Array.replicate l.toArray.size false):=
  ⟨by simp,fun j oj _ hl=>(by rw[getD_replicate_false]at hl;cases hl),fun t _ ht=>getD_in (by simpa using ht) (getD_replicate_false _ _)⟩
 have hn:n≤l.length:=by simp only[mixB,Bool.and_eq_true,decide_eq_true_eq]at hB;exact hB.1.1.1.1
 have hmu:mu (Array.replicate l.toArray.size false) n≤n:=by
  have: ∀(s:Array Bool) k,mu s k≤k:=fun s k=>by
   induction k with
   |zero=>simp[mu]
   |succ k ih=>unfold mu;split<;>omega
  exact this _ _
 have h:=mix_all (P:=P) (Q:=Q) hB hT hA hs hf n (Array.replicate l.toArray.size false) (fun i=>match (l.take n)[i]? with|some o=>slot a0 o.dst|none=>undef) w0.drew hmu inv0 (Below.refl _ _).drew
  (fun i _ hl=>by rw[getD_replicate_false]at hl;cases hl) (fun i j _ _ _ _ hl=>by rw[getD_replicate_false]at hl;cases hl)
 rw[putAll_self (l.take n) 0 _ a0 (fun j o hj=>by simp only[Ly,hj])]at h
 rw[show n+(l.length-n)=l.toArray.size by simp;omega]at h
 exact h
end
def TLst (l:List Value) (k:Nat) (v:Value) (_w:World):Prop:=v=l.getD k undef
end
end Go.Proofs.YtgmfkbamfnkbgaaDoor
