/-
  Texts of digits, as bytes, and the numbers that they are: plain arithmetic. No program in sight.
-/
import Derived.Shelf.Small.Bits
import Derived.Shelf.Utf8.RuneCount
import Derived.Shelf.Strconv.Itoa0
import Derived.Ground.SlgnProg
import Derived.Shelf.SlicesG.Equal
import Derived.Shelf.SlicesG.CompactI
import Derived.Shelf.SlicesG.SearchI
import Derived.Ground.SlgmProg
import Derived.Shelf.SortM.Plain
import Derived.Shelf.SortM.SortNone
import Derived.Shelf.Unicode.ValidAny
import Derived.Lib.LaidU8T
import Derived.Test.YtgmfkbamfnkbgaaDoorProg
import Derived.WalkKit
import Derived.Lib.Hide
import Derived.Laws.AppendOwn
import Derived.Laws.OwnMore
import Derived.WalkSpells
import Derived.Lib.AppendZeros
import Derived.Laws.Append
import Derived.Maps.AppendAt
import Derived.WalkSmall
import Derived.Laws.BytesArg
section
namespace Go.Proofs
open Go.Shelf
def Tryd.lays128_ren:Go.Shelf.Ren:=⟨fun|128=>75|n=>n,fun|51=>40|3=>3|4=>4|46=>83|5=>5|9=>9|n=>n,fun|n=>n⟩
def Tryd.lays125_ren:Go.Shelf.Ren:=⟨fun|125=>47|128=>75|129=>76|n=>n,fun|46=>83|3=>3|51=>40|53=>50|4=>4|5=>5|9=>9|n=>n,fun|n=>n⟩
def Tryd.lays195_ren:Go.Shelf.Ren:=⟨fun|195=>95|n=>n,fun|9=>9|3=>3|0=>0|4=>4|n=>n,fun|n=>n⟩
theorem Tryd.lays195:Go.Proofs.Lays.n195 Tryd.prog Tryd.lays195_ren:= {
 mixed:=by kernel_rfl
 f195:=Tryd.func95.trans (congrArg some (by kernel_rfl))
 t0:=Tryd.underlying0
 a0:=Tryd.isAgg0
 z0:=Tryd.sizeOf0
 v0:=Tryd.zeroValue0
 t3:=Tryd.underlying3
 a3:=Tryd.isAgg3
 z3:=Tryd.sizeOf3
 v3:=Tryd.zeroValue3
 t4:=Tryd.underlying4
 a4:=Tryd.isAgg4
 z4:=Tryd.sizeOf4
 v4:=Tryd.zeroValue4
 t9:=Tryd.underlying9
 a9:=Tryd.isAgg9
 z9:=Tryd.sizeOf9
 v9:=Tryd.zeroValue9 }
open Go.RowKit in
theorem Tryd.utf8_RuneCountInString (s:ByteArray) (w:World) (hs:s.size<9223372036854775807):
  Calls Tryd.prog 95 #[.string s] w fun e w'=>e= .returned (.int .i64 (Lib.runeCount s))∧∃pos,w'=w.iter s pos:=Any.utf8_RuneCountInString Tryd.lays195 s w hs
def Tryd.lays129_ren:Go.Shelf.Ren:=⟨fun|129=>76|n=>n,fun|53=>50|3=>3|4=>4|46=>83|5=>5|9=>9|n=>n,fun|n=>n⟩
def Tryd.laysSlN33_f62_ren:Go.Shelf.Ren:=⟨fun|33=>62|n=>n,fun|22=>47|23=>2|4=>4|3=>3|0=>0|n=>n,fun|n=>n⟩
theorem Tryd.laysSlN33_f62:Go.Proofs.SlLaysN.n33 Tryd.prog Tryd.laysSlN33_f62_ren:= {
 mixed:=by kernel_rfl
 f33:=⟨Tryd.f62.name,by decide,Tryd.func62.trans (congrArg some (by kernel_rfl))⟩
 t0:=Tryd.underlying0
 a0:=Tryd.isAgg0
 z0:=Tryd.sizeOf0
 v0:=Tryd.zeroValue0
 t3:=Tryd.underlying3
 a3:=Tryd.isAgg3
 z3:=Tryd.sizeOf3
 v3:=Tryd.zeroValue3
 t4:=Tryd.underlying4
 a4:=Tryd.isAgg4
 z4:=Tryd.sizeOf4
 v4:=Tryd.zeroValue4
 t22:=Tryd.underlying47
 a22:=Tryd.isAgg47
 z22:=Tryd.sizeOf47
 v22:=Tryd.zeroValue47
 t23:=Tryd.underlying2
 a23:=Tryd.isAgg2
 z23:=Tryd.sizeOf2
 v23:=Tryd.zeroValue2 }
open Go.RowKit Go.Lib in
theorem Tryd.slices_Equal_int (b1 o1 n c b2 o2 m d:Nat) (xs ys:List Int) (w:World) (hx:n≤xs.length) (hy:m≤ys.length) (hbig:n≤9223372036854775807) (hbig2:m≤9223372036854775807) (hc1: ∀j,j<xs.length→w.cell? ⟨b1,o1+j,none⟩=some (.int .i64 (xs.getD j 0))) (hc2: ∀j,j<ys.length→w.cell? ⟨b2,o2+j,none⟩=some (.int .i64 (ys.getD j 0))):
  Calls Tryd.prog 62 #[.slice (some ⟨b1,o1,none⟩) n c, .slice (some ⟨b2,o2,none⟩) m d] w fun e w'=>e= .returned (.bool (xs.take n==ys.take m))∧∃q,w'=w.drewN q:=AnyG.slices_Equal_int Tryd.laysSlN33_f62 b1 o1 n c b2 o2 m d xs ys w hx hy hbig hbig2 hc1 hc2
open Go.RowKit Go.Lib in
theorem Tryd.slices_Equal_int_empty (a1 a2:Option Addr) (c m d:Nat) (w:World) (hbig2:m≤9223372036854775807):
  Calls Tryd.prog 62 #[.slice a1 0 c, .slice a2 m d] w fun e w'=>e= .returned (.bool (decide (m=0)))∧w'=w:=AnyG.slices_Equal_int_empty Tryd.laysSlN33_f62 a1 a2 c m d w hbig2
def Tryd.laysSlN43_f30_ren:Go.Shelf.Ren:=⟨fun|43=>30|n=>n,fun|22=>47|23=>2|3=>3|4=>4|0=>0|n=>n,fun|n=>n⟩
theorem Tryd.laysSlN43_f30:Go.Proofs.SlLaysN.n43 Tryd.prog Tryd.laysSlN43_f30_ren:= {
 mixed:=by kernel_rfl
 f43:=⟨Tryd.f30.name,by decide,Tryd.func30.trans (congrArg some (by kernel_rfl))⟩
 t0:=Tryd.underlying0
 a0:=Tryd.isAgg0
 z0:=Tryd.sizeOf0
 v0:=Tryd.zeroValue0
 t3:=Tryd.underlying3
 a3:=Tryd.isAgg3
 z3:=Tryd.sizeOf3
 v3:=Tryd.zeroValue3
 t4:=Tryd.underlying4
 a4:=Tryd.isAgg4
 z4:=Tryd.sizeOf4
 v4:=Tryd.zeroValue4
 t22:=Tryd.underlying47
 a22:=Tryd.isAgg47
 z22:=Tryd.sizeOf47
 v22:=Tryd.zeroValue47
 t23:=Tryd.underlying2
 a23:=Tryd.isAgg2
 z23:=Tryd.sizeOf2
 v23:=Tryd.zeroValue2
 i23:=by kernel_rfl }
open Go.RowKit Go.Lib Go.Sort in
theorem Tryd.slices_Compact_int (blk off cap:Nat) (zs:List Int) (w:World) (hH:Holds (Value.int .i64) w blk off zs.toArray) (hsz:zs.length≤9223372036854775807) (hcap:zs.length≤cap):
  Calls Tryd.prog 30 #[.slice (some ⟨blk,off,none⟩) zs.length cap] w fun e w'=>e= .returned (.slice (some ⟨blk,off,none⟩) (Lib.compact zs).length cap)∧∃q,w'=putRow (Value.int .i64) (Sort.ahead w q) blk off (Lib.compact zs++List.replicate (zs.length-(Lib.compact zs).length) 0).toArray:=AnyG.slices_Compact_int Tryd.laysSlN43_f30 blk off cap zs w hH hsz hcap
open Go.RowKit Go.Lib Go.Sort in
theorem Tryd.slices_Compact_int_empty (a:Option Addr) (cap:Nat) (w:World):
  Calls Tryd.prog 30 #[.slice a 0 cap] w fun e w'=>e= .returned (.slice a 0 cap)∧w'=w:=AnyG.slices_Compact_int_empty Tryd.laysSlN43_f30 a cap w
def Tryd.laysSlN68_f92_ren:Go.Shelf.Ren:=⟨fun|68=>92|n=>n,fun|23=>2|4=>4|n=>n,fun|n=>n⟩
def Tryd.laysSlN59_f72_ren:Go.Shelf.Ren:=⟨fun|59=>72|68=>92|n=>n,fun|23=>2|4=>4|n=>n,fun|n=>n⟩
def Tryd.laysSlM5_f29_ren:Go.Shelf.Ren:=⟨fun|5=>29|8=>47|7=>46|19=>75|20=>76|10=>66|11=>67|12=>68|13=>69|14=>70|15=>71|16=>72|17=>73|18=>74|30=>87|31=>88|32=>89|33=>90|34=>91|35=>92|40=>96|n=>n,fun|23=>47|25=>2|3=>3|32=>83|22=>47|0=>0|44=>40|46=>50|4=>4|36=>98|35=>97|41=>102|5=>5|9=>9|53=>111|57=>115|63=>119|64=>120|n=>n,fun|n=>n⟩
theorem Tryd.laysSlM5_f29:Go.Proofs.SlLaysM.n5 Tryd.prog Tryd.laysSlM5_f29_ren:= {
 mixed:=by kernel_rfl
 f5:=⟨Tryd.f29.name,by decide,Tryd.func29.trans (congrArg some (by kernel_rfl))⟩
 f7:=⟨Tryd.f46.name,by decide,Tryd.func46.trans (congrArg some (by kernel_rfl))⟩
 f8:=Tryd.func47.trans (congrArg some (by kernel_rfl))
 f10:=⟨Tryd.f66.name,by decide,Tryd.func66.trans (congrArg some (by kernel_rfl))⟩
 f11:=⟨Tryd.f67.name,by decide,Tryd.func67.trans (congrArg some (by kernel_rfl))⟩
 f12:=⟨Tryd.f68.name,by decide,Tryd.func68.trans (congrArg some (by kernel_rfl))⟩
 f13:=⟨Tryd.f69.name,by decide,Tryd.func69.trans (congrArg some (by kernel_rfl))⟩
 f14:=⟨Tryd.f70.name,by decide,Tryd.func70.trans (congrArg some (by kernel_rfl))⟩
 f15:=⟨Tryd.f71.name,by decide,Tryd.func71.trans (congrArg some (by kernel_rfl))⟩
 f16:=⟨Tryd.f72.name,by decide,Tryd.func72.trans (congrArg some (by kernel_rfl))⟩
 f17:=⟨Tryd.f73.name,by decide,Tryd.func73.trans (congrArg some (by kernel_rfl))⟩
 f18:=⟨Tryd.f74.name,by decide,Tryd.func74.trans (congrArg some (by kernel_rfl))⟩
 f19:=Tryd.func75.trans (congrArg some (by kernel_rfl))
 f20:=Tryd.func76.trans (congrArg some (by kernel_rfl))
 f30:=⟨Tryd.f87.name,by decide,Tryd.func87.trans (congrArg some (by kernel_rfl))⟩
 f31:=Tryd.func88.trans (congrArg some (by kernel_rfl))
 f32:=Tryd.func89.trans (congrArg some (by kernel_rfl))
 f33:=⟨Tryd.f90.name,by decide,Tryd.func90.trans (congrArg some (by kernel_rfl))⟩
 f34:=⟨Tryd.f91.name,by decide,Tryd.func91.trans (congrArg some (by kernel_rfl))⟩
 f35:=⟨Tryd.f92.name,by decide,Tryd.func92.trans (congrArg some (by kernel_rfl))⟩
 f40:=⟨Tryd.f96.name,by decide,Tryd.func96.trans (congrArg some (by kernel_rfl))⟩
 t0:=Tryd.underlying0
 a0:=Tryd.isAgg0
 z0:=Tryd.sizeOf0
 v0:=Tryd.zeroValue0
 t3:=Tryd.underlying3
 a3:=Tryd.isAgg3
 z3:=Tryd.sizeOf3
 v3:=Tryd.zeroValue3
 t4:=Tryd.underlying4
 a4:=Tryd.isAgg4
 z4:=Tryd.sizeOf4
 v4:=Tryd.zeroValue4
 t5:=Tryd.underlying5
 a5:=Tryd.isAgg5
 z5:=Tryd.sizeOf5
 v5:=Tryd.zeroValue5
 t9:=Tryd.underlying9
 a9:=Tryd.isAgg9
 z9:=Tryd.sizeOf9
 v9:=Tryd.zeroValue9
 t22:=Tryd.underlying47
 a22:=Tryd.isAgg47
 z22:=Tryd.sizeOf47
 v22:=Tryd.zeroValue47
 t23:=Tryd.underlying47
 a23:=Tryd.isAgg47
 z23:=Tryd.sizeOf47
 v23:=Tryd.zeroValue47
 t25:=Tryd.underlying2
 a25:=Tryd.isAgg2
 z25:=Tryd.sizeOf2
 v25:=Tryd.zeroValue2
 t32:=Tryd.underlying83
 a32:=Tryd.isAgg83
 z32:=Tryd.sizeOf83
 v32:=Tryd.zeroValue83
 t35:=Tryd.underlying97
 a35:=Tryd.isAgg97
 z35:=Tryd.sizeOf97
 v35:=Tryd.zeroValue97
 t36:=Tryd.underlying98
 a36:=Tryd.isAgg98
 z36:=Tryd.sizeOf98
 v36:=Tryd.zeroValue98
 t41:=Tryd.underlying102
 a41:=Tryd.isAgg102
 z41:=Tryd.sizeOf102
 v41:=Tryd.zeroValue102
 t44:=Tryd.underlying40
 a44:=Tryd.isAgg40
 z44:=Tryd.sizeOf40
 v44:=Tryd.zeroValue40
 t46:=Tryd.underlying50
 a46:=Tryd.isAgg50
 z46:=Tryd.sizeOf50
 v46:=Tryd.zeroValue50
 t53:=Tryd.underlying111
 a53:=Tryd.isAgg111
 z53:=Tryd.sizeOf111
 v53:=Tryd.zeroValue111
 t57:=Tryd.underlying115
 a57:=Tryd.isAgg115
 z57:=Tryd.sizeOf115
 v57:=Tryd.zeroValue115
 t63:=Tryd.underlying119
 a63:=Tryd.isAgg119
 z63:=Tryd.sizeOf119
 v63:=Tryd.zeroValue119
 t64:=Tryd.underlying120
 a64:=Tryd.isAgg120
 z64:=Tryd.sizeOf120
 v64:=Tryd.zeroValue120 }
open Go.Sort Go.RowKit in
theorem Tryd.slices_Sort_int (blk off cap:Nat) (zs:List Int) (w:World) (hH:Holds (Value.int .i64) w blk off zs.toArray) (hblk:blk<w.heap.size) (hsz:zs.length<4611686018427387904):
  Calls Tryd.prog 29 #[.slice (some ⟨blk,off,none⟩) zs.length cap] w fun e w'=>
   e= .returned (.tuple #[])∧∃n os,w'=grow (putRow (Value.int .i64) (Sort.ahead w n) blk off (zs.mergeSort fun x y=>decide (x≤y)).toArray) os:=AnyM.slices_Sort_int Tryd.laysSlM5_f29 blk off cap zs w hH hblk hsz
open Go.RowKit Go.Sort in
theorem Tryd.slices_Sort_int_none (p:Option Addr) (cap:Nat) (w:World):
  Calls Tryd.prog 29 #[.slice p 0 cap] w fun e w'=>e= .returned (.tuple #[])∧w'=w:=AnyM.slices_Sort_int_none Tryd.laysSlM5_f29 p cap w
def Tryd.lays196_ren:Go.Shelf.Ren:=⟨fun|196=>94|259=>97|n=>n,fun|9=>9|4=>4|3=>3|5=>5|12=>12|119=>123|0=>0|46=>83|139=>126|138=>125|53=>50|n=>n,fun|3=>0|4=>1|n=>n⟩
theorem Tryd.lays196:Go.Proofs.Lays.n196 Tryd.prog Tryd.lays196_ren:= {
 mixed:=by kernel_rfl
 f196:=Tryd.func94.trans (congrArg some (by kernel_rfl))
 f259:=Tryd.func97.trans (congrArg some (by kernel_rfl))
 t0:=Tryd.underlying0
 a0:=Tryd.isAgg0
 z0:=Tryd.sizeOf0
 v0:=Tryd.zeroValue0
 t3:=Tryd.underlying3
 a3:=Tryd.isAgg3
 z3:=Tryd.sizeOf3
 v3:=Tryd.zeroValue3
 t4:=Tryd.underlying4
 a4:=Tryd.isAgg4
 z4:=Tryd.sizeOf4
 v4:=Tryd.zeroValue4
 t5:=Tryd.underlying5
 a5:=Tryd.isAgg5
 z5:=Tryd.sizeOf5
 v5:=Tryd.zeroValue5
 t9:=Tryd.underlying9
 a9:=Tryd.isAgg9
 z9:=Tryd.sizeOf9
 v9:=Tryd.zeroValue9
 t12:=Tryd.underlying12
 a12:=Tryd.isAgg12
 z12:=Tryd.sizeOf12
 v12:=Tryd.zeroValue12
 t46:=Tryd.underlying83
 a46:=Tryd.isAgg83
 z46:=Tryd.sizeOf83
 v46:=Tryd.zeroValue83
 t53:=Tryd.underlying50
 a53:=Tryd.isAgg50
 z53:=Tryd.sizeOf50
 v53:=Tryd.zeroValue50
 t119:=Tryd.underlying123
 a119:=Tryd.isAgg123
 z119:=Tryd.sizeOf123
 t138:=Tryd.underlying125
 a138:=Tryd.isAgg125
 z138:=Tryd.sizeOf125
 v138:=Tryd.zeroValue125
 t139:=Tryd.underlying126
 a139:=Tryd.isAgg126
 z139:=Tryd.sizeOf126
 v139:=Tryd.zeroValue126
 g3:=by kernel_rfl
 g4:=by kernel_rfl }
theorem Tryd.U8Extra_196:U8Extra Tryd.prog Tryd.lays196_ren:= {
 n3:=by kernel_rfl
 n4:=by kernel_rfl
 y3:=by kernel_rfl
 y4:=by kernel_rfl
 c5:=by kernel_rfl
 c119:=by kernel_rfl
 c138:=by kernel_rfl }
open Go.RowKit in
theorem Tryd.utf8_ValidString (s:ByteArray) (w:World) (hs:s.size≤9223372036854775807) (hT:Lib.Utf8Tabs 0 1 w):
  Calls Tryd.prog 94 #[.string s] w fun e w'=>e= .returned (.bool (Lib.validD s.data.toList))∧Below w.heap.size w w':=Any.utf8_ValidString Tryd.lays196 s w hs hT
theorem Tryd.utf8_tabs {w:World} (h3:Lib.VarReads Tryd.prog w "unicode/utf8.first" Lib.firstData) (h4:Lib.VarReads Tryd.prog w "unicode/utf8.acceptRanges" Lib.acceptData):Lib.Utf8Tabs 0 1 w:=utf8Tabs_of_readsT (U8Types.of196 Tryd.lays196) Tryd.U8Extra_196 h3 h4
end Go.Proofs
end
namespace Go.Proofs.YtgmfkbamfnkbgaaDoor
theorem k4{α β:Type}{P Q:α→Prop}{T:α→β→Prop}:∀j v,P j→Q j→T j v→T j v:=fun _ _ _ _ h=>h
open List renaming getD_eq_getElem?_getD→Mk,getElem?_eq_getElem→Kh,mem_cons_self→Jy
section
open Go.RowKit
theorem below_step {w a b:World} (h:Below w.heap.size w a) (g:Below a.heap.size a b):Below w.heap.size w b:=h.trans (g.mono h.size)
def Box (W:World) (p:Nat) (h l:Int):Prop:=W.cell? ⟨p,0,none⟩=some (.int .u64 h)∧W.cell? ⟨p,1,none⟩=some (.int .u64 l)∧p<W.heap.size
end
section
open Go.RowKit
structure Var2 (W:World) (p:Nat) (x y:Value):Prop where
 c0:W.cell? ⟨p,0,none⟩=some x
 c1:W.cell? ⟨p,1,none⟩=some y
 q0:W.frozen? ⟨p,0,none⟩=false
 q1:W.frozen? ⟨p,1,none⟩=false
 s:p<W.heap.size
structure Var3 (W:World) (p:Nat) (x y z:Value):Prop where
 c0:W.cell? ⟨p,0,none⟩=some x
 c1:W.cell? ⟨p,1,none⟩=some y
 c2:W.cell? ⟨p,2,none⟩=some z
 q0:W.frozen? ⟨p,0,none⟩=false
 q1:W.frozen? ⟨p,1,none⟩=false
 q2:W.frozen? ⟨p,2,none⟩=false
 s:p<W.heap.size
end
section
open Go.RowKit
abbrev Foot:=Nat→Prop
structure OnlyO (base:Nat) (O:Foot) (w w':World):Prop where
 bel:Below base w w'
 keep: ∀i,i<w.heap.size→¬O i→w'.heap[i]?=w.heap[i]?
def Grown (O O':Foot) (n:Nat):Prop:= ∀i,O' i→O i∨n≤i
end
section
open Go.RowKit
structure OwnRow (t:TypeId) (w:World) (base:Nat) (v:Value) (vs:List Value):Prop where
 own:w.ownsRow base t 1 v vs.length vs
 non:v≠ .slice none 0 0
 one: ∀u∈vs,u.oneCell'=true
end
section
open Go.RowKit
theorem addr_add (g k:Nat):(⟨g,0,none⟩:Addr).add k=⟨g,k,none⟩:=by rcases k with _|k<;>simp[Addr.add]
structure RowK (t:TypeId) (sz:Nat) (w:World) (base:Nat) (v:Value) (vs:List (List Value)):Prop where
 own:w.ownsRow base t sz v vs.length vs.flatten
 wid: ∀u∈vs,u.length=sz
 one: ∀u∈vs,∀y∈u,y.oneCell'=true
theorem RowK.nil (t:TypeId) (sz:Nat) (w:World) (base:Nat):RowK t sz w base (.slice none 0 0) []:=⟨World.ownsRow_nil w base _ _,fun u hu=>(by cases hu),fun u hu=>(by cases hu)⟩
theorem RowK.fresh (t:TypeId) (sz:Nat) (w:World) (base g:Nat) (hg:g=w.heap.size) (h:base≤g):RowK t sz (w.alloc (.cells #[] t)) base (.slice (some ⟨g,0,none⟩) 0 0) []:=by
 subst hg
 exact⟨World.ownsRow_made w #[] 0 h (Nat.zero_le _) (by simp),fun u hu=>(by cases hu),fun u hu=>(by cases hu)⟩
theorem RowK.size {t:TypeId} {sz:Nat} {w:World} {base:Nat} {v:Value} {vs:List (List Value)} (h:RowK t sz w base v vs): ∃a cap,v= .slice a vs.length cap:=by
 rcases h.own.2 with⟨e,h0⟩|⟨g,cap,_,e,_⟩
 ·exact⟨none,0,by rw[e,h0]⟩
 ·exact⟨_,cap,e⟩
theorem RowK.form {t:TypeId} {sz:Nat} {w:World} {base:Nat} {v:Value} {vs:List (List Value)} (h:RowK t sz w base v vs) (hne:0<vs.length): ∃g cap,v= .slice (some ⟨g,0,none⟩) vs.length cap∧base≤g∧g<w.heap.size∧vs.length≤cap:=by
 have hlt:=h.own.lt
 rcases h.own.2 with⟨_,h0⟩|⟨g,cap,_,e,hb,_,hc,_⟩
 ·omega
 ·exact⟨g,cap,e,hb,(hlt g (by rw[e];rfl)).2,hc⟩
theorem RowK.lt {t:TypeId} {sz:Nat} {w:World} {base:Nat} {v:Value} {vs:List (List Value)} (h:RowK t sz w base v vs) {b:Nat} (hb:v.ownBlock=some b):base≤b∧b<w.heap.size:=h.own.lt b hb
theorem RowK.kept {t:TypeId} {sz:Nat} {w w':World} {base:Nat} {v:Value} {vs:List (List Value)} (h:RowK t sz w base v vs) (hk: ∀b,v.ownBlock=some b→w'.heap[b]?=w.heap[b]?):RowK t sz w' base v vs:=by
 obtain⟨⟨h1,h2⟩,hn,ho⟩:=h
 refine⟨⟨h1,?_⟩,hn,ho⟩
 rcases h2 with hx|⟨g,cap,cur,rfl,hbg,hg,rest⟩
 ·exact Or.inl hx
 ·exact Or.inr ⟨g,cap,cur,rfl,hbg,(hk g rfl).trans hg,rest⟩
theorem RowK.below {t:TypeId} {sz:Nat} {w w':World} {base:Nat} {v:Value} {vs:List (List Value)} (h:RowK t sz w base v vs) (hb:Below w.heap.size w w'):RowK t sz w' base v vs:=
 h.kept fun b e=>hb.block b (h.lt e).2
theorem RowK.weaken {t:TypeId} {sz:Nat} {w:World} {base base':Nat} {v:Value} {vs:List (List Value)} (h:RowK t sz w base v vs) (hb:base'≤base):RowK t sz w base' v vs:=by
 obtain⟨⟨h1,h2⟩,hn,ho⟩:=h
 refine⟨⟨h1,?_⟩,hn,ho⟩
 rcases h2 with hx|⟨g,cap,cur,rfl,hbg,rest⟩
 ·exact Or.inl hx
 ·exact Or.inr ⟨g,cap,cur,rfl,Nat.le_trans hb hbg,rest⟩
theorem getD_flatten {sz:Nat} : ∀(vs:List (List Value)) (i j:Nat),(∀u∈vs,u.length=sz)→i<vs.length→j<sz→vs.flatten[i*sz+j]?=some ((vs.getD i []).getD j undef)
 | [],i,j,_,h,_=>by cases h
 |u::vs,0,j,hl,_,hj=>by
  have h1:=hl u (Jy ..)
  rw[List.flatten_cons,Nat.zero_mul,Nat.zero_add,List.getElem?_append_left (by omega),Kh (by omega)]
  simp[Mk,Kh (show j<u.length by omega)]
 |u::vs,i+1,j,hl,h,hj=>by
  have h1:=hl u (Jy ..)
  have ih:=getD_flatten vs i j (fun x hx=>hl x (List.mem_cons_of_mem _ hx)) (by simpa using h) hj
  have e:(i+1)*sz+j=u.length+(i*sz+j):=by rw[Nat.add_mul,h1];omega
  rw[List.flatten_cons,e,List.getElem?_append_right (by omega),show u.length+(i*sz+j)-u.length=i*sz+j by omega,ih]
  rfl
theorem RowK.at {t:TypeId} {sz:Nat} {w:World} {base g n cap:Nat} {vs:List (List Value)} (h:RowK t sz w base (.slice (some ⟨g,0,none⟩) n cap) vs) (i j:Nat) (hi:i<vs.length) (hj:j<sz):w.cell? ⟨g,i*sz+j,none⟩=some ((vs.getD i []).getD j undef):=by
 have hcs:= @World.ownsRow.cells _ _ _ _ _ _ _ h.own
 have:=hcs (g:=g) rfl (i*sz+j) _ (getD_flatten vs i j h.wid hi hj)
 rw[addr_add]at this
 exact this
theorem run_rowK {w:World} {T t:TypeId} {z:Value} {sz bts:Nat} (hT:Tryd.prog.underlying T=some (.slice t)) (hinf:(Tryd.prog.info? t).map (fun i=>(i.zero,i.size,i.bytes))=some (some z,sz,bts)) (hzs:z.cells.size=sz) (hsz:0<sz) (hbt:bts≤128)
  (base:Nat) (v:Value) (vs:List (List Value)) (hown:RowK t sz w base v vs) (g:Nat) (y:List Value) (hyl:y.length=sz) (hcell: ∀j,j<sz→w.cell? ⟨g,j,none⟩=some (y.getD j undef)) (hy: ∀u∈y,u.oneCell'=true) (hlen:vs.length≤1000000) (hbase:base≤w.heap.size) (ty:TypeId):
  ∃v' w',(Builtin.append_ #[T,T] ty #[v, .slice (some ⟨g,0,none⟩) 1 1]).run Tryd.prog w= .ok v' w'∧RowK t sz w' base v' (vs++ [y])∧OnlyO base (fun i=>some i=v.ownBlock) w w'∧(v'.ownBlock=v.ownBlock∨v'.ownBlock=some w.heap.size):=by
 obtain⟨i0,hi,hz0,hz1,hz2⟩:=info_parts hinf
 have hnews: ∀j u,y[j]?=some u→w.cell? ((⟨g,0,none⟩:Addr).add j)=some u:=by
  intro j u hj
  have hj2:j<y.length:=(List.getElem?_eq_some_iff.1 hj).1
  have:=hcell j (by omega)
  rw[Mk,hj]at this
  rw[addr_add]
  exact this
 have hby:(vs.length+1)*bts≤1000001*128:=Nat.mul_le_mul (by omega) hbt
 obtain⟨v',w',hr,h2,h3,h4,h5⟩:=run_append_own_at (P:=Tryd.prog) w base T ty t i0 z sz bts hT hi hz0 hz1 hz2 hzs hsz v vs.length vs.flatten hown.own ⟨g,0,none⟩ 1 1 y (by omega) hnews hy (by unfold maxLen;omega) (by omega) hbase
 refine⟨v',w',hr,⟨?_,fun u hm=>?_,fun u hm=>?_⟩,⟨(Below.refl base w).grown h3 hbase (fun b hk=>(hown.lt hk).1),fun i hi hne=>h3.block i hi hne⟩,h5⟩
 ·rw[List.length_append,List.flatten_append]
  simpa using h2
 ·rcases List.mem_append.mp hm with hm|hm
  ·exact hown.wid u hm
  ·rw[List.mem_singleton.mp hm];exact hyl
 ·rcases List.mem_append.mp hm with hm|hm
  ·exact hown.one u hm
  ·rw[List.mem_singleton.mp hm];exact hy
theorem wp_rowK {w:World} {ops:Array Oper} {rest:List Oper} {o:Oper} {a:Act} {Q:Exit→Act→World→Prop} {T t:TypeId} {z:Value} {sz bts:Nat} (hgd:o.guard=none) (s x:Operand)
  (ho:o.op= .call { callee:= .builtin .append,args:= #[s,x],argTypes:= #[T,T] }) (hT:Tryd.prog.underlying T=some (.slice t)) (hinf:(Tryd.prog.info? t).map (fun i=>(i.zero,i.size,i.bytes))=some (some z,sz,bts)) (hzs:z.cells.size=sz) (hsz:0<sz) (hbt:bts≤128)
  (base:Nat) (v:Value) (vs:List (List Value)) (hs:a.eval s=v) (hown:RowK t sz w base v vs) (g:Nat) (y:List Value) (hx:a.eval x= .slice (some ⟨g,0,none⟩) 1 1) (hyl:y.length=sz) (hcell: ∀j,j<sz→w.cell? ⟨g,j,none⟩=some (y.getD j undef)) (hy: ∀u∈y,u.oneCell'=true)
  (hlen:vs.length≤1000000) (hbase:base≤w.heap.size)
  (h: ∀v' w',RowK t sz w' base v' (vs++ [y])→OnlyO base (fun i=>some i=v.ownBlock) w w'→(v'.ownBlock=v.ownBlock∨v'.ownBlock=some w.heap.size)→wpList Tryd.prog ops Q rest (a.put o.dst v') w'):wpList Tryd.prog ops Q (o::rest) a w:=by
 obtain⟨v',w',hr,h1,h2,h3⟩:=run_rowK hT hinf hzs hsz hbt base v vs hown g y hyl hcell hy hlen hbase o.type
 exact Lib.wpList_append_run w hgd s x _ _ ho v _ hs hx _ w' hr (h v' w' h1 h2 h3)
end
section
open Go.RowKit
def Ints (k:IntKind) (w:World) (v:Value) (l:List Int):Prop:=
 ∃b off cap,v= .slice (some ⟨b,off,none⟩) l.length cap∧l.length≤cap∧b<w.heap.size∧∀i,i<l.length→w.cell? ⟨b,off+i,none⟩=some (.int k (l.getD i 0))
def OwnInts (t:TypeId) (k:IntKind) (w:World) (base:Nat) (v:Value) (l:List Int):Prop:=
 w.ownsRow base t 1 v l.length (l.map (Value.int k))∧v≠ .slice none 0 0
end
section
structure Tk3 where
 k:Int:=0
 s:ByteArray:=⟨#[]⟩
 n:Int:=0
 a:Int:=0
 b:Int:=0
inductive It where
 |mk (name:ByteArray) (words:List Tk3) (block:Bool) (kids:List It) (a b:Int):It
instance:Inhabited It:=⟨.mk ⟨#[]⟩ [] false [] 0 0⟩
def It.name:It→ByteArray| .mk n _ _ _ _ _=>n
def It.words:It→List Tk3| .mk _ w _ _ _ _=>w
def It.block:It→Bool| .mk _ _ k _ _ _=>k
def It.kids:It→List It| .mk _ _ _ l _ _=>l
def It.a:It→Int| .mk _ _ _ _ a _=>a
def It.b:It→Int| .mk _ _ _ _ _ b=>b
def cntL:List It→Nat
 | []=>0
 | .mk _ _ _ kids _ _::l=>1+cntL kids+cntL l
def depL:List It→Nat
 | []=>0
 | .mk _ _ _ kids _ _::l=>max (1+depL kids) (depL l)
def Tk3.bare (t:Tk3):Tk3:= { t with a:=0,b:=0 }
def bareL:List It→List It
 | []=> []
 | .mk n w k kids _ _::l=> .mk n (w.map Tk3.bare) k (bareL kids) 0 0::bareL l
def toksL:List It→List Tk3
 | []=> []
 | .mk n w k kids a b::l=> { k:=1,s:=n,a:=a,b:=b } ::(w++(if k then { k:=7 } ::(toksL kids++ [{ k:=8 }])else [{ k:=9 }]))++toksL l
structure Hd where
 name:ByteArray:=⟨#[]⟩
 words:List Tk3:= []
 a:Int:=0
 b:Int:=0
def Hd.it (h:Hd) (block:Bool) (kids:List It):It:= .mk h.name h.words block kids h.a h.b
def pushS (x:It):List (Hd×List It)→List (Hd×List It)
 | []=> []
 |(h,l)::st=>(h,l++ [x])::st
def popS:List (Hd×List It)→List (Hd×List It)
 | []=> []
 |(h,l)::st=>pushS (h.it true l) st
def trF:List Tk3→List (Hd×List It)→Nat→Option Hd→Except (Int×Int×Int) (List It)
 | [],_,_,_=> .ok []
 |t::T,st,n,some h=>
  if t.k=9 then trF T (pushS (h.it false []) st) n none
  else if t.k=7 then trF T ((h,[])::st) n none
  else if t.k<1∨6<t.k then .error (6,t.a,t.b)
  else if 6≤h.words.length then .error (9,t.a,t.b)
  else trF T st n (some { h with words:=h.words++ [t] })
 |t::T,st,n,none=>
  if t.k=8∧2≤st.length then trF T (popS st) n none
  else if t.k=0∧st.length=1 then .ok (st.headD ({},[])).2
  else if t.k≠1 then .error (6,t.a,t.b)
  else if 5≤st.length then .error (19,t.a,t.b)
  else if 300≤n then .error (9,t.a,t.b)
  else trF T st (n+1) (some { name:=t.s,a:=t.a,b:=t.b })
def cntS:List (Hd×List It)→Nat
 | []=>0
 |(_,l)::st=>cntL l+(if st= []then 0 else 1)+cntS st
def depS:List (Hd×List It)→Nat
 | []=>0
 |(_,l)::st=>max (st.length+depL l) (depS st)
def oneO (o:Option Hd):Nat:=if o.isSome then 1 else 0
def depO (st:List (Hd×List It)) (o:Option Hd):Nat:=if o.isSome then max st.length (depS st)else depS st
def underS:List (Hd×List It)→List (Hd×List It)→List (Hd×List It)
 | [],K=>K
 | [(_,M)],K=>match K with
  | []=> []
  |(h,l)::R=>(h,l++M)::R
 |x::y::st,K=>x::underS (y::st) K
end
section
def W64 (n:Nat):Prop:=n<18446744073709551616
def W128 (n:Nat):Prop:=n<340282366920938463463374607431768211456
def wide (h l:Nat):Nat:=h*18446744073709551616+l
def b2n (b:Bool):Nat:=if b then 1 else 0
def val:List Bool→Nat
 | []=>0
 |b::l=>b2n b+2*val l
def bitN (l:List Bool) (i:Nat):Nat:=b2n (l.getD i false)
def lo (l:List Bool) (k:Nat):Nat:=val (l.take k)
def hi (l:List Bool) (k:Nat):Nat:=val (l.drop k)
def cmpI (x y:Nat):Int:=if x<y then-1 else if y<x then 1 else 0
def LowOf (x:List Bool) (N:Nat):Prop:=val x=N%2^x.length
end
section
structure IsW (h l:Int) (N:Nat):Prop where
 h0:0≤h
 h1:h≤18446744073709551615
 l0:0≤l
 l1:l≤18446744073709551615
 n:h*18446744073709551616+l=(N:Int)
def capN (n:Nat):Nat:=if n<340282366920938463463374607431768211456 then n else 0
def capC (n:Nat):Int:=if n<340282366920938463463374607431768211456 then 0 else 3
end
section
def dec (n:Nat):List Int:=if n<10 then [48+(n:Int)]else dec (n/10)++ [48+((n%10:Nat):Int)]
termination_by n
decreasing_by omega
structure PrintAt (A a:Nat) (xs:List Int):Prop where
 all:dec A=dec a++xs
 some:xs= []∨1≤a
 le:a*10^xs.length≤A
end
section
def nums (s:ByteArray):List Int:=s.data.toList.map fun b=>(b.toNat:Int)
structure Dg (zs:List Int):Prop where
 some:zs≠ []
 head:zs.getD 0 0=48→zs.length=1
 all: ∀i,i<zs.length→48≤zs.getD i 0∧zs.getD i 0≤57
def numOf (zs:List Int):Nat:=zs.foldl (fun a z=>10*a+(z-48).toNat) 0
theorem nums_length (s:ByteArray):(nums s).length=s.size:=by simp[nums]
theorem nums_at (s:ByteArray) (i:Nat) (h:i<s.size):(nums s).getD i 0=(s[i].toNat:Int):=by
 rw[Mk,nums,List.getElem?_map,Kh (by simpa using h)]
 rfl
end
end Go.Proofs.YtgmfkbamfnkbgaaDoor
