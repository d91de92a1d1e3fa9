/-
  A statement that draws its order, with loads, calls and new variables in whatever order, and stores behind all of them: each operation is shown once, by what it waits for. No program in sight.
-/
import Derived.Test.YtiapmjkaappcfaaGreatDoorPkShowGoals00
import Derived.Lib.TrimByte
import Derived.Shelf.Strings.Builder1
import Derived.Shelf.Strings.Builder2
import Derived.Shelf.Strings.Trim
import Derived.Shelf.Small.Utf8
import Derived.Shelf.Small.Bits
import Derived.Shelf.Small.Strs
import Derived.Shelf.Small.Wraps
import Derived.Shelf.Strings.BuilderF
import Derived.Shelf.Strings.BuilderK
import Derived.Shelf.Strings.BuilderRune
import Derived.Shelf.Utf8.AppendRune
import Derived.Shelf.Utf8.RuneCount
import Derived.Shelf.Strconv.Itoa0
import Derived.Shelf.Strconv.Itoa1
import Derived.Shelf.LaysM
import Derived.Shelf.Strconv.Itoa2
import Derived.Shelf.Strconv.Itoa3
import Derived.Shelf.Strconv.Itoa4
import Derived.Shelf.Strings.Search1
import Derived.Shelf.Strings.Search2
import Derived.Shelf.Strings.Search3
import Derived.Shelf.Strings.Cut
import Derived.Shelf.Strings.Shaped
import Derived.Shelf.Strings.Prefix
import Derived.Shelf.Strings.Runes
import Derived.Shelf.Strings.AsciiSet
import Derived.Shelf.Bits.Mul64
import Derived.Shelf.Strings.Repeat
import Derived.Shelf.Unicode.DecodeSlow
import Derived.Shelf.Unicode.DecodeAny
import Derived.Shelf.Unicode.ValidAny
import Derived.Lib.LaidU8T
import Derived.StillTail
namespace Go.Proofs.YtiapmjkaappcfaaGreatDoor
section
def fr:Nat→Nat→List Int
 |0,_=> []
 |k+1,l=>if l=0 then []else(48+((l/1000:Nat):Int))::fr k (l%1000*10)
def tailOf (l:Nat):List Int:=if l=0 then []else 46::fr 4 l
def pct (p:Nat):List Int:=dec (p/10000)++(tailOf (p%10000)++ [37])
theorem fr_zero (k:Nat):fr k 0= []:=by cases k<;>simp[fr]
theorem fr_step {k l:Nat} (h: ¬l=0):fr (k+1) l=(48+((l/1000:Nat):Int))::fr k (l%1000*10):=by rw[fr,if_neg h]
theorem fr_len (k l:Nat):(fr k l).length≤k:=by
 induction k generalizing l with
 |zero=>simp[fr]
 |succ k ih=>
  by_cases h:l=0
  ·subst h;simp[fr_zero]
  ·rw[fr_step h];simp;exact ih _
theorem fr_byte (k l:Nat) (hl:l<10000): ∀x∈fr k l,48≤x∧x≤57:=by
 induction k generalizing l with
 |zero=>simp[fr]
 |succ k ih=>
  by_cases h:l=0
  ·subst h;simp[fr_zero]
  ·intro x hx
   rw[fr_step h]at hx
   rcases List.mem_cons.mp hx with rfl|hx
   ·omega
   ·exact ih _ (by omega) x hx
theorem dec_five (l:Nat) (h:l<10000):dec (10000+l)= [49,48+((l/1000:Nat):Int),48+((l/100%10:Nat):Int),48+((l/10%10:Nat):Int),48+((l%10:Nat):Int)]:=by
 rw[dec_big (by omega),dec_big (by omega),dec_big (by omega),dec_big (by omega),dec_small (by omega)]
 simp only[List.cons_append,List.nil_append]
 congr 1
 ·omega
 ·congr 1
  ·omega
  ·congr 1
   ·omega
   ·congr 1
    ·omega
    ·congr 1;omega
theorem fr_four (l:Nat) (_h:l<10000):
  fr 4 l=if¬l%10=0 then [48+((l/1000:Nat):Int),48+((l/100%10:Nat):Int),48+((l/10%10:Nat):Int),48+((l%10:Nat):Int)]
   else if¬l%100=0 then [48+((l/1000:Nat):Int),48+((l/100%10:Nat):Int),48+((l/10%10:Nat):Int)]
   else if¬l%1000=0 then [48+((l/1000:Nat):Int),48+((l/100%10:Nat):Int)]
   else if¬l=0 then [48+((l/1000:Nat):Int)]else []:=by
 have e1:l%1000*10/1000=l/100%10:=by omega
 have e2:l%1000*10%1000*10/1000=l/10%10:=by omega
 have e3:l%1000*10%1000*10%1000*10/1000=l%10:=by omega
 by_cases h1:l%10=0
 ·rw[if_neg (by omega)]
  by_cases h2:l%100=0
  ·rw[if_neg (by omega)]
   by_cases h3:l%1000=0
   ·rw[if_neg (by omega)]
    by_cases h4:l=0
    ·rw[if_neg (by omega),h4,fr_zero]
    ·rw[if_pos h4,fr_step h4,show l%1000*10=0 by omega,fr_zero]
   ·rw[if_pos h3,fr_step (by omega),fr_step (by omega),e1,show l%1000*10%1000*10=0 by omega,fr_zero]
  ·rw[if_pos h2,fr_step (by omega),fr_step (by omega),fr_step (by omega),e1,e2,show l%1000*10%1000*10%1000*10=0 by omega,fr_zero]
 ·rw[if_pos h1,fr_step (by omega),fr_step (by omega),fr_step (by omega),fr_step (by omega),e1,e2,e3];rfl
def dB (B:List Int) (j:Nat):Nat:=(B.getD j 48-48).toNat
def pv (B:List Int):Nat→Nat
 |0=>0
 |j+1=>pv B j+dB B j*10^(3-j)
structure Fr (B:List Int):Prop where
 some:1≤B.length
 few:B.length≤4
 all: ∀i,i<B.length→48≤B.getD i 0∧B.getD i 0≤57
 last:B.getD (B.length-1) 0≠48
structure Halves (ys A B:List Int) (d:Bool):Prop where
 all:ys=A++(if d then 46::B else [])
 none:46∉A
 nil:d=false→B= []
structure Written (A B:List Int) (d:Bool):Prop where
 dg:Dg A
 fr:d=true→Fr B
def parts (A B:List Int):Nat:=numOf A*10000+pv B 4
end
section
def posOf (zs:List Int):Nat→Nat
 |0=>0
 |k+1=>if posOf zs k<zs.length then posOf zs k+widA zs (posOf zs k)else posOf zs k
def foldB (z:Int):Int:=if 65≤z∧z≤90 then z+32 else z
end
section

end
end Go.Proofs.YtiapmjkaappcfaaGreatDoor
section
namespace Go.Proofs
open Go.Shelf
def Tryz.lays170_ren:Go.Shelf.Ren:=⟨fun|170=>232|n=>n,fun|70=>139|3=>3|0=>0|72=>142|37=>140|5=>5|n=>n,fun|n=>n⟩
def Tryz.lays169_ren:Go.Shelf.Ren:=⟨fun|169=>96|n=>n,fun|70=>139|9=>9|0=>0|72=>142|37=>140|127=>207|3=>3|5=>5|n=>n,fun|n=>n⟩
theorem Tryz.lays169:Go.Proofs.Lays.n169 Tryz.prog Tryz.lays169_ren:= {
 mixed:=by kernel_rfl
 f169:=Tryz.func96.trans (congrArg some (by kernel_rfl))
 t0:=Tryz.underlying0
 a0:=Tryz.isAgg0
 z0:=Tryz.sizeOf0
 v0:=Tryz.zeroValue0
 t3:=Tryz.underlying3
 a3:=Tryz.isAgg3
 z3:=Tryz.sizeOf3
 v3:=Tryz.zeroValue3
 t9:=Tryz.underlying9
 a9:=Tryz.isAgg9
 z9:=Tryz.sizeOf9
 v9:=Tryz.zeroValue9
 t37:=Tryz.underlying140
 a37:=Tryz.isAgg140
 z37:=Tryz.sizeOf140
 v37:=Tryz.zeroValue140
 t70:=Tryz.underlying139
 a70:=Tryz.isAgg139
 z70:=Tryz.sizeOf139
 v70:=Tryz.zeroValue139
 t72:=Tryz.underlying142
 a72:=Tryz.isAgg142
 z72:=Tryz.sizeOf142
 v72:=Tryz.zeroValue142
 t127:=Tryz.underlying207
 a127:=Tryz.isAgg207
 z127:=Tryz.sizeOf207
 v127:=Tryz.zeroValue207 }
theorem Tryz.Builder_Extra_169:Builder.Extra Tryz.prog Tryz.lays169_ren:= {
 sizeBuilder:=by kernel_rfl
 liesBuilder:=by kernel_rfl
 t5:=Tryz.underlying5
 a5:=Tryz.isAgg5
 z5:=Tryz.sizeOf5
 v5:=Tryz.zeroValue5
 infoByte:=by kernel_rfl
 cellsByte:=by kernel_rfl
 sizeByte:=by kernel_rfl
 neB5:=by decide }
def Tryz.lays241_ren:Go.Shelf.Ren:=⟨fun|241=>262|277=>279|n=>n,fun|70=>139|3=>3|0=>0|72=>142|37=>140|5=>5|n=>n,fun|n=>n⟩
def Tryz.lays165_ren:Go.Shelf.Ren:=⟨fun|165=>231|240=>228|241=>262|276=>258|277=>279|n=>n,fun|70=>139|3=>3|0=>0|4=>4|9=>9|20=>20|72=>142|37=>140|164=>298|5=>5|n=>n,fun|n=>n⟩
def Tryz.lays232_ren:Go.Shelf.Ren:=⟨fun|232=>265|n=>n,fun|9=>9|5=>5|3=>3|4=>4|n=>n,fun|n=>n⟩
def Tryz.lays162_ren:Go.Shelf.Ren:=⟨fun|162=>235|232=>265|227=>266|234=>267|236=>268|228=>281|271=>282|151=>283|120=>294|197=>140|152=>295|260=>190|137=>304|119=>272|224=>291|225=>290|217=>289|266=>302|n=>n,fun|9=>9|4=>4|3=>3|5=>5|117=>310|116=>309|0=>0|124=>313|21=>21|105=>195|46=>220|119=>256|139=>259|138=>258|n=>n,fun|3=>0|4=>1|n=>n⟩
theorem Tryz.lays162:Go.Proofs.Lays.n162 Tryz.prog Tryz.lays162_ren:= {
 mixed:=by kernel_rfl
 f119:=Tryz.func272.trans (congrArg some (by kernel_rfl))
 f120:=Tryz.func294.trans (congrArg some (by kernel_rfl))
 f137:=Tryz.func304.trans (congrArg some (by kernel_rfl))
 f151:=Tryz.func283.trans (congrArg some (by kernel_rfl))
 f152:=Tryz.func295.trans (congrArg some (by kernel_rfl))
 f162:=Tryz.func235.trans (congrArg some (by kernel_rfl))
 f197:=Tryz.func140.trans (congrArg some (by kernel_rfl))
 f217:=Tryz.func289.trans (congrArg some (by kernel_rfl))
 f224:=Tryz.func291.trans (congrArg some (by kernel_rfl))
 f225:=Tryz.func290.trans (congrArg some (by kernel_rfl))
 f227:=Tryz.func266.trans (congrArg some (by kernel_rfl))
 f228:=Tryz.func281.trans (congrArg some (by kernel_rfl))
 f232:=Tryz.func265.trans (congrArg some (by kernel_rfl))
 f234:=Tryz.func267.trans (congrArg some (by kernel_rfl))
 f236:=Tryz.func268.trans (congrArg some (by kernel_rfl))
 f260:=Tryz.func190.trans (congrArg some (by kernel_rfl))
 f266:=Tryz.func302.trans (congrArg some (by kernel_rfl))
 f271:=Tryz.func282.trans (congrArg some (by kernel_rfl))
 t0:=Tryz.underlying0
 a0:=Tryz.isAgg0
 z0:=Tryz.sizeOf0
 v0:=Tryz.zeroValue0
 t3:=Tryz.underlying3
 a3:=Tryz.isAgg3
 z3:=Tryz.sizeOf3
 v3:=Tryz.zeroValue3
 t4:=Tryz.underlying4
 a4:=Tryz.isAgg4
 z4:=Tryz.sizeOf4
 v4:=Tryz.zeroValue4
 t5:=Tryz.underlying5
 a5:=Tryz.isAgg5
 z5:=Tryz.sizeOf5
 v5:=Tryz.zeroValue5
 t9:=Tryz.underlying9
 a9:=Tryz.isAgg9
 z9:=Tryz.sizeOf9
 v9:=Tryz.zeroValue9
 t21:=Tryz.underlying21
 a21:=Tryz.isAgg21
 z21:=Tryz.sizeOf21
 v21:=Tryz.zeroValue21
 t46:=Tryz.underlying220
 a46:=Tryz.isAgg220
 z46:=Tryz.sizeOf220
 v46:=Tryz.zeroValue220
 t105:=Tryz.underlying195
 a105:=Tryz.isAgg195
 z105:=Tryz.sizeOf195
 v105:=Tryz.zeroValue195
 t116:=Tryz.underlying309
 a116:=Tryz.isAgg309
 z116:=Tryz.sizeOf309
 t117:=Tryz.underlying310
 a117:=Tryz.isAgg310
 z117:=Tryz.sizeOf310
 v117:=Tryz.zeroValue310
 t119:=Tryz.underlying256
 a119:=Tryz.isAgg256
 z119:=Tryz.sizeOf256
 t124:=Tryz.underlying313
 a124:=Tryz.isAgg313
 z124:=Tryz.sizeOf313
 v124:=Tryz.zeroValue313
 t138:=Tryz.underlying258
 a138:=Tryz.isAgg258
 z138:=Tryz.sizeOf258
 v138:=Tryz.zeroValue258
 t139:=Tryz.underlying259
 a139:=Tryz.isAgg259
 z139:=Tryz.sizeOf259
 v139:=Tryz.zeroValue259
 g3:=by kernel_rfl
 g4:=by kernel_rfl }
open Go.RowKit in
theorem Tryz.strings_TrimRight_one (s:ByteArray) (c:UInt8) (hc:c.toNat<128) (w:World) (hs:s.size≤9223372036854775807):
  Calls Tryz.prog 235 #[.string s, .string ⟨#[c]⟩] w fun e w'=>e= .returned (.string ⟨(Lib.trimRightB s.data.toList c).toArray⟩)∧w'=w:=Any.strings_TrimRight_one Tryz.lays162 s c hc w hs
def Tryz.lays119_ren:Go.Shelf.Ren:=⟨fun|119=>272|n=>n,fun|21=>21|4=>4|n=>n,fun|n=>n⟩
def Tryz.lays120_ren:Go.Shelf.Ren:=⟨fun|120=>294|n=>n,fun|5=>5|4=>4|n=>n,fun|n=>n⟩
def Tryz.lays134_ren:Go.Shelf.Ren:=⟨fun|134=>293|129=>297|n=>n,fun|53=>64|3=>3|4=>4|46=>220|5=>5|9=>9|n=>n,fun|n=>n⟩
theorem Tryz.lays134:Go.Proofs.Lays.n134 Tryz.prog Tryz.lays134_ren:= {
 mixed:=by kernel_rfl
 f129:=Tryz.func297.trans (congrArg some (by kernel_rfl))
 f134:=Tryz.func293.trans (congrArg some (by kernel_rfl))
 t3:=Tryz.underlying3
 a3:=Tryz.isAgg3
 z3:=Tryz.sizeOf3
 v3:=Tryz.zeroValue3
 t4:=Tryz.underlying4
 a4:=Tryz.isAgg4
 z4:=Tryz.sizeOf4
 v4:=Tryz.zeroValue4
 t5:=Tryz.underlying5
 a5:=Tryz.isAgg5
 z5:=Tryz.sizeOf5
 v5:=Tryz.zeroValue5
 t9:=Tryz.underlying9
 a9:=Tryz.isAgg9
 z9:=Tryz.sizeOf9
 v9:=Tryz.zeroValue9
 t46:=Tryz.underlying220
 a46:=Tryz.isAgg220
 z46:=Tryz.sizeOf220
 v46:=Tryz.zeroValue220
 t53:=Tryz.underlying64
 a53:=Tryz.isAgg64
 z53:=Tryz.sizeOf64
 v53:=Tryz.zeroValue64 }
theorem Tryz.bits_LeadingZeros64 (x:Int) (w:World) (h0:0≤x) (h1:x≤18446744073709551615):
  Calls Tryz.prog 293 #[.int .u64 x] w fun e w'=>e= .returned (.int .i64 (64-(Lib.bitLen x.toNat:Int)))∧w'=w:=Any.bits_LeadingZeros64 Tryz.lays134 x w h0 h1
def Tryz.lays137_ren:Go.Shelf.Ren:=⟨fun|137=>304|217=>289|266=>302|n=>n,fun|9=>9|5=>5|3=>3|n=>n,fun|n=>n⟩
def Tryz.lays211_ren:Go.Shelf.Ren:=⟨fun|211=>276|207=>244|n=>n,fun|9=>9|4=>4|3=>3|n=>n,fun|n=>n⟩
def Tryz.lays104_ren:Go.Shelf.Ren:=⟨fun|104=>249|211=>276|207=>244|n=>n,fun|9=>9|4=>4|24=>289|3=>3|n=>n,fun|n=>n⟩
open Go.RowKit in
theorem Tryz.Builder_String_any_k (B b:Nat) (l:List UInt8) (w:World) (h:Lib.IsBuilderF 142 5 B b (Lib.byteCells l) w) (hBw:B≤w.heap.size):
  Calls Tryz.prog 96 #[.pointer (some ⟨b,0,none⟩)] w fun e w'=>e= .returned (.string ⟨l.toArray⟩)∧(Lib.IsBuilderF 142 5 B b (Lib.byteCells l) w'∧Below B w w'∧Lib.OthersKept 5 (some b) w w'):=Any.Builder_String_any_k Tryz.lays169 Tryz.Builder_Extra_169 B b l w h hBw
def Tryz.lays278_ren:Go.Shelf.Ren:=⟨fun|278=>301|n=>n,fun|37=>140|21=>21|51=>50|4=>4|46=>220|5=>5|n=>n,fun|n=>n⟩
def Tryz.lays242_ren:Go.Shelf.Ren:=⟨fun|242=>288|278=>301|n=>n,fun|37=>140|21=>21|51=>50|4=>4|5=>5|46=>220|n=>n,fun|n=>n⟩
def Tryz.lays195_ren:Go.Shelf.Ren:=⟨fun|195=>172|n=>n,fun|9=>9|3=>3|0=>0|4=>4|n=>n,fun|n=>n⟩
theorem Tryz.lays195:Go.Proofs.Lays.n195 Tryz.prog Tryz.lays195_ren:= {
 mixed:=by kernel_rfl
 f195:=Tryz.func172.trans (congrArg some (by kernel_rfl))
 t0:=Tryz.underlying0
 a0:=Tryz.isAgg0
 z0:=Tryz.sizeOf0
 v0:=Tryz.zeroValue0
 t3:=Tryz.underlying3
 a3:=Tryz.isAgg3
 z3:=Tryz.sizeOf3
 v3:=Tryz.zeroValue3
 t4:=Tryz.underlying4
 a4:=Tryz.isAgg4
 z4:=Tryz.sizeOf4
 v4:=Tryz.zeroValue4
 t9:=Tryz.underlying9
 a9:=Tryz.isAgg9
 z9:=Tryz.sizeOf9
 v9:=Tryz.zeroValue9 }
open Go.RowKit in
theorem Tryz.utf8_RuneCountInString (s:ByteArray) (w:World) (hs:s.size<9223372036854775807):
  Calls Tryz.prog 172 #[.string s] w fun e w'=>e= .returned (.int .i64 (Lib.runeCount s))∧∃pos,w'=w.iter s pos:=Any.utf8_RuneCountInString Tryz.lays195 s w hs
def Tryz.lays129_ren:Go.Shelf.Ren:=⟨fun|129=>297|n=>n,fun|53=>64|3=>3|4=>4|46=>220|5=>5|9=>9|n=>n,fun|n=>n⟩
def Tryz.lays317_ren:Go.Shelf.Ren:=⟨fun|317=>296|n=>n,fun|3=>3|46=>220|n=>n,fun|n=>n⟩
def Tryz.lays318_ren:Go.Shelf.Ren:=⟨fun|318=>298|n=>n,fun|3=>3|4=>4|n=>n,fun|n=>n⟩
def Tryz.lays283_ren:Go.Shelf.Ren:=⟨fun|283=>284|n=>n,fun|3=>3|9=>9|4=>4|n=>n,fun|n=>n⟩
def Tryz.laysM284_ren:Go.Shelf.Ren:=⟨fun|284=>285|129=>297|317=>296|318=>298|n=>n,fun|53=>64|3=>3|212=>331|0=>0|4=>4|46=>220|5=>5|9=>9|n=>n,fun|17=>5|n=>n⟩
def Tryz.lays285_ren:Go.Shelf.Ren:=⟨fun|285=>286|n=>n,fun|37=>140|53=>64|3=>3|4=>4|51=>50|9=>9|5=>5|0=>0|n=>n,fun|n=>n⟩
def Tryz.laysM246_ren:Go.Shelf.Ren:=⟨fun|246=>269|283=>284|284=>285|285=>286|286=>287|129=>297|317=>296|318=>298|319=>299|320=>300|337=>305|338=>306|n=>n,fun|2=>2|3=>3|9=>9|4=>4|171=>321|0=>0|53=>64|37=>140|5=>5|173=>324|212=>331|51=>50|20=>20|213=>332|46=>220|232=>337|233=>338|n=>n,fun|17=>5|18=>6|19=>7|n=>n⟩
def Tryz.lays246_ren:Go.Shelf.Ren:=⟨fun|246=>269|283=>284|284=>285|285=>286|286=>287|129=>297|317=>296|318=>298|319=>299|320=>300|337=>305|338=>306|n=>n,fun|2=>2|3=>3|9=>9|4=>4|171=>321|0=>0|53=>64|37=>140|5=>5|173=>324|212=>331|51=>50|20=>20|213=>332|46=>220|232=>337|233=>338|n=>n,fun|17=>5|18=>6|19=>7|n=>n⟩
def Tryz.laysM173_ren:Go.Shelf.Ren:=⟨fun|173=>240|246=>269|283=>284|284=>285|285=>286|286=>287|129=>297|317=>296|318=>298|319=>299|320=>300|337=>305|338=>306|n=>n,fun|2=>2|3=>3|9=>9|4=>4|171=>321|0=>0|53=>64|37=>140|5=>5|173=>324|212=>331|51=>50|20=>20|213=>332|46=>220|232=>337|233=>338|n=>n,fun|17=>5|18=>6|19=>7|n=>n⟩
theorem Tryz.laysM173:Go.Proofs.LaysM.n173 Tryz.prog Tryz.laysM173_ren:= {
 mixed:=by kernel_rfl
 f129:=Tryz.func297.trans (congrArg some (by kernel_rfl))
 f173:=Tryz.func240.trans (congrArg some (by kernel_rfl))
 f246:=Tryz.func269.trans (congrArg some (by kernel_rfl))
 f283:=Tryz.func284.trans (congrArg some (by kernel_rfl))
 f284:=Tryz.func285.trans (congrArg some (by kernel_rfl))
 f285:=Tryz.func286.trans (congrArg some (by kernel_rfl))
 f286:=Tryz.func287.trans (congrArg some (by kernel_rfl))
 f317:=Tryz.func296.trans (congrArg some (by kernel_rfl))
 f318:=Tryz.func298.trans (congrArg some (by kernel_rfl))
 f319:=Tryz.func299.trans (congrArg some (by kernel_rfl))
 f320:=Tryz.func300.trans (congrArg some (by kernel_rfl))
 f337:=Tryz.func305.trans (congrArg some (by kernel_rfl))
 f338:=Tryz.func306.trans (congrArg some (by kernel_rfl))
 t0:=Tryz.underlying0
 a0:=Tryz.isAgg0
 z0:=Tryz.sizeOf0
 v0:=Tryz.zeroValue0
 t2:=Tryz.underlying2
 a2:=Tryz.isAgg2
 z2:=Tryz.sizeOf2
 v2:=Tryz.zeroValue2
 t3:=Tryz.underlying3
 a3:=Tryz.isAgg3
 z3:=Tryz.sizeOf3
 v3:=Tryz.zeroValue3
 t4:=Tryz.underlying4
 a4:=Tryz.isAgg4
 z4:=Tryz.sizeOf4
 v4:=Tryz.zeroValue4
 t5:=Tryz.underlying5
 a5:=Tryz.isAgg5
 z5:=Tryz.sizeOf5
 v5:=Tryz.zeroValue5
 t9:=Tryz.underlying9
 a9:=Tryz.isAgg9
 z9:=Tryz.sizeOf9
 v9:=Tryz.zeroValue9
 t20:=Tryz.underlying20
 a20:=Tryz.isAgg20
 z20:=Tryz.sizeOf20
 v20:=Tryz.zeroValue20
 t37:=Tryz.underlying140
 a37:=Tryz.isAgg140
 z37:=Tryz.sizeOf140
 v37:=Tryz.zeroValue140
 t46:=Tryz.underlying220
 a46:=Tryz.isAgg220
 z46:=Tryz.sizeOf220
 v46:=Tryz.zeroValue220
 t51:=Tryz.underlying50
 a51:=Tryz.isAgg50
 z51:=Tryz.sizeOf50
 v51:=Tryz.zeroValue50
 t53:=Tryz.underlying64
 a53:=Tryz.isAgg64
 z53:=Tryz.sizeOf64
 v53:=Tryz.zeroValue64
 t171:=Tryz.underlying321
 a171:=Tryz.isAgg321
 z171:=Tryz.sizeOf321
 v171:=Tryz.zeroValue321
 t173:=Tryz.underlying324
 a173:=Tryz.isAgg324
 z173:=Tryz.sizeOf324
 v173:=Tryz.zeroValue324
 t212:=Tryz.underlying331
 a212:=Tryz.isAgg331
 z212:=Tryz.sizeOf331
 v212:=Tryz.zeroValue331
 t213:=Tryz.underlying332
 a213:=Tryz.isAgg332
 z213:=Tryz.sizeOf332
 t232:=Tryz.underlying337
 a232:=Tryz.isAgg337
 z232:=Tryz.sizeOf337
 v232:=Tryz.zeroValue337
 t233:=Tryz.underlying338
 a233:=Tryz.isAgg338
 z233:=Tryz.sizeOf338
 v233:=Tryz.zeroValue338
 g17:=by kernel_rfl
 g18:=by kernel_rfl
 g19:=by kernel_rfl
 i0:=by kernel_rfl
 i2:=by kernel_rfl
 i3:=by kernel_rfl
 i4:=by kernel_rfl
 i5:=by kernel_rfl
 i9:=by kernel_rfl
 i20:=by kernel_rfl
 i37:=by kernel_rfl
 i46:=by kernel_rfl
 i51:=by kernel_rfl
 i53:=by kernel_rfl
 i171:=by kernel_rfl
 i173:=by kernel_rfl
 i212:=by kernel_rfl
 i232:=by kernel_rfl
 i233:=by kernel_rfl
 m17:=by kernel_rfl
 m18:=by kernel_rfl
 m19:=by kernel_rfl }
open Go.RowKit Go.Sort Go.Lib in
theorem Tryz.strconv_FormatInt_10 (n:Int) (h0: -9223372036854775808≤n) (h1:n≤9223372036854775807) (w:World) (htab:Lib.TabIs Tryz.prog w "internal/strconv.uint64pow10" .u64 Lib.pow10Tab):
  Calls Tryz.prog 240 #[.int .i64 n, .int .i64 10] w fun e w'=>e= .returned (.string ⟨(Lib.itoa n).toArray⟩)∧∃k os,w'=grow (w.drewN k) os:=Any.strconv_FormatInt_10 Tryz.laysM173 n h0 h1 w htab
def Tryz.lays173_ren:Go.Shelf.Ren:=⟨fun|173=>240|246=>269|283=>284|284=>285|285=>286|286=>287|129=>297|317=>296|318=>298|319=>299|320=>300|337=>305|338=>306|n=>n,fun|2=>2|3=>3|9=>9|4=>4|171=>321|0=>0|53=>64|37=>140|5=>5|173=>324|212=>331|51=>50|20=>20|213=>332|46=>220|232=>337|233=>338|n=>n,fun|17=>5|18=>6|19=>7|n=>n⟩
def Tryz.lays217_ren:Go.Shelf.Ren:=⟨fun|217=>289|266=>302|n=>n,fun|9=>9|5=>5|3=>3|n=>n,fun|n=>n⟩
def Tryz.lays224_ren:Go.Shelf.Ren:=⟨fun|224=>291|n=>n,fun|3=>3|n=>n,fun|n=>n⟩
def Tryz.lays314_ren:Go.Shelf.Ren:=⟨fun|314=>303|n=>n,fun|9=>9|51=>50|3=>3|4=>4|5=>5|46=>220|n=>n,fun|n=>n⟩
def Tryz.lays267_ren:Go.Shelf.Ren:=⟨fun|267=>292|314=>303|n=>n,fun|9=>9|3=>3|146=>300|51=>50|4=>4|5=>5|46=>220|n=>n,fun|n=>n⟩
def Tryz.lays219_ren:Go.Shelf.Ren:=⟨fun|219=>274|217=>289|225=>290|224=>291|267=>292|266=>302|314=>303|n=>n,fun|9=>9|3=>3|4=>4|5=>5|46=>220|146=>300|51=>50|n=>n,fun|1=>2|n=>n⟩
def Tryz.lays143_ren:Go.Shelf.Ren:=⟨fun|143=>245|219=>274|217=>289|225=>290|224=>291|267=>292|266=>302|314=>303|n=>n,fun|9=>9|3=>3|4=>4|5=>5|46=>220|146=>300|51=>50|n=>n,fun|1=>2|n=>n⟩
def Tryz.lays144_ren:Go.Shelf.Ren:=⟨fun|144=>221|143=>245|219=>274|217=>289|225=>290|224=>291|267=>292|266=>302|314=>303|n=>n,fun|9=>9|4=>4|3=>3|5=>5|46=>220|146=>300|51=>50|n=>n,fun|1=>2|n=>n⟩
def Tryz.lays220_ren:Go.Shelf.Ren:=⟨fun|220=>277|219=>274|217=>289|225=>290|224=>291|267=>292|266=>302|314=>303|n=>n,fun|9=>9|4=>4|3=>3|5=>5|46=>220|146=>300|51=>50|n=>n,fun|1=>2|n=>n⟩
def Tryz.lays145_ren:Go.Shelf.Ren:=⟨fun|145=>250|220=>277|219=>274|217=>289|225=>290|224=>291|267=>292|266=>302|314=>303|n=>n,fun|9=>9|4=>4|59=>291|3=>3|5=>5|46=>220|146=>300|51=>50|n=>n,fun|1=>2|n=>n⟩
def Tryz.laysM219_ren:Go.Shelf.Ren:=⟨fun|219=>274|217=>289|225=>290|224=>291|267=>292|266=>302|314=>303|n=>n,fun|9=>9|3=>3|4=>4|5=>5|46=>220|146=>300|51=>50|n=>n,fun|1=>2|n=>n⟩
def Tryz.laysM143_ren:Go.Shelf.Ren:=⟨fun|143=>245|219=>274|217=>289|225=>290|224=>291|267=>292|266=>302|314=>303|n=>n,fun|9=>9|3=>3|4=>4|5=>5|46=>220|146=>300|51=>50|n=>n,fun|1=>2|n=>n⟩
def Tryz.laysM144_ren:Go.Shelf.Ren:=⟨fun|144=>221|143=>245|219=>274|217=>289|225=>290|224=>291|267=>292|266=>302|314=>303|n=>n,fun|9=>9|4=>4|3=>3|5=>5|46=>220|146=>300|51=>50|n=>n,fun|1=>2|n=>n⟩
def Tryz.laysM220_ren:Go.Shelf.Ren:=⟨fun|220=>277|219=>274|217=>289|225=>290|224=>291|267=>292|266=>302|314=>303|n=>n,fun|9=>9|4=>4|3=>3|5=>5|46=>220|146=>300|51=>50|n=>n,fun|1=>2|n=>n⟩
def Tryz.laysM145_ren:Go.Shelf.Ren:=⟨fun|145=>250|220=>277|219=>274|217=>289|225=>290|224=>291|267=>292|266=>302|314=>303|n=>n,fun|9=>9|4=>4|59=>291|3=>3|5=>5|46=>220|146=>300|51=>50|n=>n,fun|1=>2|n=>n⟩
def Tryz.lays206_ren:Go.Shelf.Ren:=⟨fun|206=>261|n=>n,fun|9=>9|4=>4|3=>3|n=>n,fun|n=>n⟩
def Tryz.lays99_ren:Go.Shelf.Ren:=⟨fun|99=>230|206=>261|n=>n,fun|9=>9|4=>4|3=>3|n=>n,fun|n=>n⟩
def Tryz.lays207_ren:Go.Shelf.Ren:=⟨fun|207=>244|n=>n,fun|9=>9|4=>4|3=>3|n=>n,fun|n=>n⟩
def Tryz.lays100_ren:Go.Shelf.Ren:=⟨fun|100=>220|207=>244|n=>n,fun|9=>9|4=>4|3=>3|n=>n,fun|n=>n⟩
def Tryz.lays152_ren:Go.Shelf.Ren:=⟨fun|152=>295|137=>304|119=>272|224=>291|225=>290|217=>289|266=>302|n=>n,fun|9=>9|21=>21|3=>3|4=>4|5=>5|0=>0|46=>220|n=>n,fun|n=>n⟩
def Tryz.lays151_ren:Go.Shelf.Ren:=⟨fun|151=>283|152=>295|137=>304|119=>272|224=>291|225=>290|217=>289|266=>302|n=>n,fun|9=>9|21=>21|4=>4|3=>3|5=>5|0=>0|46=>220|n=>n,fun|n=>n⟩
def Tryz.lays227_ren:Go.Shelf.Ren:=⟨fun|227=>266|n=>n,fun|9=>9|116=>309|4=>4|0=>0|3=>3|5=>5|n=>n,fun|n=>n⟩
def Tryz.lays228_ren:Go.Shelf.Ren:=⟨fun|228=>281|n=>n,fun|124=>313|5=>5|4=>4|0=>0|116=>309|n=>n,fun|n=>n⟩
def Tryz.lays264_ren:Go.Shelf.Ren:=⟨fun|264=>260|n=>n,fun|53=>64|46=>220|n=>n,fun|n=>n⟩
def Tryz.lays212_ren:Go.Shelf.Ren:=⟨fun|212=>229|263=>259|264=>260|n=>n,fun|46=>220|51=>50|146=>300|53=>64|148=>302|n=>n,fun|n=>n⟩
def Tryz.lays105_ren:Go.Shelf.Ren:=⟨fun|105=>203|212=>229|99=>230|165=>231|166=>202|170=>232|169=>96|263=>259|264=>260|206=>261|240=>228|241=>262|276=>258|277=>279|n=>n,fun|9=>9|3=>3|4=>4|20=>20|0=>0|46=>220|109=>275|5=>5|72=>142|76=>248|51=>50|146=>300|53=>64|148=>302|70=>139|37=>140|75=>247|127=>207|164=>298|80=>147|n=>n,fun|n=>n⟩
theorem Tryz.lays105:Go.Proofs.Lays.n105 Tryz.prog Tryz.lays105_ren:= {
 mixed:=by kernel_rfl
 f99:=Tryz.func230.trans (congrArg some (by kernel_rfl))
 f105:=Tryz.func203.trans (congrArg some (by kernel_rfl))
 f165:=Tryz.func231.trans (congrArg some (by kernel_rfl))
 f166:=Tryz.func202.trans (congrArg some (by kernel_rfl))
 f169:=Tryz.func96.trans (congrArg some (by kernel_rfl))
 f170:=Tryz.func232.trans (congrArg some (by kernel_rfl))
 f206:=Tryz.func261.trans (congrArg some (by kernel_rfl))
 f212:=Tryz.func229.trans (congrArg some (by kernel_rfl))
 f240:=Tryz.func228.trans (congrArg some (by kernel_rfl))
 f241:=Tryz.func262.trans (congrArg some (by kernel_rfl))
 f263:=Tryz.func259.trans (congrArg some (by kernel_rfl))
 f264:=Tryz.func260.trans (congrArg some (by kernel_rfl))
 f276:=Tryz.func258.trans (congrArg some (by kernel_rfl))
 f277:=Tryz.func279.trans (congrArg some (by kernel_rfl))
 t0:=Tryz.underlying0
 a0:=Tryz.isAgg0
 z0:=Tryz.sizeOf0
 v0:=Tryz.zeroValue0
 t3:=Tryz.underlying3
 a3:=Tryz.isAgg3
 z3:=Tryz.sizeOf3
 v3:=Tryz.zeroValue3
 t4:=Tryz.underlying4
 a4:=Tryz.isAgg4
 z4:=Tryz.sizeOf4
 v4:=Tryz.zeroValue4
 t5:=Tryz.underlying5
 a5:=Tryz.isAgg5
 z5:=Tryz.sizeOf5
 v5:=Tryz.zeroValue5
 t9:=Tryz.underlying9
 a9:=Tryz.isAgg9
 z9:=Tryz.sizeOf9
 v9:=Tryz.zeroValue9
 t20:=Tryz.underlying20
 a20:=Tryz.isAgg20
 z20:=Tryz.sizeOf20
 v20:=Tryz.zeroValue20
 t37:=Tryz.underlying140
 a37:=Tryz.isAgg140
 z37:=Tryz.sizeOf140
 v37:=Tryz.zeroValue140
 t46:=Tryz.underlying220
 a46:=Tryz.isAgg220
 z46:=Tryz.sizeOf220
 v46:=Tryz.zeroValue220
 t51:=Tryz.underlying50
 a51:=Tryz.isAgg50
 z51:=Tryz.sizeOf50
 v51:=Tryz.zeroValue50
 t53:=Tryz.underlying64
 a53:=Tryz.isAgg64
 z53:=Tryz.sizeOf64
 v53:=Tryz.zeroValue64
 t70:=Tryz.underlying139
 a70:=Tryz.isAgg139
 z70:=Tryz.sizeOf139
 v70:=Tryz.zeroValue139
 t72:=Tryz.underlying142
 a72:=Tryz.isAgg142
 z72:=Tryz.sizeOf142
 v72:=Tryz.zeroValue142
 t75:=Tryz.underlying247
 a75:=Tryz.isAgg247
 z75:=Tryz.sizeOf247
 v75:=Tryz.zeroValue247
 t76:=Tryz.underlying248
 a76:=Tryz.isAgg248
 z76:=Tryz.sizeOf248
 v76:=Tryz.zeroValue248
 t109:=Tryz.underlying275
 a109:=Tryz.isAgg275
 z109:=Tryz.sizeOf275
 v109:=Tryz.zeroValue275
 t127:=Tryz.underlying207
 a127:=Tryz.isAgg207
 z127:=Tryz.sizeOf207
 v127:=Tryz.zeroValue207
 t146:=Tryz.underlying300
 a146:=Tryz.isAgg300
 z146:=Tryz.sizeOf300
 v146:=Tryz.zeroValue300
 t148:=Tryz.underlying302
 a148:=Tryz.isAgg302
 z148:=Tryz.sizeOf302
 v148:=Tryz.zeroValue302
 t164:=Tryz.underlying298
 a164:=Tryz.isAgg298
 z164:=Tryz.sizeOf298
 v164:=Tryz.zeroValue298 }
theorem Tryz.Builder_Extra_105:Builder.Extra Tryz.prog Tryz.lays105_ren:= {
 sizeBuilder:=by kernel_rfl
 liesBuilder:=by kernel_rfl
 t5:=Tryz.underlying5
 a5:=Tryz.isAgg5
 z5:=Tryz.sizeOf5
 v5:=Tryz.zeroValue5
 infoByte:=by kernel_rfl
 cellsByte:=by kernel_rfl
 sizeByte:=by kernel_rfl
 neB5:=by decide }
open Go.RowKit Go.Lib in
theorem Tryz.strings_Repeat (s:ByteArray) (c:Nat) (w:World) (hc:c≤9223372036854775807) (hlen:s.size*c≤140737488355328):
  Calls Tryz.prog 203 #[.string s, .int .i64 c] w fun e w'=>e= .returned (.string ⟨(Lib.repeatL s.data.toList c).toArray⟩)∧Below w.heap.size w w':=Any.strings_Repeat Tryz.lays105 Tryz.Builder_Extra_105 s c w hc hlen
def Tryz.lays260_ren:Go.Shelf.Ren:=⟨fun|260=>190|n=>n,fun|9=>9|21=>21|3=>3|4=>4|5=>5|119=>256|0=>0|46=>220|139=>259|138=>258|n=>n,fun|3=>0|4=>1|n=>n⟩
def Tryz.lays197_ren:Go.Shelf.Ren:=⟨fun|197=>140|260=>190|n=>n,fun|9=>9|21=>21|3=>3|4=>4|5=>5|105=>195|119=>256|0=>0|46=>220|139=>259|138=>258|n=>n,fun|3=>0|4=>1|n=>n⟩
def Tryz.lays196_ren:Go.Shelf.Ren:=⟨fun|196=>171|259=>212|n=>n,fun|9=>9|4=>4|3=>3|5=>5|12=>12|119=>256|0=>0|46=>220|139=>259|138=>258|53=>64|n=>n,fun|3=>0|4=>1|n=>n⟩
theorem Tryz.lays196:Go.Proofs.Lays.n196 Tryz.prog Tryz.lays196_ren:= {
 mixed:=by kernel_rfl
 f196:=Tryz.func171.trans (congrArg some (by kernel_rfl))
 f259:=Tryz.func212.trans (congrArg some (by kernel_rfl))
 t0:=Tryz.underlying0
 a0:=Tryz.isAgg0
 z0:=Tryz.sizeOf0
 v0:=Tryz.zeroValue0
 t3:=Tryz.underlying3
 a3:=Tryz.isAgg3
 z3:=Tryz.sizeOf3
 v3:=Tryz.zeroValue3
 t4:=Tryz.underlying4
 a4:=Tryz.isAgg4
 z4:=Tryz.sizeOf4
 v4:=Tryz.zeroValue4
 t5:=Tryz.underlying5
 a5:=Tryz.isAgg5
 z5:=Tryz.sizeOf5
 v5:=Tryz.zeroValue5
 t9:=Tryz.underlying9
 a9:=Tryz.isAgg9
 z9:=Tryz.sizeOf9
 v9:=Tryz.zeroValue9
 t12:=Tryz.underlying12
 a12:=Tryz.isAgg12
 z12:=Tryz.sizeOf12
 v12:=Tryz.zeroValue12
 t46:=Tryz.underlying220
 a46:=Tryz.isAgg220
 z46:=Tryz.sizeOf220
 v46:=Tryz.zeroValue220
 t53:=Tryz.underlying64
 a53:=Tryz.isAgg64
 z53:=Tryz.sizeOf64
 v53:=Tryz.zeroValue64
 t119:=Tryz.underlying256
 a119:=Tryz.isAgg256
 z119:=Tryz.sizeOf256
 t138:=Tryz.underlying258
 a138:=Tryz.isAgg258
 z138:=Tryz.sizeOf258
 v138:=Tryz.zeroValue258
 t139:=Tryz.underlying259
 a139:=Tryz.isAgg259
 z139:=Tryz.sizeOf259
 v139:=Tryz.zeroValue259
 g3:=by kernel_rfl
 g4:=by kernel_rfl }
theorem Tryz.U8Extra_196:U8Extra Tryz.prog Tryz.lays196_ren:= {
 n3:=by kernel_rfl
 n4:=by kernel_rfl
 y3:=by kernel_rfl
 y4:=by kernel_rfl
 c5:=by kernel_rfl
 c119:=by kernel_rfl
 c138:=by kernel_rfl }
open Go.RowKit in
theorem Tryz.utf8_ValidString (s:ByteArray) (w:World) (hs:s.size≤9223372036854775807) (hT:Lib.Utf8Tabs 0 1 w):
  Calls Tryz.prog 171 #[.string s] w fun e w'=>e= .returned (.bool (Lib.validD s.data.toList))∧Below w.heap.size w w':=Any.utf8_ValidString Tryz.lays196 s w hs hT
theorem Tryz.utf8_tabs {w:World} (h3:Lib.VarReads Tryz.prog w "unicode/utf8.first" Lib.firstData) (h4:Lib.VarReads Tryz.prog w "unicode/utf8.acceptRanges" Lib.acceptData):Lib.Utf8Tabs 0 1 w:=utf8Tabs_of_readsT (U8Types.of196 Tryz.lays196) Tryz.U8Extra_196 h3 h4
end Go.Proofs
end
namespace Go.Proofs.YtiapmjkaappcfaaGreatDoor
section
open Go.RowKit
section
variable {P:Program} {Q:Exit→Act→World→Prop} {ops:Array Oper}
def putAll:List Oper→Nat→(Nat→Value)→Act→Act
 | [],_,_,a=>a
 |o::l,k,u,a=>putAll l (k+1) u (a.put o.dst (u k))
def Deps (n:Nat) (T:Nat→Value→World→Prop) (u:Nat→Value) (w:World):List Edge→Prop
 | []=>True
 |e::es=>(Region.binds .any e=true→e.on<n→T e.on (u e.on) w)∧Deps n T u w es
def blk:Value→Nat
 | .pointer (some a)=>a.block
 |_=>0
def StepsAll (P:Program) (ops:Array Oper) (Q:Exit→Act→World→Prop) (n:Nat) (T:Nat→Value→World→Prop) (A:Nat→Bool) (w0:World) (a0:Act) (l0:List Oper):List Oper→Nat→Prop
 | [],_=>True
 |o::l,k=>(∀u w,Below w0.heap.size w0 w→Deps n T u w o.after.toList→
   wpList P ops (Exit.then (fun a' w'=> ∃v,a'=(putAll l0 0 u a0).put o.dst v∧T k v w'∧Below w.heap.size w w'∧(A k=true→w.heap.size≤blk v)) Q) [o] (putAll l0 0 u a0) w)∧StepsAll P ops Q n T A w0 a0 l0 l (k+1)
theorem StepsAll.cons {n:Nat} {T:Nat→Value→World→Prop} {A:Nat→Bool} {w0:World} {a0:Act} {l0 l:List Oper} {o:Oper} {k:Nat} (h: ∀u w,Below w0.heap.size w0 w→Deps n T u w o.after.toList→
   wpList P ops (Exit.then (fun a' w'=> ∃v,a'=(putAll l0 0 u a0).put o.dst v∧T k v w'∧Below w.heap.size w w'∧(A k=true→w.heap.size≤blk v)) Q) [o] (putAll l0 0 u a0) w) (h2:StepsAll P ops Q n T A w0 a0 l0 l (k+1)):StepsAll P ops Q n T A w0 a0 l0 (o::l) k:=⟨h,h2⟩
theorem StepsAll.nil {n:Nat} {T:Nat→Value→World→Prop} {A:Nat→Bool} {w0:World} {a0:Act} {l0:List Oper} {k:Nat} :StepsAll P ops Q n T A w0 a0 l0 [] k:=trivial
theorem upon_then {o:Oper} {a:Act} {K K2:Act→World→Prop} {r:Result Next} (h:o.upon P a K (Exit.then K2 Q) r):o.upon P a K Q r:=by
 cases r with
 |ok n w'=>cases n<;>exact h
 |halt x w'=>cases x<;>exact h
theorem wpOp_of_one {i:Nat} {o:Oper} {a:Act} {w:World} {K K':Act→World→Prop} (ho:ops[i]?=some o) (hK: ∀a w,K a w→K' a w) (h:wpList P ops (Exit.then K Q) [o] a w):wpOp P ops Q i K' a w:=by
 refine wpOp_mono hK ?_
 unfold wpOp
 simp only[ho]
 unfold wpList at h
 split
 ·rename_i hw
  rw[if_pos hw]at h
  rcases h with h|h
  ·exact Or.inl (upon_then h)
  ·exact Or.inr h
 ·rename_i hw
  rw[if_neg hw]at h
  exact h
theorem steps_at {n:Nat} {T:Nat→Value→World→Prop} {A:Nat→Bool} {w0:World} {a0:Act} {l0:List Oper} : ∀(l:List Oper) (k:Nat),StepsAll P ops Q n T A w0 a0 l0 l k→∀j o,l[j]?=some o→
  ∀u w,Below w0.heap.size w0 w→Deps n T u w o.after.toList→wpList P ops (Exit.then (fun a' w'=> ∃v,a'=(putAll l0 0 u a0).put o.dst v∧T (k+j) v w'∧Below w.heap.size w w'∧(A (k+j)=true→w.heap.size≤blk v)) Q) [o] (putAll l0 0 u a0) w
 | [],_,_,j,o,hj=>by simp at hj
 |p::l,k,h,0,o,hj=>by
  obtain rfl:p=o:=by simpa using hj
  exact h.1
 |p::l,k,h,j+1,o,hj=>by
  have:=steps_at l (k+1) h.2 j o (by simpa using hj)
  rw[show k+(j+1)=k+1+j by omega];exact this
theorem put_put (a:Act) (x:Option Tmp) (v u:Value):(a.put x v).put x u=a.put x u:=by
 cases x with
 |none=>rfl
 |some d=>simp[Act.put]
theorem putAll_comm: ∀(l:List Oper) (k:Nat) (u:Nat→Value) (a:Act) (d:Option Tmp) (v:Value),d∉l.map (·.dst)→(putAll l k u a).put d v=putAll l k u (a.put d v)
 | [],_,_,_,_,_,_=>rfl
 |o::l,k,u,a,d,v,h=>by
  have h1: ¬d=o.dst:=fun e=>h (by simp[e])
  have h2:d∉l.map (·.dst):=fun e=>h (by simp only[List.map_cons,List.mem_cons];exact Or.inr e)
  unfold putAll
  rw[putAll_comm l (k+1) u _ d v h2,Act.put_comm a (x:=o.dst) (y:=d) (u k) v (fun e he hd=>h1 (hd.trans he.symm))]
theorem putAll_congr: ∀(l:List Oper) (k:Nat) (u u':Nat→Value) (a:Act),(∀j,k≤j→u j=u' j)→putAll l k u a=putAll l k u' a
 | [],_,_,_,_,_=>rfl
 |o::l,k,u,u',a,h=>by
  unfold putAll
  rw[h k (Nat.le_refl _)]
  exact putAll_congr l (k+1) u u' _ fun j hj=>h j (by omega)
def upd (u:Nat→Value) (i:Nat) (v:Value):Nat→Value:=fun j=>if j=i then v else u j
theorem putAll_put: ∀(l:List Oper) (k:Nat) (u:Nat→Value) (a:Act) (i:Nat) (o:Oper) (v:Value),(l.map (·.dst)).Nodup→l[i]?=some o→(putAll l k u a).put o.dst v=putAll l k (upd u (k+i) v) a
 | [],_,_,_,i,_,_,_,hi=>by simp at hi
 |p::l,k,u,a,0,o,v,hd,hi=>by
  obtain rfl:p=o:=by simpa using hi
  rw[List.map_cons,List.nodup_cons]at hd
  unfold putAll
  rw[putAll_comm l (k+1) u _ _ v hd.1,put_put,show upd u (k+0) v k=v by simp[upd]]
  exact putAll_congr l (k+1) u _ _ fun j hj=>by unfold upd;rw[if_neg (by omega)]
 |p::l,k,u,a,i+1,o,v,hd,hi=>by
  rw[List.map_cons,List.nodup_cons]at hd
  unfold putAll
  rw[putAll_put l (k+1) u _ i o v hd.2 (by simpa using hi),show k+1+i=k+(i+1) by omega,show upd u (k+(i+1)) v k=u k by unfold upd;rw[if_neg (by omega)]]
def slot (a:Act):Option Tmp→Value
 |some d=>a.tmps.getD d undef
 |none=>undef
theorem put_slot (a:Act) (d:Option Tmp):a.put d (slot a d)=a:=by
 cases d with
 |none=>rfl
 |some d=>
  unfold Act.put slot
  have:a.tmps.setIfInBounds d (a.tmps.getD d undef)=a.tmps:=by
   apply Array.ext_getElem?
   intro k
   by_cases h:d=k
   ·subst h
    by_cases hs:d<a.tmps.size
    ·simp[hs]
    ·simp[Array.getElem?_eq_none (Nat.le_of_not_lt hs)];exact Nat.le_of_not_lt hs
   ·rw[Array.getElem?_setIfInBounds_ne h]
  simp only[this]
theorem putAll_self: ∀(l:List Oper) (k:Nat) (u:Nat→Value) (a:Act),(∀j o,l[j]?=some o→u (k+j)=slot a o.dst)→putAll l k u a=a
 | [],_,_,_,_=>rfl
 |o::l,k,u,a,h=>by
  unfold putAll
  rw[show u k=slot a o.dst from h 0 o rfl,put_slot]
  exact putAll_self l (k+1) u a fun j p hp=>by rw[show k+1+j=k+(j+1) by omega];exact h (j+1) p (by simpa using hp)
def mu (listed:Array Bool):Nat→Nat
 |0=>0
 |k+1=>mu listed k+if listed.getD k false=true then 0 else 1
theorem mu_zero {listed:Array Bool} : ∀k,mu listed k=0→∀i,i<k→listed.getD i false=true
 |0,_,i,hi=>by omega
 |k+1,h,i,hi=>by
  unfold mu at h
  by_cases hik:i=k
  ·subst hik
   by_cases hl:listed.getD i false=true
   ·exact hl
   ·rw[if_neg hl]at h;omega
  ·exact mu_zero k (by omega) i (by omega)
theorem mu_some {listed:Array Bool} : ∀k,0<mu listed k→∃i,i<k∧¬listed.getD i false=true∧∀j,j<i→listed.getD j false=true
 |0,h=>by simp[mu]at h
 |k+1,h=>by
  by_cases h0:0<mu listed k
  ·obtain⟨i,hi,h1,h2⟩:=mu_some k h0
   exact⟨i,by omega,h1,h2⟩
  ·refine⟨k,by omega,fun hl=>?_,fun j hj=>mu_zero k (by omega) j hj⟩
   unfold mu at h
   rw[if_pos hl]at h;omega
theorem mu_set_le {listed:Array Bool} {i:Nat} : ∀k,mu (listed.setIfInBounds i true) k≤mu listed k
 |0=>Nat.le_refl _
 |k+1=>by
  have:=mu_set_le (listed:=listed) (i:=i) k
  unfold mu
  by_cases hl:listed.getD k false=true
  ·rw[if_pos hl,if_pos (getD_set_true hl)];omega
  ·rw[if_neg hl];split<;>omega
theorem mu_set {listed:Array Bool} {i:Nat} (hi:i<listed.size) (hu: ¬listed.getD i false=true): ∀k,i<k→mu (listed.setIfInBounds i true) k+1≤mu listed k
 |0,h=>by omega
 |k+1,h=>by
  unfold mu
  by_cases hik:i=k
  ·subst hik
   have:=mu_set_le (listed:=listed) (i:=i) i
   rw[if_neg hu,if_pos (by simp[hi])];omega
  ·have:=mu_set hi hu k (by omega)
   rw[getD_set_ne false hik];omega
theorem wpAny_seq: ∀(l:List Oper) (k:Nat) (listed:Array Bool) (a:Act) (w:World) (f:Nat),l.length≤f→(∀j,l[j]?=ops[k+j]?)→
  Region.seqB .any ops l.length k listed=true→wpList P ops Q l a w→wpAny P .any ops Q f listed a w
 | [],_,_,_,_,0,_,_,hB,h=>⟨by simpa [Region.seqB] using hB,h⟩
 | [],_,listed,_,_,f+1,_,_,hB,h=>by
  have hr:Region.ready .any ops listed= []:=by simpa [Region.seqB] using hB
  exact⟨fun _=>h,fun i hi=>by rw[hr]at hi;cases hi⟩
 |o::l,k,listed,a,w,0,hf,_,_,_=>by simp at hf
 |o::l,k,listed,a,w,f+1,hf,hl,hB,h=>by
  have h0:ops[k]?=some o:=by simpa using(hl 0).symm
  simp only[List.length_cons,Region.seqB,Bool.and_eq_true,decide_eq_true_eq]at hB
  refine⟨fun h1=>(by rw[hB.1]at h1;cases h1),fun i hi=>?_⟩
  rw[hB.1]at hi
  have hik:i=k:=by simpa using hi
  subst hik
  have hw:wpOp P ops Q i (wpList P ops Q l) a w:=by unfold wpOp;simp only[h0];exact h
  exact wpOp_mono (fun a' w' h'=>wpAny_seq l (i+1) _ a' w' f (by simpa using hf) (fun j=>by have:=hl (j+1);simpa [Nat.add_assoc,Nat.add_comm 1 j] using this) hB.2 h') hw
def reaches (l:List Oper) (f:Nat):Nat→Nat→Bool:=
 Nat.rec (motive:=fun _=>Nat→Nat→Bool) (fun k i=>Region.waitsFor .any l.toArray k i) (fun _ r k i=>Region.waitsFor .any l.toArray k i||(List.range k).any fun j=>Region.waitsFor .any l.toArray k j&&r j i) f
theorem reaches_listed {l:List Oper} {n:Nat} {listed:Array Bool} (inv:HeadInv .any l.toArray n listed): ∀(f k i:Nat),reaches l f k i=true→
  (∀o,l.toArray[k]?=some o→∀e∈o.after,Region.binds .any e=true→listed.getD e.on false=true)→listed.getD i false=true
 |0,k,i,h,hk=>by
  obtain⟨o,ho,e,he,hb,hon⟩:=Region.waitsFor_spec (show Region.waitsFor .any l.toArray k i=true from h)
  rw[←hon];exact hk o ho e he hb
 |f+1,k,i,h,hk=>by
  simp only[reaches,Bool.or_eq_true,List.any_eq_true,List.mem_range,Bool.and_eq_true]at h
  rcases h with h|⟨j,_,h1,h2⟩
  ·obtain⟨o,ho,e,he,hb,hon⟩:=Region.waitsFor_spec h
   rw[←hon];exact hk o ho e he hb
  ·obtain⟨o,ho,e,he,hb,hon⟩:=Region.waitsFor_spec h1
   have hj:listed.getD j false=true:=by rw[←hon];exact hk o ho e he hb
   exact reaches_listed inv f j i h2 fun o' ho'=>inv.closed j o' ho' hj
def mixB (l:List Oper) (n:Nat):Bool:=
 decide (n≤l.length)&&decide (((l.take n).map (·.dst)).Nodup)&&
 ((List.range n).all fun i=>match l[i]? with|some o=>o.after.all fun e=> !Region.binds .any e||decide (e.on<i)|none=>false)&&
 ((List.range l.length).all fun k=>decide (k<n)||(List.range n).all fun i=>reaches l n k i)&&
 Region.seqB .any l.toArray (l.length-n) n ((List.range l.length).map fun i=>decide (i<n)).toArray
theorem deps_of {n:Nat} {T:Nat→Value→World→Prop} {u:Nat→Value} {w:World} : ∀(es:List Edge),(∀e∈es,Region.binds .any e=true→e.on<n→T e.on (u e.on) w)→Deps n T u w es
 | [],_=>trivial
 |e::es,h=>⟨h e (by simp),deps_of es fun e' he'=>h e' (by simp[he'])⟩
theorem mix_all {l:List Oper} {n:Nat} {T:Nat→Value→World→Prop} {A:Nat→Bool} {w0:World} {a0:Act} (hB:mixB l n=true)
  (hT: ∀i v w w',T i v w→Below w.heap.size w w'→T i v w')
  (hA: ∀i v w,A i=true→T i v w→blk v<w.heap.size)
  (hs:StepsAll P l.toArray Q n T A w0 a0 (l.take n) (l.take n) 0)
  (hf: ∀u w,Below w0.heap.size w0 w→(∀i,i<n→T i (u i) w)→(∀i j,i<n→j<n→A i=true→A j=true→i≠j→blk (u i)≠blk (u j))→wpList P l.toArray Q (l.drop n) (putAll (l.take n) 0 u a0) w):
  ∀(f:Nat) (listed:Array Bool) (u:Nat→Value) (w:World),mu listed n≤f→HeadInv .any l.toArray n listed→Below w0.heap.size w0 w→(∀i,i<n→listed.getD i false=true→T i (u i) w)→(∀i j,i<n→j<n→A i=true→A j=true→listed.getD i false=true→listed.getD j false=true→i≠j→blk (u i)≠blk (u j))→
   wpAny P .any l.toArray Q (f+(l.length-n)) listed (putAll (l.take n) 0 u a0) w:=by
 simp only[mixB,Bool.and_eq_true,decide_eq_true_eq,List.all_eq_true,List.mem_range,Bool.or_eq_true]at hB
 obtain⟨⟨⟨⟨hn,hd⟩,h1⟩,h2⟩,h3⟩:=hB
 have done: ∀(f:Nat) (listed:Array Bool) (u:Nat→Value) (w:World),mu listed n=0→HeadInv .any l.toArray n listed→Below w0.heap.size w0 w→(∀i,i<n→listed.getD i false=true→T i (u i) w)→(∀i j,i<n→j<n→A i=true→A j=true→listed.getD i false=true→listed.getD j false=true→i≠j→blk (u i)≠blk (u j))→
   wpAny P .any l.toArray Q (f+(l.length-n)) listed (putAll (l.take n) 0 u a0) w:=by
  intro f listed u w hmu inv hb ht hdj
  have hall:=mu_zero n hmu
  have hls:listed.size=l.length:=by rw[inv.size];simp
  have he:listed=((List.range l.length).map fun i=>decide (i<n)).toArray:=by
   apply Array.ext (by simp[hls])
   intro i hi hi2
   simp only[List.getElem_toArray,List.getElem_map,List.getElem_range]
   by_cases hin:i<n
   ·have:=hall i hin
    simp[hi]at this
    simp[this,hin]
   ·have:=inv.tail i (by omega) (by simpa using(by omega:i<l.length))
    simp[hi]at this
    simp[this,hin]
  refine wpAny_seq (l.drop n) n listed _ w _ (by simp) (fun j=>by simp[List.getElem?_drop]) (by rw[he,List.length_drop];exact h3) (hf u w hb (fun i hi=>ht i hi (hall i hi)) fun i j hi hj ai aj=>hdj i j hi hj ai aj (hall i hi) (hall j hj))
 intro f
 induction f with
 |zero=>intro listed u w hmu inv hb ht hdj;exact done 0 listed u w (by omega) inv hb ht hdj
 |succ f ih=>
  intro listed u w hmu inv hb ht hdj
  by_cases h0:mu listed n=0
  ·exact done _ listed u w h0 inv hb ht hdj
  ·obtain⟨m,hmn,hmu1,hmu2⟩:=mu_some n (by omega:0<mu listed n)
   have hls:listed.size=l.length:=by rw[inv.size];simp
   rw[show f+1+(l.length-n)=f+(l.length-n)+1 by omega]
   refine⟨fun hr=>?_,fun i hi=>?_⟩
   ·have hm:m∈Region.ready .any l.toArray listed:=by
     rw[mem_ready]
     refine⟨getD_in (by omega) (by simpa using hmu1),?_⟩
     have:=h1 m hmn
     cases ho:l[m]? with
     |none=>rw[ho]at this;simp at this
     |some o=>
      rw[ho]at this
      refine⟨o,by simpa using ho,fun e he hbd=>hmu2 e.on ?_⟩
      simp only[Array.all_eq_true_iff_forall_mem]at this
      have:=this e he
      rw[hbd]at this
      simpa using this
    rw[hr]at hm;cases hm
   ·obtain⟨hun,o,ho,hall⟩:=mem_ready.1 hi
    have hil:i<l.length:=by have:=(Array.getElem?_eq_some_iff.1 ho).1;simpa using this
    have hin:i<n:=by
     rcases h2 i hil with h|h
     ·exact h
     ·refine(hmu1 (reaches_listed inv n i m (h m hmn) fun o' ho'=>?_)).elim
      have:o'=o:=Option.some.inj (ho'.symm.trans ho)
      subst this
      exact hall
    have ho2:(l.take n)[i]?=some o:=by rw[List.getElem?_take_of_lt hin];simpa using ho
    have hst:=steps_at (l.take n) 0 hs i o ho2 u w hb (deps_of _ fun e he hbd hen=>ht e.on hen (hall e (by simpa using he) hbd))
    refine wpOp_of_one ho (fun a' w' hK=>?_) hst
    obtain⟨v,rfl,htv,hbel,hnew⟩:=hK
    rw[Nat.zero_add]at htv hnew
    rw[putAll_put (l.take n) 0 u a0 i o v hd ho2,Nat.zero_add]
    have hun': ¬listed.getD i false=true:=by rw[getD_both hun];simp
    refine ih _ _ w' ?_ (inv.set hi hin) (hb.trans (hbel.mono hb.size)) (fun j hj hl=>?_) (fun j k hj hk aj ak lj lk hjk=>?_)
    ·have:=mu_set (by omega) hun' n hin;omega
    ·by_cases hji:j=i
     ·subst hji;simpa [upd] using htv
     ·rw[show upd u i v j=u j by unfold upd;rw[if_neg hji]]
      rw[getD_set_ne false (Ne.symm hji)]at hl
      exact hT j _ w w' (ht j hj hl) hbel
    ·by_cases hji:j=i
     ·subst hji
      rw[getD_set_ne false hjk]at lk
      rw[show upd u j v j=v by simp[upd],show upd u j v k=u k by unfold upd;rw[if_neg (Ne.symm hjk)]]
      have:=hA k _ w ak (ht k hk lk)
      have:=hnew aj
      omega
     ·rw[getD_set_ne false (Ne.symm hji)]at lj
      by_cases hki:k=i
      ·subst hki
       rw[show upd u k v k=v by simp[upd],show upd u k v j=u j by unfold upd;rw[if_neg hji]]
       have:=hA j _ w aj (ht j hj lj)
       have:=hnew ak
       omega
      ·rw[getD_set_ne false (Ne.symm hki)]at lk
       rw[show upd u i v j=u j by unfold upd;rw[if_neg hji],show upd u i v k=u k by unfold upd;rw[if_neg hki]]
       exact hdj j k hj hk aj ak lj lk hjk
theorem wp_region_mix {l:List Oper} {id:Nat} {a0:Act} {w0:World} (n:Nat) (T:Nat→Value→World→Prop) (A:Nat→Bool) (hm:P.follows .mixedOrders=true) (hB:mixB l n=true)
  (hT: ∀i v w w',T i v w→Below w.heap.size w w'→T i v w')
  (hA: ∀i v w,A i=true→T i v w→blk v<w.heap.size)
  (hs:StepsAll P l.toArray Q n T A w0 a0 (l.take n) (l.take n) 0)
  (hf: ∀u w,Below w0.heap.size w0 w→(∀i,i<n→T i (u i) w)→(∀i j,i<n→j<n→A i=true→A j=true→i≠j→blk (u i)≠blk (u j))→wpList P l.toArray Q (l.drop n) (putAll (l.take n) 0 u a0) w):(Code.region id l.toArray true).wp P Q a0 w0:=by
 refine wp_region_any hm ?_
 have inv0:HeadInv .any l.toArray n (Array.replicate l.toArray.size false):=
  ⟨by simp,fun j oj _ hl=>(by rw[getD_replicate_false]at hl;cases hl),fun t _ ht=>getD_in (by simpa using ht) (getD_replicate_false _ _)⟩
 have hn:n≤l.length:=by simp only[mixB,Bool.and_eq_true,decide_eq_true_eq]at hB;exact hB.1.1.1.1
 have hmu:mu (Array.replicate l.toArray.size false) n≤n:=by
  have: ∀(s:Array Bool) k,mu s k≤k:=fun s k=>by
   induction k with
   |zero=>simp[mu]
   |succ k ih=>unfold mu;split<;>omega
  exact this _ _
 have h:=mix_all (P:=P) (Q:=Q) hB hT hA hs hf n (Array.replicate l.toArray.size false) (fun i=>match (l.take n)[i]? with|some o=>slot a0 o.dst|none=>undef) w0.drew hmu inv0 (Below.refl _ _).drew
  (fun i _ hl=>by rw[getD_replicate_false]at hl;cases hl) (fun i j _ _ _ _ hl=>by rw[getD_replicate_false]at hl;cases hl)
 rw[putAll_self (l.take n) 0 _ a0 (fun j o hj=>by simp only[Nat.zero_add,hj])]at h
 rw[show n+(l.length-n)=l.toArray.size by simp;omega]at h
 exact h
end
def TLst (l:List Value) (k:Nat) (v:Value) (_w:World):Prop:=v=l.getD k undef
end
end Go.Proofs.YtiapmjkaappcfaaGreatDoor
