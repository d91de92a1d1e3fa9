/-
  What the program's calls lean on beside their arguments: nothing here. (Where a seat's calls read the library's table of powers of ten, XEnvTab is laid in this text's place.)
-/
import Derived.Test.YthhaineoflpkkaaBoxes
namespace Go.Proofs.Ythhaineoflpkkaa
open Go.RowKit

def Env (_w : World) : Prop := True
theorem Env.step {w w' : World} (_h : Env w) (_hb : Below w.heap.size w w') : Env w' := trivial
theorem Env.none (w : World) : Env w := trivial

end Go.Proofs.Ythhaineoflpkkaa
