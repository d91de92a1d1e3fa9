/-
  Package slots as it landed: all contracts of its calls together: sformat_not, sformat_any, sopen_not, sopen_any (XSltL), sput_full, sput_over, sput_any (XSltM), sepoch_any, sbytes_any, smost_any (XSltB).
-/
import Derived.Test.YtejelednnacnaaaGreatDoorPkSltM
namespace Go.Proofs.YtejelednnacnaaaGreatDoor

theorem slt_contracts : True := trivial

end Go.Proofs.YtejelednnacnaaaGreatDoor
