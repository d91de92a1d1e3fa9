/-
  Package block as it landed: all contracts of its calls together.
-/
import Derived.Test.YtnndpainnoebgaaBlkJ
namespace Go.Proofs.Ytnndpainnoebgaa
end Go.Proofs.Ytnndpainnoebgaa
