/-
  Package text's calls, walked: all of them.
-/
import Derived.Test.YtkhmaiggcihneaaDoorTxtI
import Derived.Test.YtkhmaiggcihneaaDoorTxtN
import Derived.Test.YtkhmaiggcihneaaDoorTxtO
namespace Go.Proofs.YtkhmaiggcihneaaDoor
open Go.RowKit

theorem tletter_any (r : Int) (w : World) (_env : Env w) (_r0 : -2147483648 ≤ r) (_r1 : r ≤ 2147483647) : Calls Tryd.prog 14 #[.int .i32 r] w fun e w' => e = .returned (.bool (letterB r)) ∧ Below w.heap.size w w' :=
  (tletter_same r w).mono fun _ _ ⟨h, g⟩ => ⟨h, g ▸ Below.refl _ _⟩
theorem tname_any (s : ByteArray) (w : World) (_env : Env w) (hm : s.size ≤ 4294967296) : Calls Tryd.prog 16 #[.string s] w (GivesQ (NameL (runesOf (nums s))) w) := tname_plain s w hm

end Go.Proofs.YtkhmaiggcihneaaDoor
