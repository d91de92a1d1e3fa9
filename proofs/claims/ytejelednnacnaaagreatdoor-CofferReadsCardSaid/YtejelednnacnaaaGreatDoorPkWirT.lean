/-
  The document's own Get of layer 7, of any slice of bytes.
-/
import Derived.Test.YtejelednnacnaaaGreatDoorPkWirG
import Derived.Test.YtejelednnacnaaaGreatDoorPkBase
namespace Go.Proofs.YtejelednnacnaaaGreatDoor
open Go.RowKit

set_option maxRecDepth 100000 in
set_option maxHeartbeats 4000000 in
theorem rwget_zero (a : Option Addr) (cap at_ : Nat) (kind most : Int) (w : World) :
    Calls Tryz.prog 31 #[.slice a 0 cap, .int .i64 at_, .agg #[.int .i64 kind, .int .i64 most]] w (GivesGet [] (takeT kind most []) w) := by
  have M := GtM.start w kind most
  obtain ⟨r0, r1, r2, r3, _, _, _, _, _⟩ := M.r
  go_enter Tryz.func31, Tryz.ntmps31
  go_wp2
  refine bodyPost_ret (v := .tuple #[.agg #[.int .u64 0, .int .i64 0, .string ⟨#[]⟩, .bool false], .int .i64 0, .bool false]) (by simp [results, Tryz.results31, go_sem, r0, r1, r2, r3]) rfl (GivesGet.none rfl ?_)
  exact M.bel
/-- Get, of any slice of bytes. -/
theorem rwget_is (v : Value) (B : List Int) (at_ : Nat) (kind most : Int) (w : World) (hv : BytesIs w v B) (hb : ∀ z ∈ B, 0 ≤ z ∧ z ≤ 255) (ha : (at_ : Int) ≤ 1000000) (hB : B.length ≤ 1000000) (hm0 : -9223372036854775808 ≤ most) (hm1 : most ≤ 9223372036854775807) :
    Calls Tryz.prog 31 #[v, .int .i64 at_, .agg #[.int .i64 kind, .int .i64 most]] w (GivesGet B (takeT kind most (B.drop at_)) w) := by
  by_cases hl : 0 < B.length
  · exact rwget_any v B at_ kind most w (hv.ints hl) hb ha hB hm0 hm1
  · obtain rfl : B = [] := List.eq_nil_of_length_eq_zero (by omega)
    obtain ⟨a, cap, rfl, _⟩ := hv
    rw [List.drop_nil]
    exact rwget_zero a cap at_ kind most w

end Go.Proofs.YtejelednnacnaaaGreatDoor
