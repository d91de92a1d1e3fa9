/-
  A number with its sign that is handed in: what it is.
-/
import Derived.Test.YtcdafppnfflmcaaRows
import Derived.ProofKit
import Derived.OpenShut
import Derived.Lib.SmallJoins
namespace Go.Proofs.Ytcdafppnfflmcaa
open Go.ChangeShapes Go.WideShapes Go.ChangeAt Go.RowKit Go.Joins

theorem cells_bool : Try.prog.cellsOf 4 = 1 := by kernel_rfl
theorem cells_word : Try.prog.cellsOf 22 = 1 := by kernel_rfl
theorem cells_wide : Try.prog.cellsOf 24 = 2 := by kernel_rfl
theorem cells_signed : Try.prog.cellsOf 58 = 3 := by kernel_rfl
theorem word_wf (x : Int) (h : (Lit.int .u64 x).wf = true) : 0 ≤ x ∧ x ≤ 18446744073709551615 := by
  have := bounds_u64 h; omega

theorem open_signed {H : Type} {enc : TypeId × Value → H} {W : World} {base : Nat} {spare : Nat → Bool} {held : Bool} {r : Reach} {b0 : Nat} {v : Value} {d : DataW H} {p : List MemPlace}
    (hv : Value.okWide Try.prog W r b0 58 v) (h : DataW.Trod enc Try.prog W base spare held 58 v d p) :
    ∃ (b : Bool) (h l : Int), v = .agg #[.bool b, .int .u64 h, .int .u64 l] ∧ d = .agg [.lit (.bool b), .agg [.lit (.int .u64 h), .lit (.int .u64 l)]] ∧ p = [] ∧ (Lit.int .u64 h).wf = true ∧ (Lit.int .u64 l).wf = true := by
  obtain ⟨cs, rfl, hsz⟩ := okWide_struct Try.underlying58 hv
  obtain ⟨c0, c1, c2, rfl⟩ := array3 (hsz.trans cells_signed)
  obtain ⟨fuel, hf⟩ := h
  obtain ⟨y0, y1, n, hx, _, h0, h1⟩ := trod_struct2 Try.underlying58 hf
  simp only [cells_bool, cells_wide, Value.cells, List.drop_zero, List.take_succ_cons, List.take_zero, List.drop_succ_cons] at h0 h1
  obtain ⟨y2, y3, m, hy, _, h2, h3⟩ := trod_struct2 Try.underlying24 h1
  simp only [cells_word, List.drop_zero, List.take_succ_cons, List.take_zero, List.drop_succ_cons] at h2 h3
  obtain ⟨b, e0, rfl⟩ := DataW.trod_bool Try.underlying4 h0
  obtain ⟨h, e1, rfl, w1⟩ := DataW.trod_int Try.underlying22 h2
  obtain ⟨l, e2, rfl, w2⟩ := DataW.trod_int Try.underlying22 h3
  simp only [List.cons.injEq, and_true] at e0 e1 e2
  subst e0 e1 e2 hy
  simp only [Prod.mk.injEq] at hx
  exact ⟨b, h, l, rfl, hx.1, by simpa using hx.2, w1, w2⟩

theorem shut_signed {H : Type} {enc : TypeId × Value → H} (W : World) (spare : Nat → Bool) (b : Bool) (h l : Int) (w1 : (Lit.int .u64 h).wf = true) (w2 : (Lit.int .u64 l).wf = true) :
    DataW.Trod enc Try.prog W 0 spare true 58 (.agg #[.bool b, .int .u64 h, .int .u64 l]) (.agg [.lit (.bool b), .agg [.lit (.int .u64 h), .lit (.int .u64 l)]]) [] := by
  have k : DataW.trod enc Try.prog W 0 spare true 2 24 [.int .u64 h, .int .u64 l] = some (.agg [.lit (.int .u64 h), .lit (.int .u64 l)], []) :=
    trod_struct2_mk (n := 1) (cs := [.int .u64 h, .int .u64 l]) (y0 := (.lit (.int .u64 h), [])) (y1 := (.lit (.int .u64 l), [])) Try.underlying24 (by simp [cells_wide]) (by simpa [cells_word] using trod_int_mk 0 Try.underlying22 w1) (by simpa [cells_word] using trod_int_mk 0 Try.underlying22 w2)
  have kb : DataW.trod enc Try.prog W 0 spare true 2 4 [.bool b] = some (.lit (.bool b), []) := by simp [DataW.trod, Try.underlying4]
  exact ⟨3, trod_struct2_mk (n := 2) (cs := [.bool b, .int .u64 h, .int .u64 l]) Try.underlying58 (by simp [cells_signed]) (by simpa [cells_bool] using kb) (by simpa [cells_wide] using k)⟩

end Go.Proofs.Ytcdafppnfflmcaa
