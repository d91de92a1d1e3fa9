/-
  The document's own Get of layer 7, walked.
-/
import Derived.Test.YtnndpainnoebgaaWirN
import Derived.Test.YtnndpainnoebgaaVars
import Derived.Deep.QuietTactic
import Derived.BigQuiet
import Derived.StillTailTactics
import Derived.RegionTactic
namespace Go.Proofs.Ytnndpainnoebgaa
open Go.RowKit

/-- What was read: a number, a whole number, a text, a flag. -/
structure GotV where
  n : Nat := 0
  i : Int := 0
  s : ByteArray := ⟨#[]⟩
  f : Bool := false
def GotV.val (g : GotV) : Value := .agg #[.int .u64 g.n, .int .i64 g.i, .string g.s, .bool g.f]
/-- A number at the front, that begins with so many bytes to come. -/
def takeK (k : Int) (r : List Int) : Option (Nat × List Int) :=
  if 8 < k ∨ (r.length : Int) < k ∨ (0 < k ∧ r.getD 0 0 = 0) then none else some (valB (r.take k.toNat), r.drop k.toNat)
/-- A thing at the front, and what is behind it. -/
def takeT (kind most : Int) : List Int → Option (GotV × List Int)
  | [] => none
  | k :: r =>
    if kind = 3 then (if k < 2 then some ({ f := decide (k = 1) }, r) else none)
    else if kind = 1 then
      (if k / 16 % 2 = 1 then
        match takeK (k - 16) r with
        | none => none
        | some (n, q) => if 0 < n ∧ n ≤ 9223372036854775808 then some ({ i := -(n : Int) }, q) else none
      else
        match takeK k r with
        | none => none
        | some (n, q) => if n ≤ 9223372036854775807 then some ({ i := n }, q) else none)
    else
      match takeK k r with
      | none => none
      | some (n, q) =>
        if kind = 0 then some ({ n := n }, q)
        else if most < 0 ∨ most < n then none
        else if kind = 4 then some ({ n := n }, q)
        else if q.length < n then none
        else some ({ s := strOfNums (q.take n) }, q.drop n)
/-- What Get hands back. -/
def GivesGet (B : List Int) (o : Option (GotV × List Int)) (w : World) (e : Ending) (w' : World) : Prop :=
  Below w.heap.size w w' ∧ ((∃ g q, o = some (g, q) ∧ q.length ≤ B.length ∧ B.drop (B.length - q.length) = q ∧ e = .returned (.tuple #[g.val, .int .i64 ((B.length - q.length : Nat) : Int), .bool true])) ∨
    (o = none ∧ ∃ (a b : Int) (c : ByteArray) (d : Bool) (n : Int), e = .returned (.tuple #[.agg #[.int .u64 a, .int .i64 b, .string c, .bool d], .int .i64 n, .bool false])))
/-- Four cells. -/
structure Var4 (W : World) (p : Nat) (x y z u : Value) : Prop where
  c0 : W.cell? ⟨p, 0, none⟩ = some x
  c1 : W.cell? ⟨p, 1, none⟩ = some y
  c2 : W.cell? ⟨p, 2, none⟩ = some z
  c3 : W.cell? ⟨p, 3, none⟩ = some u
  q0 : W.frozen? ⟨p, 0, none⟩ = false
  q1 : W.frozen? ⟨p, 1, none⟩ = false
  q2 : W.frozen? ⟨p, 2, none⟩ = false
  q3 : W.frozen? ⟨p, 3, none⟩ = false
  s : p < W.heap.size
theorem Var4.after {W W1 : World} {p : Nat} {x y z u : Value} (k : Var4 W p x y z u) (hb : Below W.heap.size W W1) : Var4 W1 p x y z u :=
  ⟨(hb.cell (p := ⟨p, 0, none⟩) k.s).trans k.c0, (hb.cell (p := ⟨p, 1, none⟩) k.s).trans k.c1, (hb.cell (p := ⟨p, 2, none⟩) k.s).trans k.c2, (hb.cell (p := ⟨p, 3, none⟩) k.s).trans k.c3, (below_frozen hb k.s).trans k.q0, (below_frozen hb k.s).trans k.q1, (below_frozen hb k.s).trans k.q2, (below_frozen hb k.s).trans k.q3, Nat.lt_of_lt_of_le k.s hb.size⟩
theorem Var4.fresh (W : World) (x y z u : Value) (t : TypeId) (p : Nat) (hp : p = W.heap.size) : Var4 (W.alloc (.cells #[x, y, z, u] t)) p x y z u := by
  subst hp; exact ⟨by simp, by simp, by simp, by simp, by simp [go_sem], by simp [go_sem], by simp [go_sem], by simp [go_sem], by simp⟩
theorem Var4.alloc {W : World} {p : Nat} {x y z u : Value} (k : Var4 W p x y z u) (o : Obj) : Var4 (W.alloc o) p x y z u := k.after ((Below.refl _ _).alloc (Nat.le_refl _) o)

theorem drop_rest {B R : List Int} {a K : Nat} (hR : B.drop (a + 1) = R) (hl : a + 1 ≤ B.length) (hK : K ≤ R.length) : (R.drop K).length ≤ B.length ∧ B.drop (B.length - (R.drop K).length) = R.drop K ∧ B.length - (R.drop K).length = a + 1 + K := by
  subst hR
  rw [List.length_drop] at hK
  rw [List.drop_drop, List.length_drop]
  refine ⟨by omega, ?_, by omega⟩
  rw [show B.length - (B.length - (a + 1 + K)) = a + 1 + K by omega]
theorem under_bytes : Try.prog.underlying 30 = some (.slice (Try.prog.elem 30)) := by kernel_rfl
theorem elem_bytes : ∀ W, (sizeOf (Try.prog.elem 30)).run Try.prog W = .ok 1 W := fun _ => by kernel_rfl
theorem slice_mid (g o n cap a b : Nat) (hab : a ≤ b) (hb : b ≤ cap) : ∃ o2 c2, (∀ W, (Instr.slice 30 (.slice (some ⟨g, o, none⟩) n cap) (some (.int .i64 a)) (some (.int .i64 b)) none).run Try.prog W = .ok (.slice (some ⟨g, o2, none⟩) ((b - a : Nat) : Nat) c2) W) ∧ (0 < b - a → o2 = o + a) := by
  by_cases hc : cap = a
  · refine ⟨o, cap - a, fun W => ?_, fun h => by omega⟩
    rw [run_slice_lh W 30 _ n cap under_bytes .i64 .i64 a b (by omega) (by omega) (by omega), elem_bytes]
    simp only [Result.andThen, sliced, Int.toNat_natCast]
    rw [if_pos hc]
  · refine ⟨o + a, cap - a, fun W => ?_, fun _ => rfl⟩
    rw [run_slice_lh W 30 _ n cap under_bytes .i64 .i64 a b (by omega) (by omega) (by omega), elem_bytes]
    simp only [Result.andThen, sliced, Int.toNat_natCast]
    rw [if_neg hc]
    rcases a with _ | a <;> simp [Addr.add]
theorem text_of {w : World} (g o2 c2 : Nat) (zs : List Int) (n : Nat) (hn : zs.length = n) (hc : ∀ i, i < n → ∀ x y z, (((w.alloc x).alloc y).alloc z).cell? ⟨g, o2 + i, none⟩ = some (.int .u8 (zs.getD i 0))) :
    ∀ x y z, (convert 30 9 (.slice (some ⟨g, o2, none⟩) n c2)).run Try.prog (((w.alloc x).alloc y).alloc z) = .ok (.string (strOfNums zs)) (((w.alloc x).alloc y).alloc z) := fun x y z =>
  run_convert_bytes_arg _ 30 5 Try.underlying30 Try.underlying5 g o2 n c2 zs hn (fun i hi => hc i hi x y z) 9 Try.underlying9
/-- What stands in the call's own memory. -/
structure GtM (w wr : World) (kind most : Int) : Prop where
  b : Var2 wr w.heap.size (.int .i64 kind) (.int .i64 most)
  r : Var4 wr (w.heap.size + 1) (.int .u64 0) (.int .i64 0) (.string ⟨#[]⟩) (.bool false)
  z : Var4 wr (w.heap.size + 1 + 1) (.int .u64 0) (.int .i64 0) (.string ⟨#[]⟩) (.bool false)
  bel : Below w.heap.size w wr
  lt : w.heap.size + 1 + 1 < wr.heap.size
/-- Memory that is older than the call's own. -/
theorem GtM.old {w wr : World} {kind most : Int} (h : GtM w wr kind most) {g o : Nat} {x : Value} (hg : g < w.heap.size) (hc : w.cell? ⟨g, o, none⟩ = some x) : wr.cell? ⟨g, o, none⟩ = some x := (h.bel.cell (p := ⟨g, o, none⟩) hg).trans hc
theorem old3 {w : World} {g i : Nat} {x : Value} (hg : g < w.heap.size) (h : w.cell? ⟨g, i, none⟩ = some x) (a b c : Obj) : (((w.alloc a).alloc b).alloc c).cell? ⟨g, i, none⟩ = some x :=
  (Below.cell (p := ⟨g, i, none⟩) ((((Below.refl w.heap.size w).alloc (Nat.le_refl _) a).alloc (by simp) b).alloc (by simp; omega) c) hg).trans h
theorem below3 (w : World) (a b c : Obj) : Below w.heap.size w (((w.alloc a).alloc b).alloc c) := (((Below.refl w.heap.size w).alloc (Nat.le_refl _) a).alloc (by simp) b).alloc (by simp; omega) c
theorem GivesGet.none {B : List Int} {w w' : World} {o : Option (GotV × List Int)} {a b : Int} {c : ByteArray} {d : Bool} {n : Int} (h : o = .none) (hb : Below w.heap.size w w') : GivesGet B o w (.returned (.tuple #[.agg #[.int .u64 a, .int .i64 b, .string c, .bool d], .int .i64 n, .bool false])) w' := ⟨hb, Or.inr ⟨h, a, b, c, d, n, rfl⟩⟩
theorem GivesGet.some {B q : List Int} {w w' : World} {o : Option (GotV × List Int)} {a b c d : Value} {n : Int} {g : GotV} (h : o = .some (g, q)) (hq : q.length ≤ B.length) (hd : B.drop (B.length - q.length) = q) (hn : n = ((B.length - q.length : Nat) : Int)) (hg : g.val = .agg #[a, b, c, d]) (hb : Below w.heap.size w w') :
    GivesGet B o w (.returned (.tuple #[.agg #[a, b, c, d], .int .i64 n, .bool true])) w' := ⟨hb, Or.inl ⟨g, q, h, hq, hd, by rw [hn, hg]⟩⟩
theorem drop_cons {B : List Int} {a : Nat} (h : a < B.length) : B.drop a = B.getD a 0 :: B.drop (a + 1) := by
  rw [List.drop_eq_getElem_cons h, List.getD_eq_getElem?_getD, List.getElem?_eq_getElem h]; rfl
theorem drop_back (B : List Int) (a : Nat) (h : a ≤ B.length) : (B.drop a).length ≤ B.length ∧ B.drop (B.length - (B.drop a).length) = B.drop a ∧ B.length - (B.drop a).length = a := by
  rw [List.length_drop]
  refine ⟨by omega, ?_, by omega⟩
  rw [show B.length - (B.length - a) = a by omega]

end Go.Proofs.Ytnndpainnoebgaa
