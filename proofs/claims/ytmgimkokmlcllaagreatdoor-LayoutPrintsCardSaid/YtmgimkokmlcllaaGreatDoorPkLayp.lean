/-
  Package layout's bareWords; rows that are made whole, and filled place by place: walked.
-/
import Derived.Test.YtmgimkokmlcllaaGreatDoorPkLayn
import Derived.Test.YtmgimkokmlcllaaGreatDoorPkTrem
namespace Go.Proofs.YtmgimkokmlcllaaGreatDoor
open Go.RowKit

def tkZ : List Value := [.int .i64 0, .string ⟨#[]⟩, .int .u64 0, .int .i64 0, .int .i64 0]
end Go.Proofs.YtmgimkokmlcllaaGreatDoor

/-
  Package layout's Bare: walked.
-/
namespace Go.Proofs.YtmgimkokmlcllaaGreatDoor
open Go.RowKit

def NewW (W : World) (lo : Nat) (v : Value) (l : List Tk3) : Prop := ∃ S : Nat → Prop, WordsIs W S v l ∧ ∀ b, S b → lo ≤ b ∧ b < W.heap.size
def NewK (D : Nat) (W : World) (lo : Nat) (v : Value) (L : List It) : Prop := ∃ S : Nat → Prop, ItemsIs D W S v L ∧ ∀ b, S b → lo ≤ b ∧ b < W.heap.size
def itZ : List Value := [.string ⟨#[]⟩, .slice none 0 0, .bool false, .slice none 0 0, .int .i64 0, .int .i64 0]
theorem LightL.at : ∀ {L : List It} (_ : LightL L) (i : Nat), i < L.length → LightX (L.getD i default) ∧ LightL (L.getD i default).kids
  | [], _, i, hi => by cases hi
  | .mk n w k kids a b :: L, h, i, hi => by
    rw [LightL] at h
    cases i with
    | zero => exact ⟨h.1, h.2.1⟩
    | succ i => exact LightL.at h.2.2 i (by simpa using hi)
def TBR (D : Nat) (lo : Nat) (g q n : Nat) (i : Nat) (nm : ByteArray) (wd : List Tk3) (bk : Bool) (kd : List It) (wa ka : Option Addr) (wl wc kl kc : Nat) (k : Nat) (v : Value) (W : World) : Prop :=
  (k = 0 → v = .slice (some ⟨g, 0, none⟩) n n) ∧ (k = 1 → v = .int .i64 (i : Int)) ∧ (k = 2 → v = .pointer (some ⟨q, 0, none⟩)) ∧ (k = 3 → v = .string nm) ∧ (k = 4 → v = .pointer (some ⟨q, 1, none⟩)) ∧ (k = 5 → v = .slice wa wl wc) ∧ (k = 6 → NewW W lo v (wd.map Tk3.bare)) ∧
  (k = 7 → v = .pointer (some ⟨q, 2, none⟩)) ∧ (k = 8 → v = .bool bk) ∧ (k = 9 → v = .pointer (some ⟨q, 3, none⟩)) ∧ (k = 10 → v = .slice ka kl kc) ∧ (k = 11 → NewK D W lo v (bareL kd)) ∧
  (k = 12 → ∃ wv kv, v = .agg #[.string nm, wv, .bool bk, kv, .int .i64 0, .int .i64 0] ∧ NewW W lo wv (wd.map Tk3.bare) ∧ NewK D W lo kv (bareL kd))
def BareAt (D : Nat) : Prop := ∀ (S : Nat → Prop) (v : Value) (L : List It) (w : World), ItemsIs D w S v L → (∀ b, S b → b < w.heap.size) → cntL L ≤ 1000000 → LightL L →
  Calls Tryz.prog 20 #[v] w fun e w' => ∃ v', e = .returned v' ∧ NewK D w' w.heap.size v' (bareL L) ∧ Below w.heap.size w w'
structure BrI (D : Nat) (w : World) (n : Nat) (L : List It) (i : Nat) (wr : World) : Prop where
  ex : ∃ ps : List ItV, ps.length = i ∧ RowK 51 6 wr w.heap.size (.slice (some ⟨w.heap.size, 0, none⟩) n n) (ps.map ItV.cells ++ List.replicate (n - i) itZ) ∧ ps.map ItV.x = bareL (L.take i) ∧ ∀ p ∈ ps, NewW wr (w.heap.size + 1) p.wv p.x.words ∧ NewK D wr (w.heap.size + 1) p.kv p.x.kids
  bel : Below w.heap.size w wr
  lt : w.heap.size < wr.heap.size
end Go.Proofs.YtmgimkokmlcllaaGreatDoor
