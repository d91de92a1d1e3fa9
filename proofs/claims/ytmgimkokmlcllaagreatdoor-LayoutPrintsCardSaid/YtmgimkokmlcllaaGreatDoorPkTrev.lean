/-
  Trees' tokens, item by item; words as cells.
-/
import Derived.Test.YtmgimkokmlcllaaGreatDoorPkTrel
import Derived.Test.YtmgimkokmlcllaaGreatDoorPkTrem
import Derived.Test.YtmgimkokmlcllaaGreatDoorPkMixs
import Derived.Deep.QuietTactic
import Derived.Test.YtmgimkokmlcllaaGreatDoorPkTrea
import Derived.Test.YtmgimkokmlcllaaGreatDoorPkTrep
namespace Go.Proofs.YtmgimkokmlcllaaGreatDoor
open Go.RowKit

theorem tk_take {L : List It} {i : Nat} (h : i < L.length) : L.take (i + 1) = L.take i ++ [L.getD i default] := by
  rw [List.take_add_one, List.getD_eq_getElem?_getD, List.getElem?_eq_getElem h]; rfl
end Go.Proofs.YtmgimkokmlcllaaGreatDoor

/-
  Trees of sources have few words in an item: plain.
-/
namespace Go.Proofs.YtmgimkokmlcllaaGreatDoor

def FewW : List It → Prop
  | [] => True
  | .mk _ w _ kids _ _ :: l => w.length ≤ 6 ∧ FewW kids ∧ FewW l
theorem fewW_app : ∀ {l m : List It}, FewW l → FewW m → FewW (l ++ m)
  | [], _, _, h => h
  | .mk n w k kids a b :: l, m, h1, h2 => by
    rw [List.cons_append, FewW] at *
    exact ⟨h1.1, h1.2.1, fewW_app h1.2.2 h2⟩
theorem FewW.all : ∀ {L : List It}, FewW L → AllW L
  | [], _ => by simp [AllW]
  | .mk n w k kids a b :: L, h => by
    rw [FewW] at h
    rw [AllW]
    exact ⟨by omega, h.2.1.all, h.2.2.all⟩
theorem fewW_one {h : Hd} {k : Bool} {l : List It} (hw : h.words.length ≤ 6) (hl : FewW l) : FewW [h.it k l] := by
  rw [Hd.it, FewW]
  exact ⟨hw, hl, by simp [FewW]⟩
theorem fewW_push {x : It} {st : List (Hd × List It)} (hx : FewW [x]) (hs : ∀ y ∈ st, FewW y.2 ∧ y.1.words.length ≤ 6) : ∀ y ∈ pushS x st, FewW y.2 ∧ y.1.words.length ≤ 6 := by
  cases st with
  | nil => intro y hy; cases hy
  | cons z st =>
    obtain ⟨h, l⟩ := z
    intro y hy
    rcases List.mem_cons.mp hy with rfl | hy
    · have := hs (h, l) (List.mem_cons_self ..)
      exact ⟨fewW_app this.1 hx, this.2⟩
    · exact hs y (List.mem_cons_of_mem _ hy)
theorem trF_few : ∀ (T : List Tk3) (st : List (Hd × List It)) (n : Nat) (o : Option Hd) (I : List It), (∀ y ∈ st, FewW y.2 ∧ y.1.words.length ≤ 6) → (∀ h, o = some h → h.words.length ≤ 6) → trF T st n o = .ok I → FewW I
  | [], st, n, o, I, _, _, h => by
    rw [trF] at h
    injection h with h
    rw [← h]; simp [FewW]
  | t :: T, st, n, some hd, I, hs, ho, h => by
    have hw := ho hd rfl
    rw [trF] at h
    split at h
    · exact trF_few T _ _ _ I (fewW_push (fewW_one hw (by simp [FewW])) hs) (fun _ e => by cases e) h
    split at h
    · refine trF_few T _ _ _ I (fun y hy => ?_) (fun _ e => by cases e) h
      rcases List.mem_cons.mp hy with rfl | hy
      · exact ⟨by simp [FewW], hw⟩
      · exact hs y hy
    split at h
    · cases h
    split at h
    · cases h
    · rename_i h6
      refine trF_few T _ _ _ I hs (fun h2 e => ?_) h
      injection e with e
      rw [← e]
      simp only [List.length_append, List.length_cons, List.length_nil]
      omega
  | t :: T, st, n, none, I, hs, ho, h => by
    rw [trF] at h
    split at h
    · refine trF_few T _ _ _ I ?_ (fun _ e => by cases e) h
      cases st with
      | nil => intro y hy; cases hy
      | cons z st =>
        obtain ⟨h2, l⟩ := z
        have := hs (h2, l) (List.mem_cons_self ..)
        exact fewW_push (fewW_one this.2 this.1) (fun y hy => hs y (List.mem_cons_of_mem _ hy))
    split at h
    · injection h with h
      cases st with
      | nil => rw [← h]; simp [FewW]
      | cons z st => rw [← h]; exact (hs z (List.mem_cons_self ..)).1
    split at h
    · cases h
    split at h
    · cases h
    split at h
    · cases h
    · refine trF_few T _ _ _ I hs (fun h2 e => ?_) h
      injection e with e
      rw [← e]; simp
theorem treF_fewW {l : List Int} {I : List It} (h : treF l = .ok I) : FewW I := by
  obtain ⟨L, _, h2⟩ := treF_toks h
  refine trF_few _ _ _ _ I (fun y hy => ?_) (fun _ e => by cases e) h2
  rw [List.mem_singleton.mp hy]
  exact ⟨by simp [FewW], by simp⟩

end Go.Proofs.YtmgimkokmlcllaaGreatDoor

/-
  The document's Bare, of trees in memory.
-/
namespace Go.Proofs.YtmgimkokmlcllaaGreatDoor
open Go.RowKit

def GivesBare (d : Nat) (L : List It) (w : World) (e : Ending) (w' : World) : Prop :=
  ∃ v ps Sx, e = .returned v ∧ ListIs (d - 1) w' Sx w.heap.size v ps ∧ ps.map ItV.x = bareL L ∧ (∀ b, Sx b → w.heap.size ≤ b ∧ b < w'.heap.size) ∧ Below w.heap.size w w'

def bareV (ws : List Tk3) (k : Nat) : List (List Value) := ((ws.take k).map Tk3.bare).map tkV
def TB15 (l : List Value) : Nat → Value → World → Prop := fun k v _ => k < 15 → v = l.getD k undef
structure JB (wr : World) (d : Nat) (K : List It) (nm : ByteArray) (bk : Bool) (u : Nat → Value) (L : Nat → Bool) (W : World) : Prop where
  bel : Below wr.heap.size wr W
  kid : L 15 = true → ∃ a c, u 15 = .slice a K.length c ∧ ∃ Sk : Nat → Prop, (∀ b, Sk b → wr.heap.size ≤ b ∧ b < W.heap.size ∧ (L 17 = true → ∀ g, u 17 = .pointer (some ⟨g, 0, none⟩) → b ≠ g)) ∧ ItemsIs d W Sk (u 15) K
  bld : L 16 = true → L 15 = true ∧ u 16 = .agg #[.string nm, .slice none 0 0, .bool bk, u 15, .int .i64 0, .int .i64 0]
  var : L 17 = true → ∃ g, u 17 = .pointer (some ⟨g, 0, none⟩) ∧ wr.heap.size ≤ g ∧ g < W.heap.size ∧ Var6 W g (.string ⟨#[]⟩) (.slice none 0 0) (.bool false) (.slice none 0 0) (.int .i64 0) (.int .i64 0)
end Go.Proofs.YtmgimkokmlcllaaGreatDoor
