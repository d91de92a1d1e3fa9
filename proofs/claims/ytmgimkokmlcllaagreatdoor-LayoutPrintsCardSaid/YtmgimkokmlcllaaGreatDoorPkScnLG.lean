/-
  ScanGaps: tokens printed one behind the other, with gaps between: plain.
-/
import Derived.Test.YtmgimkokmlcllaaGreatDoorPkScnLA
import Derived.Test.YtmgimkokmlcllaaGreatDoorPkScnN
import Derived.Test.YtmgimkokmlcllaaGreatDoorPkScnLP
import Derived.Test.YtmgimkokmlcllaaGreatDoorPkTok
namespace Go.Proofs.YtmgimkokmlcllaaGreatDoor
open Go.RowKit

def gapL (k : Nat) : List Int := if k = 1 then [9, 32] else if k = 2 then [10, 10] else if k = 3 then [32, 35, 32, 34, 32, 123, 32, 255, 10] else if k = 4 then [35, 10] else [32]
def gapU (k : Nat) : List Int := if k = 1 then [9, 32] else if k = 2 then [10, 10] else if k = 3 then [32, 35, 32, 34, 32, 123, 32, -1, 10] else if k = 4 then [35, 10] else [32]
structure Itm where
  g : Nat
  k : Int
  s : ByteArray
  n : Nat
structure Itm.Ok (x : Itm) : Prop where
  right : RightT x.k x.s (x.n : Int)
  n9 : x.n ≤ 18446744073709551615
  k0 : x.k ≠ 0
def Itm.tok (x : Itm) : TkV := ⟨x.k.toNat, txT x.k x.s, x.n⟩
def Itm.let (x : Itm) : List Int := gapL x.g ++ prT x.k x.s x.n
def Itm.run (x : Itm) : List Int := gapU x.g ++ runesOf (prT x.k x.s x.n)
theorem runes_good_app {zs : List Int} (hb : ∀ z ∈ zs, 0 ≤ z ∧ z ≤ 255) (hg : ∀ r ∈ runesOf zs, 0 ≤ r) (ys : List Int) : runesOf (zs ++ ys) = runesOf zs ++ runesOf ys := by
  obtain ⟨hok, hback⟩ := good_back hb hg
  have key : ∀ l : List Int, (∀ r ∈ l, RuneOk r) → runesOf (l.flatMap encL ++ ys) = l ++ runesOf ys := by
    intro l
    induction l with
    | nil => intro _; rfl
    | cons r l ih =>
      intro hl
      rw [List.flatMap_cons, List.append_assoc, runes_enc (hl r (List.mem_cons_self ..)), ih (fun x hx => hl x (List.mem_cons_of_mem _ hx))]
      rfl
  have := key _ hok
  rw [hback] at this
  exact this
theorem print_good {k : Int} {s : ByteArray} {n : Nat} (h : RightT k s (n : Int)) : ∀ r ∈ runesOf (prT k s n), 0 ≤ r := by
  have asc : ∀ zs : List Int, (∀ z ∈ zs, 0 ≤ z ∧ z < 128) → ∀ z ∈ runesOf zs, 0 ≤ z := fun zs hz z hm => by
    rw [runes_of_ascii hz] at hm
    exact (hz z hm).1
  have asl : ∀ zs : List Int, (∀ z ∈ zs, (48 ≤ z ∧ z ≤ 57) ∨ unitOf z ≠ 0 ∨ z = 46 ∨ z = 37) → ∀ z ∈ runesOf zs, 0 ≤ z := fun zs hz => asc zs (fun z hm => (within_ascii (hz z hm)).2)
  unfold RightT at h
  rcases h with ⟨rfl, h, hz⟩ | ⟨rfl, h, h2, hz⟩ | ⟨rfl | rfl, rfl⟩ | ⟨rfl, rfl, h2⟩ | ⟨rfl, rfl, h2⟩ | ⟨rfl | rfl | rfl | rfl, rfl, hz⟩
  · exact fun r hr => within_low (name_within h r hr)
  · obtain ⟨hok, _⟩ := good_back (nums_byte s) (good_mem h)
    have e : prT 2 s n = quoteL (runesOf (nums s)) := rfl
    rw [e, runes_quoteL hok]
    intro z hm
    rcases List.mem_append.mp hm with hm | hm
    · rcases List.mem_append.mp hm with hm | hm
      · have := List.mem_singleton.mp hm; omega
      · obtain ⟨r, hr1, hr⟩ := List.mem_flatMap.mp hm
        have h0 := (hok r hr1).1
        unfold quoteU at hr
        split at hr
        · simp only [List.mem_cons, List.not_mem_nil, or_false] at hr; omega
        split at hr
        · simp only [List.mem_cons, List.not_mem_nil, or_false] at hr; omega
        split at hr
        · simp only [List.mem_cons, List.not_mem_nil, or_false] at hr; omega
        split at hr
        · simp only [List.mem_cons, List.not_mem_nil, or_false] at hr; omega
        split at hr
        · simp only [List.mem_append, List.mem_cons, List.not_mem_nil, or_false] at hr
          rcases hr with (hr | hr) | hr
          · omega
          · have := hexL_in _ z hr; omega
          · omega
        · have := List.mem_singleton.mp hr; omega
    · have := List.mem_singleton.mp hm; omega
  · exact asl _ (fun z hz => Or.inl (dec_byte n z hz))
  · have e : prT 4 ⟨#[]⟩ n = facP n := rfl
    rw [e]
    refine asc _ (fun z hz => ?_)
    rw [facP_form] at hz
    have ht := tailD_bd (r := n % 100) (by omega)
    rcases List.mem_append.mp hz with hz | hz
    · have := dec_byte _ z hz; omega
    · rcases List.mem_cons.mp hz with rfl | hz
      · omega
      · rcases List.mem_append.mp hz with hz | hz
        · have := List.mem_singleton.mp hz; omega
        · have := ht.1 z hz; omega
  · exact asl _ (pct_letters n)
  · have e : prT 6 ⟨#[]⟩ n = spn n := rfl
    obtain ⟨_, l, hr⟩ := spn_tells n
    have hl0 := runs_letters _ _ _ hr
    rw [e]
    exact asl _ (fun z hz => (hl0 z hz).elim Or.inl (fun h => Or.inr (Or.inl h)))
  · exact asc [] (fun z hz => (by cases hz))
  · exact asc [123] (fun z hz => (by have := List.mem_singleton.mp hz; omega))
  · exact asc [125] (fun z hz => (by have := List.mem_singleton.mp hz; omega))
  · exact asc [59] (fun z hz => (by have := List.mem_singleton.mp hz; omega))
def gkB (zs : List Int) (j : Nat) : Int := if 0 < zs.length then zs.getD (j % zs.length) 0 else 0
def itmOf (Q : List TokQ) (zs : List Int) (j : Nat) : Itm := ⟨(gkB zs j).toNat % 5, (Q.getD j {}).k, (Q.getD j {}).s, (Q.getD j {}).n.toNat⟩
def itms (Q : List TokQ) (zs : List Int) (i : Nat) : List Itm := (List.range i).map (itmOf Q zs)
def srcB (Q : List TokQ) (zs : List Int) (i : Nat) : List Int := (itms Q zs i).flatMap Itm.let
end Go.Proofs.YtmgimkokmlcllaaGreatDoor
