/-
  ScanGaps: tokens printed one behind the other, with gaps between: plain.
-/
import Derived.Test.YtmgimkokmlcllaaGreatDoorPkScnLA
import Derived.Test.YtmgimkokmlcllaaGreatDoorPkScnN
import Derived.Test.YtmgimkokmlcllaaGreatDoorPkScnLP
import Derived.Test.YtmgimkokmlcllaaGreatDoorPkTok
namespace Go.Proofs.YtmgimkokmlcllaaGreatDoor
open Go.RowKit

/-- The gaps, by their letters and by their runes. -/
def gapL (k : Nat) : List Int := if k = 1 then [9, 32] else if k = 2 then [10, 10] else if k = 3 then [32, 35, 32, 34, 32, 123, 32, 255, 10] else if k = 4 then [35, 10] else [32]
def gapU (k : Nat) : List Int := if k = 1 then [9, 32] else if k = 2 then [10, 10] else if k = 3 then [32, 35, 32, 34, 32, 123, 32, -1, 10] else if k = 4 then [35, 10] else [32]
/-- A printed token, with the gap ahead of it. -/
structure Itm where
  g : Nat
  k : Int
  s : ByteArray
  n : Nat
structure Itm.Ok (x : Itm) : Prop where
  right : RightT x.k x.s (x.n : Int)
  n9 : x.n ≤ 18446744073709551615
  k0 : x.k ≠ 0
def Itm.tok (x : Itm) : TkV := ⟨x.k.toNat, txT x.k x.s, x.n⟩
def Itm.let (x : Itm) : List Int := gapL x.g ++ prT x.k x.s x.n
def Itm.run (x : Itm) : List Int := gapU x.g ++ runesOf (prT x.k x.s x.n)
/-- Which gap stands ahead of a token. -/
def gkB (zs : List Int) (j : Nat) : Int := if 0 < zs.length then zs.getD (j % zs.length) 0 else 0
def itmOf (Q : List TokQ) (zs : List Int) (j : Nat) : Itm := ⟨(gkB zs j).toNat % 5, (Q.getD j {}).k, (Q.getD j {}).s, (Q.getD j {}).n.toNat⟩
def itms (Q : List TokQ) (zs : List Int) (i : Nat) : List Itm := (List.range i).map (itmOf Q zs)
/-- The text of the first ones. -/
def srcB (Q : List TokQ) (zs : List Int) (i : Nat) : List Int := (itms Q zs i).flatMap Itm.let
end Go.Proofs.YtmgimkokmlcllaaGreatDoor
