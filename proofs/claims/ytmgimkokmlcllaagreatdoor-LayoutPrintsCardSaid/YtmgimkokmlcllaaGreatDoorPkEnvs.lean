/-
  A row that lists tables hands them over, whichever place a table has in its list.
-/
import Derived.Test.YtmgimkokmlcllaaGreatDoorChecked
import Derived.Lib.AppendIntMem
import Derived.Lib.LaidTab
import Derived.Stop.LaidErr
import Derived.Test.YtmgimkokmlcllaaGreatDoorPkPlain
import Derived.Test.YtmgimkokmlcllaaGreatDoorPkVrs
import Derived.Test.YtmgimkokmlcllaaGreatDoorPkShelf
namespace Go.Proofs.YtmgimkokmlcllaaGreatDoor
open Go.RowKit

theorem tabIs_of_mem {laid : List (String × DataW Unit)} {W : World} {name : String} {k : IntKind} {zs : List Int} {g : Nat} {t e : TypeId} {n : Nat}
    (hg : Tryz.prog.globalNamed name = some g) (hty : (Tryz.prog.globals[g]?).map (·.type) = some t) (ht : Tryz.prog.underlying t = some (.array n e)) (he : Tryz.prog.underlying e = some (.int k)) (hce : Tryz.prog.cellsOf e = 1) (hct : Tryz.prog.cellsOf t = n)
    (h : laidMet Tryz.prog laid W) (hm : (name, Lib.tabData k zs) ∈ laid) : Lib.TabIs Tryz.prog W name k zs := by
  induction laid with
  | nil => cases hm
  | cons x r ih =>
    rcases List.mem_cons.mp hm with hx | hx
    · subst hx
      exact Lib.tabIs_of_head hg hty ht he hce hct h
    · exact ih h.tail hx
end Go.Proofs.YtmgimkokmlcllaaGreatDoor

/-
  The library's table of powers of ten, as a fact on a world that later worlds keep; and strconv.FormatInt at base 10, by a number's digits.
-/
namespace Go.Proofs.YtmgimkokmlcllaaGreatDoor
open Go.RowKit

def Tab (w : World) : Prop := Lib.TabBelow Tryz.prog w.heap.size w "internal/strconv.uint64pow10" .u64 Lib.pow10Tab
theorem Tab.step {w w' : World} (h : Tab w) (hb : Below w.heap.size w w') : Tab w' := fun x hx => h x (below_step hb hx)

theorem dec_digits (n : Nat) : (⟨(Lib.decDigits n).toArray⟩ : ByteArray) = strOfNums (dec n) := by
  have key : ∀ n : Nat, Lib.decDigits n = (dec n).map fun z => UInt8.ofNat z.toNat := by
    intro n
    induction n using Nat.strongRecOn with
    | _ n ih =>
      by_cases h : n < 10
      · rw [dec_small h, Lib.decDigits_one h]
        simp only [List.map_cons, List.map_nil]
        rw [show (48 + (n : Int)).toNat = 48 + n by omega]
      · rw [dec_big h, Lib.decDigits, dif_neg h, ih (n / 10) (by omega), List.map_append]
        simp only [List.map_cons, List.map_nil]
        rw [show (48 + ((n % 10 : Nat) : Int)).toNat = 48 + n % 10 by omega]
  unfold strOfNums
  rw [key]

theorem fmt_any (n : Int) (w : World) (h0 : 0 ≤ n) (h1 : n ≤ 9223372036854775807) (hT : Tab w) :
    Calls Tryz.prog 104 #[.int .i64 n, .int .i64 10] w fun e w' => e = .returned (.string (strOfNums (dec n.toNat))) ∧ Below w.heap.size w w' := by
  refine (Tryz.strconv_FormatInt_10 n (by omega) h1 w hT.here).mono ?_
  rintro e w' ⟨rfl, k, os, rfl⟩
  refine ⟨?_, Lib.below_grow _ w (Nat.le_refl _) k os⟩
  obtain ⟨N, rfl⟩ : ∃ N : Nat, n = N := ⟨n.toNat, by omega⟩
  rw [Lib.itoa_nonneg, Int.toNat_natCast, dec_digits]

theorem tab_of_laid {laid : List (String × DataW Unit)} {W : World} (h : laidMet Tryz.prog laid W) (hm : ("internal/strconv.uint64pow10", Lib.tabData .u64 Lib.pow10Tab) ∈ laid) : Tab W :=
  Lib.tabBelow_of_tabIs (tabIs_of_mem (g := 5) (t := 196) (e := 57) (n := 20) (by kernel_rfl) (by kernel_rfl) Tryz.underlying196 Tryz.underlying57 (by kernel_rfl) (by kernel_rfl) h hm)

end Go.Proofs.YtmgimkokmlcllaaGreatDoor

/-
  What package scan's calls lean on beside their arguments: the library's tables of a rune's first bytes, of the places of single bits, and of powers of ten.
-/
namespace Go.Proofs.YtmgimkokmlcllaaGreatDoor
open Go.RowKit

def deTab : List Int := [0, 1, 56, 2, 57, 49, 28, 3, 61, 58, 42, 50, 38, 29, 17, 4, 62, 47, 59, 36, 45, 43, 51, 22, 53, 39, 33, 30, 24, 18, 12, 5, 63, 55, 48, 27, 60, 41, 37, 16, 46, 35, 44, 21, 52, 32, 23, 11, 54, 26, 40, 15, 34, 20, 31, 10, 25, 14, 19, 9, 13, 8, 7, 6]
def DeB (w : World) : Prop := Lib.TabBelow Tryz.prog w.heap.size w "math/bits.deBruijn64tab" .u8 deTab
theorem DeB.step {w w' : World} (h : DeB w) (hb : Below w.heap.size w w') : DeB w' := fun x hx => h x (below_step hb hx)
theorem DeB.four {w : World} (h : DeB w) : w.cell? ⟨7, 15, none⟩ = some (.int .u8 4) := by
  have hg : Tryz.prog.globalNamed "math/bits.deBruijn64tab" = some 7 := by kernel_rfl
  exact h.here.cell hg 15 (by decide)
def Utf (w : World) : Prop := Lib.Utf8Tabs 0 1 w
theorem Utf.step {w w' : World} (h : Utf w) (hb : Below w.heap.size w w') : Utf w' := Utf8Tabs_below h hb
theorem deb_of_laid {laid : List (String × DataW Unit)} {W : World} (h : laidMet Tryz.prog laid W) (hm : ("math/bits.deBruijn64tab", Lib.tabData .u8 deTab) ∈ laid) : DeB W :=
  Lib.tabBelow_of_tabIs (tabIs_of_mem (g := 7) (t := 207) (e := 5) (n := 64) (by kernel_rfl) (by kernel_rfl) Tryz.underlying207 Tryz.underlying5 (by kernel_rfl) (by kernel_rfl) h hm)
theorem utf_of_laid {laid : List (String × DataW Unit)} {W : World} (h : laidMet Tryz.prog laid W) (h3 : ("unicode/utf8.first", Lib.firstData) ∈ laid) (h4 : ("unicode/utf8.acceptRanges", Lib.acceptData) ∈ laid) : Utf W :=
  Tryz.utf8_tabs (Lib.laidMet.reads h h3) (Lib.laidMet.reads h h4)

def Env (w : World) : Prop := Utf w
theorem Env.step {w w' : World} (h : Env w) (hb : Below w.heap.size w w') : Env w' := Utf.step h hb
theorem Env.utf {w : World} (h : Env w) : Utf w := h
def EnvQ (w : World) : Prop := DeB w ∧ Utf w ∧ Tab w
theorem EnvQ.step {w w' : World} (h : EnvQ w) (hb : Below w.heap.size w w') : EnvQ w' := ⟨h.1.step hb, h.2.1.step hb, Tab.step h.2.2 hb⟩
theorem EnvQ.deb {w : World} (h : EnvQ w) : DeB w := h.1
theorem EnvQ.lo {w : World} (h : EnvQ w) : Env w := h.2.1
theorem EnvQ.tab {w : World} (h : EnvQ w) : Tab w := h.2.2

end Go.Proofs.YtmgimkokmlcllaaGreatDoor
