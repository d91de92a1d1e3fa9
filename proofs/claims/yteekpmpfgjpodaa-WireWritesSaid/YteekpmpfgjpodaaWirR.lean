/-
  The statement WireReads, walked: over the contracts of package wire's calls.
-/
import Derived.Test.YteekpmpfgjpodaaWirW
import Derived.Deep.DeepCutAuto
import Derived.Deep.CutBlock
import Derived.Deep.CutRange
namespace Go.Proofs.Yteekpmpfgjpodaa
open Go.RowKit

/-- The value is a slice of things that reads as the list. -/
def ThingsIs (w : World) (v : Value) (l : List (Int × Int)) : Prop :=
  ∃ a cap, v = .slice a l.length cap ∧ l.length ≤ cap ∧ ∀ i, i < l.length → ∃ b off, a = some ⟨b, off, none⟩ ∧ w.cell? ⟨b, off + i * 2, none⟩ = some (.int .i64 (l.getD i (0, 0)).1) ∧ w.cell? ⟨b, off + i * 2 + 1, none⟩ = some (.int .i64 (l.getD i (0, 0)).2)
theorem ThingsIs.below {w w' : World} {v : Value} {l : List (Int × Int)} (h : ThingsIs w v l) (hb : Below w.heap.size w w') : ThingsIs w' v l := by
  obtain ⟨a, cap, rfl, hc, hcell⟩ := h
  refine ⟨a, cap, rfl, hc, fun i hi => ?_⟩
  obtain ⟨b, off, rfl, h1, h2⟩ := hcell i hi
  have hlt := World.block_lt_of_cell? _ _ h1
  exact ⟨b, off, rfl, (hb.cell (p := ⟨b, off + i * 2, none⟩) hlt).trans h1, (hb.cell (p := ⟨b, off + i * 2 + 1, none⟩) hlt).trans h2⟩
theorem RdrIs.alloc {W : World} {hi r : Nat} {st : Option (List Int)} (h : RdrIs W hi r st) (o : Obj) : RdrIs (W.alloc o) hi r st :=
  h.kept (fun i hi' => ((Below.refl W.heap.size W).alloc (Nat.le_refl _) o).block i (by have := h.lt.2; omega)) (by simp)
theorem RdrIs.set {W : World} {hi r : Nat} {st : Option (List Int)} (h : RdrIs W hi r st) {p : Addr} (hp : hi ≤ p.block) (v : Value) : RdrIs (W.setCell p v) hi r st :=
  h.kept (fun i hi' => Below.heap_setCell _ _ _ _ (by omega)) (by simp)
theorem RdrIs.after {W W' : World} {hi r : Nat} {st : Option (List Int)} (h : RdrIs W hi r st) (hb : Below W.heap.size W W') : RdrIs W' hi r st :=
  h.kept (fun i hi' => hb.block i (by have := h.lt.2; omega)) hb.size

set_option maxRecDepth 100000 in
set_option maxHeartbeats 4000000 in
theorem wirreads_long (v u : Value) (B : List Int) (l : List (Int × Int)) (w : World) (hv : BytesIs w v B) (hu : ThingsIs w u l) (h : 1000 < B.length ∨ 60 < l.length) :
    Calls Try.prog 4 #[v, u] w fun e w' => e = .returned (.bool true) ∧ Below w.heap.size w w' := by
  obtain ⟨a, cap, rfl, _, _⟩ := hv
  obtain ⟨c, cap2, rfl, _, _⟩ := hu
  by_cases h1 : 1000 < B.length
  · have h1i : (1000 : Int) < (B.length : Int) := by omega
    clear h
    go_enter Try.func4, Try.ntmps4
    go_wp2_with (go_at_call 6; (with_reducible refine (wir_awake _).mono ?_); rintro e w1 ⟨rfl, g⟩)
    go_ret
    exact ⟨rfl, g⟩
  · have h1i : ¬ (1000 : Int) < (B.length : Int) := by omega
    have h2i : (60 : Int) < (l.length : Int) := by omega
    clear h
    go_enter Try.func4, Try.ntmps4
    go_wp2_with (go_at_call 6; (with_reducible refine (wir_awake _).mono ?_); rintro e w1 ⟨rfl, g⟩)
    go_ret
    exact ⟨rfl, g⟩

theorem rwget_yes {v : Value} {B q : List Int} {at_ : Nat} {kind most : Int} {g : GotV} (w : World) (hv : BytesIs w v B) (hb : ∀ z ∈ B, 0 ≤ z ∧ z ≤ 255) (ha : at_ ≤ B.length) (hB : B.length ≤ 1000) (hm : -9223372036854775808 ≤ most ∧ most ≤ 9223372036854775807) (h : takeT kind most (B.drop at_) = some (g, q)) :
    Calls Try.prog 23 #[v, .int .i64 at_, .agg #[.int .i64 kind, .int .i64 most]] w fun e w' => e = .returned (.tuple #[.agg #[.int .u64 g.n, .int .i64 g.i, .string g.s, .bool g.f], .int .i64 ((B.length - q.length : Nat) : Int), .bool true]) ∧ Below w.heap.size w w' ∧ B.drop (B.length - q.length) = q := by
  refine (rwget_is v B at_ kind most w hv hb (by omega) (by omega) hm.1 hm.2).mono ?_
  rintro e w' ⟨hbel, ⟨g', q', h', _, hd, rfl⟩ | ⟨h', _⟩⟩
  · rw [h] at h'
    simp only [Option.some.injEq, Prod.mk.injEq] at h'
    obtain ⟨rfl, rfl⟩ := h'
    exact ⟨rfl, hbel, hd⟩
  · rw [h] at h'; cases h'
theorem rwget_no {v : Value} {B : List Int} {at_ : Nat} {kind most : Int} (w : World) (hv : BytesIs w v B) (hb : ∀ z ∈ B, 0 ≤ z ∧ z ≤ 255) (ha : at_ ≤ B.length) (hB : B.length ≤ 1000) (hm : -9223372036854775808 ≤ most ∧ most ≤ 9223372036854775807) (h : takeT kind most (B.drop at_) = none) :
    Calls Try.prog 23 #[v, .int .i64 at_, .agg #[.int .i64 kind, .int .i64 most]] w fun e w' => (∃ (a b : Int) (c : ByteArray) (d : Bool) (n : Int), e = .returned (.tuple #[.agg #[.int .u64 a, .int .i64 b, .string c, .bool d], .int .i64 n, .bool false])) ∧ Below w.heap.size w w' := by
  refine (rwget_is v B at_ kind most w hv hb (by omega) (by omega) hm.1 hm.2).mono ?_
  rintro e w' ⟨hbel, ⟨g', q', h', _⟩ | ⟨_, a, b, c, d, n, rfl⟩⟩
  · rw [h] at h'; cases h'
  · exact ⟨⟨a, b, c, d, n, rfl⟩, hbel⟩
theorem endC_all {B : List Int} : endC (some (B.drop B.length)) = 0 := by rw [List.drop_length]; rfl
theorem endC_some {B : List Int} {a : Nat} (h : a < B.length) : endC (some (B.drop a)) = 10 := by
  rw [drop_cons h]; rfl

theorem Var4.put4 {W : World} {p : Nat} {x y z u : Value} (k : Var4 W p x y z u) (a b c d : Value) : Var4 ((((W.setCell ⟨p, 0, none⟩ a).setCell ⟨p, 1, none⟩ b).setCell ⟨p, 2, none⟩ c).setCell ⟨p, 3, none⟩ d) p a b c d := by
  obtain ⟨c0, c1, c2, c3, q0, q1, q2, q3, s⟩ := k
  refine ⟨?_, ?_, ?_, ?_, by simp only [World.frozen?_setCell]; exact q0, by simp only [World.frozen?_setCell]; exact q1, by simp only [World.frozen?_setCell]; exact q2, by simp only [World.frozen?_setCell]; exact q3, by simpa using s⟩
  · rw [World.cell?_setCell_other _ _ _ _ (by simp), World.cell?_setCell_other _ _ _ _ (by simp), World.cell?_setCell_other _ _ _ _ (by simp)]
    exact World.cell?_setCell_same _ _ _ c0
  · rw [World.cell?_setCell_other _ _ _ _ (by simp), World.cell?_setCell_other _ _ _ _ (by simp)]
    exact World.cell?_setCell_same _ _ _ (by rw [World.cell?_setCell_other _ _ _ _ (by simp)]; exact c1)
  · rw [World.cell?_setCell_other _ _ _ _ (by simp)]
    exact World.cell?_setCell_same _ _ _ (by rw [World.cell?_setCell_other _ _ _ _ (by simp), World.cell?_setCell_other _ _ _ _ (by simp)]; exact c2)
  · exact World.cell?_setCell_same _ _ _ (by rw [World.cell?_setCell_other _ _ _ _ (by simp), World.cell?_setCell_other _ _ _ _ (by simp), World.cell?_setCell_other _ _ _ _ (by simp)]; exact c3)
theorem readT_num {most : Int} {st st2 : Option (List Int)} {g : GotV} (h : readT 0 most st = (g, st2)) : ∃ n, g = { n := n } := by
  cases st with
  | none => cases h; exact ⟨0, rfl⟩
  | some R =>
    cases ht : takeT 0 most R with
    | none => rw [readT_fail ht] at h; cases h; exact ⟨0, rfl⟩
    | some p => obtain ⟨g', q⟩ := p; rw [readT_some ht] at h; cases h; exact ⟨_, takeT_num ht⟩
theorem readT_int {most : Int} {st st2 : Option (List Int)} {g : GotV} (h : readT 1 most st = (g, st2)) : ∃ n, g = { i := n } := by
  cases st with
  | none => cases h; exact ⟨0, rfl⟩
  | some R =>
    cases ht : takeT 1 most R with
    | none => rw [readT_fail ht] at h; cases h; exact ⟨0, rfl⟩
    | some p => obtain ⟨g', q⟩ := p; rw [readT_some ht] at h; cases h; exact ⟨_, takeT_int ht⟩
theorem readT_text {most : Int} {st st2 : Option (List Int)} {g : GotV} (h : readT 2 most st = (g, st2)) : ∃ n, g = { s := n } := by
  cases st with
  | none => cases h; exact ⟨⟨#[]⟩, rfl⟩
  | some R =>
    cases ht : takeT 2 most R with
    | none => rw [readT_fail ht] at h; cases h; exact ⟨⟨#[]⟩, rfl⟩
    | some p => obtain ⟨g', q⟩ := p; rw [readT_some ht] at h; cases h; exact ⟨_, takeT_text ht⟩
theorem readT_flag {most : Int} {st st2 : Option (List Int)} {g : GotV} (h : readT 3 most st = (g, st2)) : ∃ n, g = { f := n } := by
  cases st with
  | none => cases h; exact ⟨false, rfl⟩
  | some R =>
    cases ht : takeT 3 most R with
    | none => rw [readT_fail ht] at h; cases h; exact ⟨false, rfl⟩
    | some p => obtain ⟨g', q⟩ := p; rw [readT_some ht] at h; cases h; exact ⟨_, takeT_flag ht⟩
theorem readT_count {most : Int} {st st2 : Option (List Int)} {g : GotV} (h : readT 4 most st = (g, st2)) (hm : most ≤ 9223372036854775807) : ∃ n : Nat, g = { n := n } ∧ (n : Int) ≤ 9223372036854775807 := by
  cases st with
  | none => cases h; exact ⟨0, rfl, by decide⟩
  | some R =>
    cases ht : takeT 4 most R with
    | none => rw [readT_fail ht] at h; cases h; exact ⟨0, rfl, by decide⟩
    | some p => obtain ⟨g', q⟩ := p; rw [readT_some ht] at h; cases h; exact ⟨_, takeT_count ht hm⟩
theorem readT_most {kind : Int} (h : kind = 0 ∨ kind = 1 ∨ kind = 3) (m m' : Int) (st : Option (List Int)) : readT kind m st = readT kind m' st := by
  cases st with
  | none => rfl
  | some R => simp only [readT, takeT_most h m m' R]
theorem rdnum_is {W : World} (hi r : Nat) {st st2 : Option (List Int)} {most : Int} {n : Nat} (h : RdrIs W hi r st) (hr : readT 0 most st = ({ n := n }, st2)) : Calls Try.prog 16 #[.pointer (some ⟨r, 0, none⟩)] W (GivesT hi r (.int .u64 n) st2 W) := by
  have k := rdnum_any hi r st W h
  rw [readT_most (Or.inl rfl) 0 most, hr] at k
  exact k
theorem rdint_is {W : World} (hi r : Nat) {st st2 : Option (List Int)} {most : Int} {n : Int} (h : RdrIs W hi r st) (hr : readT 1 most st = ({ i := n }, st2)) : Calls Try.prog 17 #[.pointer (some ⟨r, 0, none⟩)] W (GivesT hi r (.int .i64 n) st2 W) := by
  have k := rdint_any hi r st W h
  rw [readT_most (Or.inr (Or.inl rfl)) 0 most, hr] at k
  exact k
theorem rdflag_is {W : World} (hi r : Nat) {st st2 : Option (List Int)} {most : Int} {n : Bool} (h : RdrIs W hi r st) (hr : readT 3 most st = ({ f := n }, st2)) : Calls Try.prog 20 #[.pointer (some ⟨r, 0, none⟩)] W (GivesT hi r (.bool n) st2 W) := by
  have k := rdflag_any hi r st W h
  rw [readT_most (Or.inr (Or.inr rfl)) 0 most, hr] at k
  exact k
theorem rdtext_is {W : World} (hi r : Nat) {st st2 : Option (List Int)} {most : Int} {n : ByteArray} (h : RdrIs W hi r st) (hr : readT 2 most st = ({ s := n }, st2)) (hm : -9223372036854775808 ≤ most ∧ most ≤ 9223372036854775807) : Calls Try.prog 18 #[.pointer (some ⟨r, 0, none⟩), .int .i64 most] W (GivesT hi r (.string n) st2 W) := by
  have k := rdtext_any hi r st most W h hm.1 hm.2
  rw [hr] at k
  exact k
theorem rdcount_is {W : World} (hi r : Nat) {st st2 : Option (List Int)} {most : Int} {n : Nat} (h : RdrIs W hi r st) (hr : readT 4 most st = ({ n := n }, st2)) (hm : -9223372036854775808 ≤ most ∧ most ≤ 9223372036854775807) : Calls Try.prog 24 #[.pointer (some ⟨r, 0, none⟩), .int .i64 most] W (GivesT hi r (.int .i64 n) st2 W) := by
  have k := rdcount_any hi r st most W h hm.1 hm.2
  rw [hr] at k
  exact k
/-- Where the reader stands, and where the document's own answer does. -/
def StAt (B : List Int) (at_ : Nat) : Bool → Option (List Int)
  | true => some (B.drop at_)
  | false => none
theorem st_facts (B : List Int) (a : Nat) (good : Bool) : (StAt B a good).isNone = !good ∧ leftN (StAt B a good) = if good then B.length - a else 0 := by
  cases good with
  | true => exact ⟨rfl, List.length_drop⟩
  | false => exact ⟨rfl, rfl⟩
set_option maxRecDepth 100000 in
set_option maxHeartbeats 8000000 in
theorem wirreads_main (v u : Value) (B : List Int) (l : List (Int × Int)) (w : World) (hv : BytesIs w v B) (hb : ∀ z ∈ B, 0 ≤ z ∧ z ≤ 255) (hu : ThingsIs w u l) (h1 : B.length ≤ 1000) (h2 : l.length ≤ 60) (hl : ∀ x ∈ l, (-9223372036854775808 ≤ x.1 ∧ x.1 ≤ 9223372036854775807) ∧ (-9223372036854775808 ≤ x.2 ∧ x.2 ≤ 9223372036854775807)) :
    Calls Try.prog 4 #[v, u] w fun e w' => e = .returned (.bool true) ∧ Below w.heap.size w w' := by
  have HV := Lib.hid hv
  have HU := Lib.hid hu
  obtain ⟨a, cap, rfl, _, _⟩ := hv
  obtain ⟨c, cap2, rfl, _, _⟩ := hu
  have h1i : ¬ (1000 : Int) < (B.length : Int) := by omega
  have h2i : ¬ (60 : Int) < (l.length : Int) := by omega
  go_enter Try.func4, Try.ntmps4
  go_wp2_with (first
    | (go_at_call 6; (with_reducible refine (wir_awake _).mono ?_); rintro e w1 ⟨rfl, g⟩; have DD := Lib.hid g; clear g)
    | (go_at_call 15; (with_reducible refine (wnew_any _ B _ (HV.out.below DD.out) hb (by omega)).mono ?_); rintro e w2 ⟨r, hi, rfl, hr, hR, g⟩; have HR := Lib.hid hR; have hle := Nat.le_trans DD.out.size hr; have DE := Lib.hid (below_step DD.out g); clear hR g hr))
  go_loopw [6, 7, 8] (fun v6 v7 v8 wr => ∃ (at_ k : Nat) (good : Bool), at_ ≤ B.length ∧ k ≤ l.length ∧ v6 = .int .i64 at_ ∧ v7 = .bool good ∧ v8 = .int .i64 k ∧ RdrIs wr hi r (StAt B at_ good) ∧ Below w.heap.size w wr) (fun _ _ v8 _ => 100 - (intOf v8).toNat)
  case atStart => exact ⟨0, 0, true, Nat.zero_le _, Nat.zero_le _, rfl, rfl, rfl, HR.out, DE.out⟩
  case round =>
    obtain ⟨at_, k, good, ha, hk, rfl, rfl, rfl, hR, hB⟩ := hrel
    have HR2 := Lib.hid hR
    have HB := Lib.hid hB
    have hrlt := hR.lt
    clear hR
    by_cases hkl : k < l.length
    · have hkli : (k : Int) < (l.length : Int) := by omega
      obtain ⟨kind, most, hkm⟩ : ∃ kind most, l.getD k (0, 0) = (kind, most) := ⟨_, _, rfl⟩
      have hbd := hl (l.getD k (0, 0)) (by rw [List.getD_eq_getElem?_getD, List.getElem?_eq_getElem hkl]; exact List.getElem_mem _)
      rw [hkm] at hbd
      obtain ⟨⟨kd0, kd1⟩, m01⟩ := hbd
      have hth : ∃ b off, c = some ⟨b, off, none⟩ ∧ b < w.heap.size ∧ w.cell? ⟨b, off + k * 2, none⟩ = some (.int .i64 kind) ∧ w.cell? ⟨b, off + k * 2 + 1, none⟩ = some (.int .i64 most) := by
        obtain ⟨a', cap', he, _, hcell⟩ := HU.out
        simp only [Value.slice.injEq] at he
        obtain ⟨rfl, _, _⟩ := he
        obtain ⟨b, off, rfl, q1, q2⟩ := hcell k hkl
        rw [hkm] at q1 q2
        exact ⟨b, off, rfl, World.block_lt_of_cell? _ _ q1, q1, q2⟩
      obtain ⟨bb, off, rfl, hbb, q1, q2⟩ := hth
      have cA : ∀ o, (wr.alloc o).cell? ⟨bb, off + k * 2, none⟩ = some (.int .i64 kind) := fun o => ((HB.out.alloc HB.out.size o).cell (p := ⟨bb, off + k * 2, none⟩) hbb).trans q1
      have cB : ∀ o, (wr.alloc o).cell? ⟨bb, off + k * 2 + 1, none⟩ = some (.int .i64 most) := fun o => ((HB.out.alloc HB.out.size o).cell (p := ⟨bb, off + k * 2 + 1, none⟩) hbb).trans q2
      have HW := Lib.hid (Var4.fresh wr (.int .u64 0) (.int .i64 0) (.string ⟨#[]⟩) (.bool false) 44 _ rfl)
      go_upto_if 35 with fail
      go_cut [6, 7] from 28 to 115 (fun v6 v7 wx => ∃ (at2 : Nat) (good2 : Bool) (g : GotV), v6 = .int .i64 at2 ∧ v7 = .bool good2 ∧ at2 ≤ B.length ∧ readT kind most (StAt B at_ good) = (g, StAt B at2 good2) ∧ Var4 wx wr.heap.size (.int .u64 g.n) (.int .i64 g.i) (.string g.s) (.bool g.f) ∧ RdrIs wx hi r (StAt B at_ good) ∧ Below w.heap.size w wx)
      case first =>
        cases good with
        | true =>
          cases ht : takeT kind most (B.drop at_) with
          | some p =>
            obtain ⟨g, q⟩ := p
            replace ht := Lib.hid ht
            go_wp2_with (first
              | (go_at_call 23; (with_reducible refine (rwget_yes _ (HV.out.below (below_more HB.out _)) hb ha h1 m01 ht.out).mono ?_); rintro e w3 ⟨rfl, g3, hd⟩; have HW3 := Lib.hid (HW.out.after g3); have HR3 := Lib.hid ((HR2.out.alloc _).after g3); have HB3 := Lib.hid (below_step (below_more HB.out _) g3); have v0 : ∀ o, (w3.alloc o).cell? ⟨wr.heap.size, 0, none⟩ = some (.int .u64 0) := fun o => (HW3.out.alloc o).c0; have v1 : ∀ o, (w3.alloc o).cell? ⟨wr.heap.size, 1, none⟩ = some (.int .i64 0) := fun o => (HW3.out.alloc o).c1; have v2 : ∀ o, (w3.alloc o).cell? ⟨wr.heap.size, 2, none⟩ = some (.string ⟨#[]⟩) := fun o => (HW3.out.alloc o).c2; have v3 : ∀ o, (w3.alloc o).cell? ⟨wr.heap.size, 3, none⟩ = some (.bool false) := fun o => (HW3.out.alloc o).c3; have f0 : ∀ o, (w3.alloc o).frozen? ⟨wr.heap.size, 0, none⟩ = false := fun o => (HW3.out.alloc o).q0; have f1 : ∀ o, (w3.alloc o).frozen? ⟨wr.heap.size, 1, none⟩ = false := fun o => (HW3.out.alloc o).q1; have f2 : ∀ o, (w3.alloc o).frozen? ⟨wr.heap.size, 2, none⟩ = false := fun o => (HW3.out.alloc o).q2; have f3 : ∀ o, (w3.alloc o).frozen? ⟨wr.heap.size, 3, none⟩ = false := fun o => (HW3.out.alloc o).q3; clear g3))
            go_meet
            have hdl : StAt B (B.length - q.length) true = some q := by unfold StAt; rw [hd]
            exact ⟨B.length - q.length, true, g, rfl, rfl, Nat.sub_le _ _, by rw [hdl]; exact readT_some ht.out, (HW3.out.alloc _).put4 _ _ _ _, ((((HR3.out.alloc _).set hrlt.2 _).set hrlt.2 _).set hrlt.2 _).set hrlt.2 _, ((((below_more HB3.out _).setCell HB.out.size _).setCell HB.out.size _).setCell HB.out.size _).setCell HB.out.size _⟩
          | none =>
            replace ht := Lib.hid ht
            go_wp2_with (first
              | (go_at_call 23; (with_reducible refine (rwget_no _ (HV.out.below (below_more HB.out _)) hb ha h1 m01 ht.out).mono ?_); rintro e w3 ⟨⟨x1, x2, x3, x4, x5, rfl⟩, g3⟩; have HW3 := Lib.hid (HW.out.after g3); have HR3 := Lib.hid ((HR2.out.alloc _).after g3); have HB3 := Lib.hid (below_step (below_more HB.out _) g3); clear g3))
            go_meet
            exact ⟨at_, false, {}, rfl, rfl, ha, readT_fail ht.out, HW3.out.alloc _, HR3.out.alloc _, below_more HB3.out _⟩
        | false =>
          go_wp2
          go_meet
          exact ⟨at_, false, {}, rfl, rfl, ha, rfl, HW.out, HR2.out.alloc _, below_more HB.out _⟩
      case rest =>
        -- KINDS
        obtain ⟨at2, good2, g, rfl, rfl, ha2, hrt, hW, hR, hB2⟩ := hcut
        have HWc := Lib.hid hW
        have HRc := Lib.hid hR
        have HBc := Lib.hid hB2
        have hrt := Lib.hid hrt
        have hsz := hW.s
        have hrc := hR.lt
        clear hW hR hB2 cA cB
        have cA : ∀ o, (wc.alloc o).cell? ⟨bb, off + k * 2, none⟩ = some (.int .i64 kind) := fun o => ((HBc.out.alloc HBc.out.size o).cell (p := ⟨bb, off + k * 2, none⟩) hbb).trans q1
        have cB : ∀ o, (wc.alloc o).cell? ⟨bb, off + k * 2 + 1, none⟩ = some (.int .i64 most) := fun o => ((HBc.out.alloc HBc.out.size o).cell (p := ⟨bb, off + k * 2 + 1, none⟩) hbb).trans q2
        have HG := Lib.hid (Var4.fresh wc (.int .u64 0) (.int .i64 0) (.string ⟨#[]⟩) (.bool false) 44 _ rfl)
        have HWa := Lib.hid (HWc.out.alloc (.cells #[.int .u64 0, .int .i64 0, .string ⟨#[]⟩, .bool false] 44))
        have HRa := Lib.hid (HRc.out.alloc (.cells #[.int .u64 0, .int .i64 0, .string ⟨#[]⟩, .bool false] 44))
        have HBa := Lib.hid (below_more HBc.out (.cells #[.int .u64 0, .int .i64 0, .string ⟨#[]⟩, .bool false] 44))
        have hn1 : ¬ wr.heap.size = wc.heap.size := by omega
        have hn2 : ¬ wc.heap.size = wr.heap.size := by omega
        have hp1 : wr.heap.size ≠ r := by omega
        have hp3 : wc.heap.size ≠ r := by omega
        have hBs : w.heap.size ≤ wc.heap.size := HBc.out.size
        by_cases n1 : kind = 1
        · subst n1
          obtain ⟨X, rfl⟩ := readT_int hrt.out
          obtain ⟨bd, lf⟩ : (StAt B at2 good2).isNone = !good2 ∧ leftN (StAt B at2 good2) = if good2 then B.length - at2 else 0 := st_facts B at2 good2
          have hCB := Lib.hid (fun w' (h : RdrIs w' hi r (StAt B at2 good2)) => rdbad_any hi r _ w' h)
          have hCL := Lib.hid (fun w' (h : RdrIs w' hi r (StAt B at2 good2)) => rdleft_any hi r _ w' h)
          rw [bd] at hCB
          rw [lf] at hCL
          clear bd lf
          have hCR := Lib.hid (fun w' (h : RdrIs w' hi r (StAt B at_ good)) => rdint_is hi r h hrt.out)
          cases good2 with
          | true =>
            have hsub : (B.length : Int) - (at2 : Int) = ((B.length - at2 : Nat) : Int) := by omega
            go_wp2_with (first
              | (go_at_call 17; (with_reducible refine (hCR.out _ HRa.out).mono ?_); rintro e w5 ⟨rfl, hR5, g5⟩; have HG5 := Lib.hid (HG.out.only g5 hp3); have HW5 := Lib.hid (HWa.out.only g5 hp1); have HR5 := Lib.hid hR5; have HB5 := Lib.hid (HBa.out.trans (g5.below hle)); have hs5 := g5.size; have g0 : w5.cell? ⟨wc.heap.size, 0, none⟩ = some (.int .u64 0) := HG5.out.c0; have gf0 : w5.frozen? ⟨wc.heap.size, 0, none⟩ = false := HG5.out.q0; have x0 : w5.cell? ⟨wr.heap.size, 0, none⟩ = some (.int .u64 0) := HW5.out.c0; have g1 : w5.cell? ⟨wc.heap.size, 1, none⟩ = some (.int .i64 0) := HG5.out.c1; have gf1 : w5.frozen? ⟨wc.heap.size, 1, none⟩ = false := HG5.out.q1; have x1 : w5.cell? ⟨wr.heap.size, 1, none⟩ = some (.int .i64 X) := HW5.out.c1; have g2 : w5.cell? ⟨wc.heap.size, 2, none⟩ = some (.string ⟨#[]⟩) := HG5.out.c2; have gf2 : w5.frozen? ⟨wc.heap.size, 2, none⟩ = false := HG5.out.q2; have x2 : w5.cell? ⟨wr.heap.size, 2, none⟩ = some (.string ⟨#[]⟩) := HW5.out.c2; have g3 : w5.cell? ⟨wc.heap.size, 3, none⟩ = some (.bool false) := HG5.out.c3; have gf3 : w5.frozen? ⟨wc.heap.size, 3, none⟩ = false := HG5.out.q3; have x3 : w5.cell? ⟨wr.heap.size, 3, none⟩ = some (.bool false) := HW5.out.c3; clear hR5 g5)
              | (go_at_call 21; (with_reducible refine (hCB.out _ (HR5.out.set (p := ⟨wc.heap.size, 1, none⟩) (Nat.le_trans hrlt.2 (Nat.le_of_lt hsz)) _)).mono ?_); rintro e w6 ⟨rfl, hR6, g6⟩; have HR6 := Lib.hid hR6; have HB6 := Lib.hid ((HB5.out.setCell (p := ⟨wc.heap.size, 1, none⟩) hBs _).trans (g6.below hle)); clear hR6 g6)
              | (go_at_call 19; (with_reducible refine (hCL.out _ HR6.out).mono ?_); rintro e w7 ⟨rfl, hR7, g7⟩; have HR7 := Lib.hid hR7; have HB7 := Lib.hid (HB6.out.trans (g7.below hle)); clear hR7 g7))
            go_roundw
            case rel => exact ⟨at2, k + 1, true, ha2, hkl, rfl, rfl, by go_num, HR7.out, HB7.out⟩
            case measure => simp [intOf]; omega
          | false =>
            go_wp2_with (first
              | (go_at_call 17; (with_reducible refine (hCR.out _ HRa.out).mono ?_); rintro e w5 ⟨rfl, hR5, g5⟩; have HG5 := Lib.hid (HG.out.only g5 hp3); have HW5 := Lib.hid (HWa.out.only g5 hp1); have HR5 := Lib.hid hR5; have HB5 := Lib.hid (HBa.out.trans (g5.below hle)); have hs5 := g5.size; have g0 : w5.cell? ⟨wc.heap.size, 0, none⟩ = some (.int .u64 0) := HG5.out.c0; have gf0 : w5.frozen? ⟨wc.heap.size, 0, none⟩ = false := HG5.out.q0; have x0 : w5.cell? ⟨wr.heap.size, 0, none⟩ = some (.int .u64 0) := HW5.out.c0; have g1 : w5.cell? ⟨wc.heap.size, 1, none⟩ = some (.int .i64 0) := HG5.out.c1; have gf1 : w5.frozen? ⟨wc.heap.size, 1, none⟩ = false := HG5.out.q1; have x1 : w5.cell? ⟨wr.heap.size, 1, none⟩ = some (.int .i64 X) := HW5.out.c1; have g2 : w5.cell? ⟨wc.heap.size, 2, none⟩ = some (.string ⟨#[]⟩) := HG5.out.c2; have gf2 : w5.frozen? ⟨wc.heap.size, 2, none⟩ = false := HG5.out.q2; have x2 : w5.cell? ⟨wr.heap.size, 2, none⟩ = some (.string ⟨#[]⟩) := HW5.out.c2; have g3 : w5.cell? ⟨wc.heap.size, 3, none⟩ = some (.bool false) := HG5.out.c3; have gf3 : w5.frozen? ⟨wc.heap.size, 3, none⟩ = false := HG5.out.q3; have x3 : w5.cell? ⟨wr.heap.size, 3, none⟩ = some (.bool false) := HW5.out.c3; clear hR5 g5)
              | (go_at_call 21; (with_reducible refine (hCB.out _ (HR5.out.set (p := ⟨wc.heap.size, 1, none⟩) (Nat.le_trans hrlt.2 (Nat.le_of_lt hsz)) _)).mono ?_); rintro e w6 ⟨rfl, hR6, g6⟩; have HR6 := Lib.hid hR6; have HB6 := Lib.hid ((HB5.out.setCell (p := ⟨wc.heap.size, 1, none⟩) hBs _).trans (g6.below hle)); clear hR6 g6)
              | (go_at_call 19; (with_reducible refine (hCL.out _ HR6.out).mono ?_); rintro e w7 ⟨rfl, hR7, g7⟩; have HR7 := Lib.hid hR7; have HB7 := Lib.hid (HB6.out.trans (g7.below hle)); clear hR7 g7))
            go_roundw
            case rel => exact ⟨at2, k + 1, false, ha2, hkl, rfl, rfl, by go_num, HR7.out, HB7.out⟩
            case measure => simp [intOf]; omega
        · have e1 : (kind == 1) = false := by simpa using n1
          by_cases n2 : kind = 2
          · subst n2
            obtain ⟨X, rfl⟩ := readT_text hrt.out
            obtain ⟨bd, lf⟩ : (StAt B at2 good2).isNone = !good2 ∧ leftN (StAt B at2 good2) = if good2 then B.length - at2 else 0 := st_facts B at2 good2
            have hCB := Lib.hid (fun w' (h : RdrIs w' hi r (StAt B at2 good2)) => rdbad_any hi r _ w' h)
            have hCL := Lib.hid (fun w' (h : RdrIs w' hi r (StAt B at2 good2)) => rdleft_any hi r _ w' h)
            rw [bd] at hCB
            rw [lf] at hCL
            clear bd lf
            have hCR := Lib.hid (fun w' (h : RdrIs w' hi r (StAt B at_ good)) => rdtext_is hi r h hrt.out m01)
            cases good2 with
            | true =>
              have hsub : (B.length : Int) - (at2 : Int) = ((B.length - at2 : Nat) : Int) := by omega
              go_wp2_with (first
                | (go_at_call 18; (with_reducible refine (hCR.out _ HRa.out).mono ?_); rintro e w5 ⟨rfl, hR5, g5⟩; have HG5 := Lib.hid (HG.out.only g5 hp3); have HW5 := Lib.hid (HWa.out.only g5 hp1); have HR5 := Lib.hid hR5; have HB5 := Lib.hid (HBa.out.trans (g5.below hle)); have hs5 := g5.size; have g0 : w5.cell? ⟨wc.heap.size, 0, none⟩ = some (.int .u64 0) := HG5.out.c0; have gf0 : w5.frozen? ⟨wc.heap.size, 0, none⟩ = false := HG5.out.q0; have x0 : w5.cell? ⟨wr.heap.size, 0, none⟩ = some (.int .u64 0) := HW5.out.c0; have g1 : w5.cell? ⟨wc.heap.size, 1, none⟩ = some (.int .i64 0) := HG5.out.c1; have gf1 : w5.frozen? ⟨wc.heap.size, 1, none⟩ = false := HG5.out.q1; have x1 : w5.cell? ⟨wr.heap.size, 1, none⟩ = some (.int .i64 0) := HW5.out.c1; have g2 : w5.cell? ⟨wc.heap.size, 2, none⟩ = some (.string ⟨#[]⟩) := HG5.out.c2; have gf2 : w5.frozen? ⟨wc.heap.size, 2, none⟩ = false := HG5.out.q2; have x2 : w5.cell? ⟨wr.heap.size, 2, none⟩ = some (.string X) := HW5.out.c2; have g3 : w5.cell? ⟨wc.heap.size, 3, none⟩ = some (.bool false) := HG5.out.c3; have gf3 : w5.frozen? ⟨wc.heap.size, 3, none⟩ = false := HG5.out.q3; have x3 : w5.cell? ⟨wr.heap.size, 3, none⟩ = some (.bool false) := HW5.out.c3; clear hR5 g5)
                | (go_at_call 21; (with_reducible refine (hCB.out _ (HR5.out.set (p := ⟨wc.heap.size, 2, none⟩) (Nat.le_trans hrlt.2 (Nat.le_of_lt hsz)) _)).mono ?_); rintro e w6 ⟨rfl, hR6, g6⟩; have HR6 := Lib.hid hR6; have HB6 := Lib.hid ((HB5.out.setCell (p := ⟨wc.heap.size, 2, none⟩) hBs _).trans (g6.below hle)); clear hR6 g6)
                | (go_at_call 19; (with_reducible refine (hCL.out _ HR6.out).mono ?_); rintro e w7 ⟨rfl, hR7, g7⟩; have HR7 := Lib.hid hR7; have HB7 := Lib.hid (HB6.out.trans (g7.below hle)); clear hR7 g7))
              go_roundw
              case rel => exact ⟨at2, k + 1, true, ha2, hkl, rfl, rfl, by go_num, HR7.out, HB7.out⟩
              case measure => simp [intOf]; omega
            | false =>
              go_wp2_with (first
                | (go_at_call 18; (with_reducible refine (hCR.out _ HRa.out).mono ?_); rintro e w5 ⟨rfl, hR5, g5⟩; have HG5 := Lib.hid (HG.out.only g5 hp3); have HW5 := Lib.hid (HWa.out.only g5 hp1); have HR5 := Lib.hid hR5; have HB5 := Lib.hid (HBa.out.trans (g5.below hle)); have hs5 := g5.size; have g0 : w5.cell? ⟨wc.heap.size, 0, none⟩ = some (.int .u64 0) := HG5.out.c0; have gf0 : w5.frozen? ⟨wc.heap.size, 0, none⟩ = false := HG5.out.q0; have x0 : w5.cell? ⟨wr.heap.size, 0, none⟩ = some (.int .u64 0) := HW5.out.c0; have g1 : w5.cell? ⟨wc.heap.size, 1, none⟩ = some (.int .i64 0) := HG5.out.c1; have gf1 : w5.frozen? ⟨wc.heap.size, 1, none⟩ = false := HG5.out.q1; have x1 : w5.cell? ⟨wr.heap.size, 1, none⟩ = some (.int .i64 0) := HW5.out.c1; have g2 : w5.cell? ⟨wc.heap.size, 2, none⟩ = some (.string ⟨#[]⟩) := HG5.out.c2; have gf2 : w5.frozen? ⟨wc.heap.size, 2, none⟩ = false := HG5.out.q2; have x2 : w5.cell? ⟨wr.heap.size, 2, none⟩ = some (.string X) := HW5.out.c2; have g3 : w5.cell? ⟨wc.heap.size, 3, none⟩ = some (.bool false) := HG5.out.c3; have gf3 : w5.frozen? ⟨wc.heap.size, 3, none⟩ = false := HG5.out.q3; have x3 : w5.cell? ⟨wr.heap.size, 3, none⟩ = some (.bool false) := HW5.out.c3; clear hR5 g5)
                | (go_at_call 21; (with_reducible refine (hCB.out _ (HR5.out.set (p := ⟨wc.heap.size, 2, none⟩) (Nat.le_trans hrlt.2 (Nat.le_of_lt hsz)) _)).mono ?_); rintro e w6 ⟨rfl, hR6, g6⟩; have HR6 := Lib.hid hR6; have HB6 := Lib.hid ((HB5.out.setCell (p := ⟨wc.heap.size, 2, none⟩) hBs _).trans (g6.below hle)); clear hR6 g6)
                | (go_at_call 19; (with_reducible refine (hCL.out _ HR6.out).mono ?_); rintro e w7 ⟨rfl, hR7, g7⟩; have HR7 := Lib.hid hR7; have HB7 := Lib.hid (HB6.out.trans (g7.below hle)); clear hR7 g7))
              go_roundw
              case rel => exact ⟨at2, k + 1, false, ha2, hkl, rfl, rfl, by go_num, HR7.out, HB7.out⟩
              case measure => simp [intOf]; omega
          · have e2 : (kind == 2) = false := by simpa using n2
            by_cases n3 : kind = 3
            · subst n3
              obtain ⟨X, rfl⟩ := readT_flag hrt.out
              obtain ⟨bd, lf⟩ : (StAt B at2 good2).isNone = !good2 ∧ leftN (StAt B at2 good2) = if good2 then B.length - at2 else 0 := st_facts B at2 good2
              have hCB := Lib.hid (fun w' (h : RdrIs w' hi r (StAt B at2 good2)) => rdbad_any hi r _ w' h)
              have hCL := Lib.hid (fun w' (h : RdrIs w' hi r (StAt B at2 good2)) => rdleft_any hi r _ w' h)
              rw [bd] at hCB
              rw [lf] at hCL
              clear bd lf
              have hCR := Lib.hid (fun w' (h : RdrIs w' hi r (StAt B at_ good)) => rdflag_is hi r h hrt.out)
              cases good2 with
              | true =>
                have hsub : (B.length : Int) - (at2 : Int) = ((B.length - at2 : Nat) : Int) := by omega
                go_wp2_with (first
                  | (go_at_call 20; (with_reducible refine (hCR.out _ HRa.out).mono ?_); rintro e w5 ⟨rfl, hR5, g5⟩; have HG5 := Lib.hid (HG.out.only g5 hp3); have HW5 := Lib.hid (HWa.out.only g5 hp1); have HR5 := Lib.hid hR5; have HB5 := Lib.hid (HBa.out.trans (g5.below hle)); have hs5 := g5.size; have g0 : w5.cell? ⟨wc.heap.size, 0, none⟩ = some (.int .u64 0) := HG5.out.c0; have gf0 : w5.frozen? ⟨wc.heap.size, 0, none⟩ = false := HG5.out.q0; have x0 : w5.cell? ⟨wr.heap.size, 0, none⟩ = some (.int .u64 0) := HW5.out.c0; have g1 : w5.cell? ⟨wc.heap.size, 1, none⟩ = some (.int .i64 0) := HG5.out.c1; have gf1 : w5.frozen? ⟨wc.heap.size, 1, none⟩ = false := HG5.out.q1; have x1 : w5.cell? ⟨wr.heap.size, 1, none⟩ = some (.int .i64 0) := HW5.out.c1; have g2 : w5.cell? ⟨wc.heap.size, 2, none⟩ = some (.string ⟨#[]⟩) := HG5.out.c2; have gf2 : w5.frozen? ⟨wc.heap.size, 2, none⟩ = false := HG5.out.q2; have x2 : w5.cell? ⟨wr.heap.size, 2, none⟩ = some (.string ⟨#[]⟩) := HW5.out.c2; have g3 : w5.cell? ⟨wc.heap.size, 3, none⟩ = some (.bool false) := HG5.out.c3; have gf3 : w5.frozen? ⟨wc.heap.size, 3, none⟩ = false := HG5.out.q3; have x3 : w5.cell? ⟨wr.heap.size, 3, none⟩ = some (.bool X) := HW5.out.c3; clear hR5 g5)
                  | (go_at_call 21; (with_reducible refine (hCB.out _ (HR5.out.set (p := ⟨wc.heap.size, 3, none⟩) (Nat.le_trans hrlt.2 (Nat.le_of_lt hsz)) _)).mono ?_); rintro e w6 ⟨rfl, hR6, g6⟩; have HR6 := Lib.hid hR6; have HB6 := Lib.hid ((HB5.out.setCell (p := ⟨wc.heap.size, 3, none⟩) hBs _).trans (g6.below hle)); clear hR6 g6)
                  | (go_at_call 19; (with_reducible refine (hCL.out _ HR6.out).mono ?_); rintro e w7 ⟨rfl, hR7, g7⟩; have HR7 := Lib.hid hR7; have HB7 := Lib.hid (HB6.out.trans (g7.below hle)); clear hR7 g7))
                go_roundw
                case rel => exact ⟨at2, k + 1, true, ha2, hkl, rfl, rfl, by go_num, HR7.out, HB7.out⟩
                case measure => simp [intOf]; omega
              | false =>
                go_wp2_with (first
                  | (go_at_call 20; (with_reducible refine (hCR.out _ HRa.out).mono ?_); rintro e w5 ⟨rfl, hR5, g5⟩; have HG5 := Lib.hid (HG.out.only g5 hp3); have HW5 := Lib.hid (HWa.out.only g5 hp1); have HR5 := Lib.hid hR5; have HB5 := Lib.hid (HBa.out.trans (g5.below hle)); have hs5 := g5.size; have g0 : w5.cell? ⟨wc.heap.size, 0, none⟩ = some (.int .u64 0) := HG5.out.c0; have gf0 : w5.frozen? ⟨wc.heap.size, 0, none⟩ = false := HG5.out.q0; have x0 : w5.cell? ⟨wr.heap.size, 0, none⟩ = some (.int .u64 0) := HW5.out.c0; have g1 : w5.cell? ⟨wc.heap.size, 1, none⟩ = some (.int .i64 0) := HG5.out.c1; have gf1 : w5.frozen? ⟨wc.heap.size, 1, none⟩ = false := HG5.out.q1; have x1 : w5.cell? ⟨wr.heap.size, 1, none⟩ = some (.int .i64 0) := HW5.out.c1; have g2 : w5.cell? ⟨wc.heap.size, 2, none⟩ = some (.string ⟨#[]⟩) := HG5.out.c2; have gf2 : w5.frozen? ⟨wc.heap.size, 2, none⟩ = false := HG5.out.q2; have x2 : w5.cell? ⟨wr.heap.size, 2, none⟩ = some (.string ⟨#[]⟩) := HW5.out.c2; have g3 : w5.cell? ⟨wc.heap.size, 3, none⟩ = some (.bool false) := HG5.out.c3; have gf3 : w5.frozen? ⟨wc.heap.size, 3, none⟩ = false := HG5.out.q3; have x3 : w5.cell? ⟨wr.heap.size, 3, none⟩ = some (.bool X) := HW5.out.c3; clear hR5 g5)
                  | (go_at_call 21; (with_reducible refine (hCB.out _ (HR5.out.set (p := ⟨wc.heap.size, 3, none⟩) (Nat.le_trans hrlt.2 (Nat.le_of_lt hsz)) _)).mono ?_); rintro e w6 ⟨rfl, hR6, g6⟩; have HR6 := Lib.hid hR6; have HB6 := Lib.hid ((HB5.out.setCell (p := ⟨wc.heap.size, 3, none⟩) hBs _).trans (g6.below hle)); clear hR6 g6)
                  | (go_at_call 19; (with_reducible refine (hCL.out _ HR6.out).mono ?_); rintro e w7 ⟨rfl, hR7, g7⟩; have HR7 := Lib.hid hR7; have HB7 := Lib.hid (HB6.out.trans (g7.below hle)); clear hR7 g7))
                go_roundw
                case rel => exact ⟨at2, k + 1, false, ha2, hkl, rfl, rfl, by go_num, HR7.out, HB7.out⟩
                case measure => simp [intOf]; omega
            · have e3 : (kind == 3) = false := by simpa using n3
              by_cases n4 : kind = 4
              · subst n4
                obtain ⟨X, rfl, hX⟩ := readT_count hrt.out m01.2
                have hXw : IntKind.u64.wrap (X : Int) = (X : Int) := by rw [IntKind.wrap_u64]; omega
                obtain ⟨bd, lf⟩ : (StAt B at2 good2).isNone = !good2 ∧ leftN (StAt B at2 good2) = if good2 then B.length - at2 else 0 := st_facts B at2 good2
                have hCB := Lib.hid (fun w' (h : RdrIs w' hi r (StAt B at2 good2)) => rdbad_any hi r _ w' h)
                have hCL := Lib.hid (fun w' (h : RdrIs w' hi r (StAt B at2 good2)) => rdleft_any hi r _ w' h)
                rw [bd] at hCB
                rw [lf] at hCL
                clear bd lf
                have hCR := Lib.hid (fun w' (h : RdrIs w' hi r (StAt B at_ good)) => rdcount_is hi r h hrt.out m01)
                cases good2 with
                | true =>
                  have hsub : (B.length : Int) - (at2 : Int) = ((B.length - at2 : Nat) : Int) := by omega
                  go_wp2_with (first
                    | (go_at_call 24; (with_reducible refine (hCR.out _ HRa.out).mono ?_); rintro e w5 ⟨rfl, hR5, g5⟩; have HG5 := Lib.hid (HG.out.only g5 hp3); have HW5 := Lib.hid (HWa.out.only g5 hp1); have HR5 := Lib.hid hR5; have HB5 := Lib.hid (HBa.out.trans (g5.below hle)); have hs5 := g5.size; have g0 : w5.cell? ⟨wc.heap.size, 0, none⟩ = some (.int .u64 0) := HG5.out.c0; have gf0 : w5.frozen? ⟨wc.heap.size, 0, none⟩ = false := HG5.out.q0; have x0 : w5.cell? ⟨wr.heap.size, 0, none⟩ = some (.int .u64 (X : Int)) := HW5.out.c0; have g1 : w5.cell? ⟨wc.heap.size, 1, none⟩ = some (.int .i64 0) := HG5.out.c1; have gf1 : w5.frozen? ⟨wc.heap.size, 1, none⟩ = false := HG5.out.q1; have x1 : w5.cell? ⟨wr.heap.size, 1, none⟩ = some (.int .i64 0) := HW5.out.c1; have g2 : w5.cell? ⟨wc.heap.size, 2, none⟩ = some (.string ⟨#[]⟩) := HG5.out.c2; have gf2 : w5.frozen? ⟨wc.heap.size, 2, none⟩ = false := HG5.out.q2; have x2 : w5.cell? ⟨wr.heap.size, 2, none⟩ = some (.string ⟨#[]⟩) := HW5.out.c2; have g3 : w5.cell? ⟨wc.heap.size, 3, none⟩ = some (.bool false) := HG5.out.c3; have gf3 : w5.frozen? ⟨wc.heap.size, 3, none⟩ = false := HG5.out.q3; have x3 : w5.cell? ⟨wr.heap.size, 3, none⟩ = some (.bool false) := HW5.out.c3; clear hR5 g5)
                    | (go_at_call 21; (with_reducible refine (hCB.out _ (HR5.out.set (p := ⟨wc.heap.size, 0, none⟩) (Nat.le_trans hrlt.2 (Nat.le_of_lt hsz)) _)).mono ?_); rintro e w6 ⟨rfl, hR6, g6⟩; have HR6 := Lib.hid hR6; have HB6 := Lib.hid ((HB5.out.setCell (p := ⟨wc.heap.size, 0, none⟩) hBs _).trans (g6.below hle)); clear hR6 g6)
                    | (go_at_call 19; (with_reducible refine (hCL.out _ HR6.out).mono ?_); rintro e w7 ⟨rfl, hR7, g7⟩; have HR7 := Lib.hid hR7; have HB7 := Lib.hid (HB6.out.trans (g7.below hle)); clear hR7 g7))
                  go_roundw
                  case rel => exact ⟨at2, k + 1, true, ha2, hkl, rfl, rfl, by go_num, HR7.out, HB7.out⟩
                  case measure => simp [intOf]; omega
                | false =>
                  go_wp2_with (first
                    | (go_at_call 24; (with_reducible refine (hCR.out _ HRa.out).mono ?_); rintro e w5 ⟨rfl, hR5, g5⟩; have HG5 := Lib.hid (HG.out.only g5 hp3); have HW5 := Lib.hid (HWa.out.only g5 hp1); have HR5 := Lib.hid hR5; have HB5 := Lib.hid (HBa.out.trans (g5.below hle)); have hs5 := g5.size; have g0 : w5.cell? ⟨wc.heap.size, 0, none⟩ = some (.int .u64 0) := HG5.out.c0; have gf0 : w5.frozen? ⟨wc.heap.size, 0, none⟩ = false := HG5.out.q0; have x0 : w5.cell? ⟨wr.heap.size, 0, none⟩ = some (.int .u64 (X : Int)) := HW5.out.c0; have g1 : w5.cell? ⟨wc.heap.size, 1, none⟩ = some (.int .i64 0) := HG5.out.c1; have gf1 : w5.frozen? ⟨wc.heap.size, 1, none⟩ = false := HG5.out.q1; have x1 : w5.cell? ⟨wr.heap.size, 1, none⟩ = some (.int .i64 0) := HW5.out.c1; have g2 : w5.cell? ⟨wc.heap.size, 2, none⟩ = some (.string ⟨#[]⟩) := HG5.out.c2; have gf2 : w5.frozen? ⟨wc.heap.size, 2, none⟩ = false := HG5.out.q2; have x2 : w5.cell? ⟨wr.heap.size, 2, none⟩ = some (.string ⟨#[]⟩) := HW5.out.c2; have g3 : w5.cell? ⟨wc.heap.size, 3, none⟩ = some (.bool false) := HG5.out.c3; have gf3 : w5.frozen? ⟨wc.heap.size, 3, none⟩ = false := HG5.out.q3; have x3 : w5.cell? ⟨wr.heap.size, 3, none⟩ = some (.bool false) := HW5.out.c3; clear hR5 g5)
                    | (go_at_call 21; (with_reducible refine (hCB.out _ (HR5.out.set (p := ⟨wc.heap.size, 0, none⟩) (Nat.le_trans hrlt.2 (Nat.le_of_lt hsz)) _)).mono ?_); rintro e w6 ⟨rfl, hR6, g6⟩; have HR6 := Lib.hid hR6; have HB6 := Lib.hid ((HB5.out.setCell (p := ⟨wc.heap.size, 0, none⟩) hBs _).trans (g6.below hle)); clear hR6 g6)
                    | (go_at_call 19; (with_reducible refine (hCL.out _ HR6.out).mono ?_); rintro e w7 ⟨rfl, hR7, g7⟩; have HR7 := Lib.hid hR7; have HB7 := Lib.hid (HB6.out.trans (g7.below hle)); clear hR7 g7))
                  go_roundw
                  case rel => exact ⟨at2, k + 1, false, ha2, hkl, rfl, rfl, by go_num, HR7.out, HB7.out⟩
                  case measure => simp [intOf]; omega
              · have e4 : (kind == 4) = false := by simpa using n4
                by_cases n0 : kind = 0
                · subst n0
                  obtain ⟨X, rfl⟩ := readT_num hrt.out
                  obtain ⟨bd, lf⟩ : (StAt B at2 good2).isNone = !good2 ∧ leftN (StAt B at2 good2) = if good2 then B.length - at2 else 0 := st_facts B at2 good2
                  have hCB := Lib.hid (fun w' (h : RdrIs w' hi r (StAt B at2 good2)) => rdbad_any hi r _ w' h)
                  have hCL := Lib.hid (fun w' (h : RdrIs w' hi r (StAt B at2 good2)) => rdleft_any hi r _ w' h)
                  rw [bd] at hCB
                  rw [lf] at hCL
                  clear bd lf
                  have hCR := Lib.hid (fun w' (h : RdrIs w' hi r (StAt B at_ good)) => rdnum_is hi r h hrt.out)
                  cases good2 with
                  | true =>
                    have hsub : (B.length : Int) - (at2 : Int) = ((B.length - at2 : Nat) : Int) := by omega
                    go_wp2_with (first
                      | (go_at_call 16; (with_reducible refine (hCR.out _ HRa.out).mono ?_); rintro e w5 ⟨rfl, hR5, g5⟩; have HG5 := Lib.hid (HG.out.only g5 hp3); have HW5 := Lib.hid (HWa.out.only g5 hp1); have HR5 := Lib.hid hR5; have HB5 := Lib.hid (HBa.out.trans (g5.below hle)); have hs5 := g5.size; have g0 : w5.cell? ⟨wc.heap.size, 0, none⟩ = some (.int .u64 0) := HG5.out.c0; have gf0 : w5.frozen? ⟨wc.heap.size, 0, none⟩ = false := HG5.out.q0; have x0 : w5.cell? ⟨wr.heap.size, 0, none⟩ = some (.int .u64 (X : Int)) := HW5.out.c0; have g1 : w5.cell? ⟨wc.heap.size, 1, none⟩ = some (.int .i64 0) := HG5.out.c1; have gf1 : w5.frozen? ⟨wc.heap.size, 1, none⟩ = false := HG5.out.q1; have x1 : w5.cell? ⟨wr.heap.size, 1, none⟩ = some (.int .i64 0) := HW5.out.c1; have g2 : w5.cell? ⟨wc.heap.size, 2, none⟩ = some (.string ⟨#[]⟩) := HG5.out.c2; have gf2 : w5.frozen? ⟨wc.heap.size, 2, none⟩ = false := HG5.out.q2; have x2 : w5.cell? ⟨wr.heap.size, 2, none⟩ = some (.string ⟨#[]⟩) := HW5.out.c2; have g3 : w5.cell? ⟨wc.heap.size, 3, none⟩ = some (.bool false) := HG5.out.c3; have gf3 : w5.frozen? ⟨wc.heap.size, 3, none⟩ = false := HG5.out.q3; have x3 : w5.cell? ⟨wr.heap.size, 3, none⟩ = some (.bool false) := HW5.out.c3; clear hR5 g5)
                      | (go_at_call 21; (with_reducible refine (hCB.out _ (HR5.out.set (p := ⟨wc.heap.size, 0, none⟩) (Nat.le_trans hrlt.2 (Nat.le_of_lt hsz)) _)).mono ?_); rintro e w6 ⟨rfl, hR6, g6⟩; have HR6 := Lib.hid hR6; have HB6 := Lib.hid ((HB5.out.setCell (p := ⟨wc.heap.size, 0, none⟩) hBs _).trans (g6.below hle)); clear hR6 g6)
                      | (go_at_call 19; (with_reducible refine (hCL.out _ HR6.out).mono ?_); rintro e w7 ⟨rfl, hR7, g7⟩; have HR7 := Lib.hid hR7; have HB7 := Lib.hid (HB6.out.trans (g7.below hle)); clear hR7 g7))
                    go_roundw
                    case rel => exact ⟨at2, k + 1, true, ha2, hkl, rfl, rfl, by go_num, HR7.out, HB7.out⟩
                    case measure => simp [intOf]; omega
                  | false =>
                    go_wp2_with (first
                      | (go_at_call 16; (with_reducible refine (hCR.out _ HRa.out).mono ?_); rintro e w5 ⟨rfl, hR5, g5⟩; have HG5 := Lib.hid (HG.out.only g5 hp3); have HW5 := Lib.hid (HWa.out.only g5 hp1); have HR5 := Lib.hid hR5; have HB5 := Lib.hid (HBa.out.trans (g5.below hle)); have hs5 := g5.size; have g0 : w5.cell? ⟨wc.heap.size, 0, none⟩ = some (.int .u64 0) := HG5.out.c0; have gf0 : w5.frozen? ⟨wc.heap.size, 0, none⟩ = false := HG5.out.q0; have x0 : w5.cell? ⟨wr.heap.size, 0, none⟩ = some (.int .u64 (X : Int)) := HW5.out.c0; have g1 : w5.cell? ⟨wc.heap.size, 1, none⟩ = some (.int .i64 0) := HG5.out.c1; have gf1 : w5.frozen? ⟨wc.heap.size, 1, none⟩ = false := HG5.out.q1; have x1 : w5.cell? ⟨wr.heap.size, 1, none⟩ = some (.int .i64 0) := HW5.out.c1; have g2 : w5.cell? ⟨wc.heap.size, 2, none⟩ = some (.string ⟨#[]⟩) := HG5.out.c2; have gf2 : w5.frozen? ⟨wc.heap.size, 2, none⟩ = false := HG5.out.q2; have x2 : w5.cell? ⟨wr.heap.size, 2, none⟩ = some (.string ⟨#[]⟩) := HW5.out.c2; have g3 : w5.cell? ⟨wc.heap.size, 3, none⟩ = some (.bool false) := HG5.out.c3; have gf3 : w5.frozen? ⟨wc.heap.size, 3, none⟩ = false := HG5.out.q3; have x3 : w5.cell? ⟨wr.heap.size, 3, none⟩ = some (.bool false) := HW5.out.c3; clear hR5 g5)
                      | (go_at_call 21; (with_reducible refine (hCB.out _ (HR5.out.set (p := ⟨wc.heap.size, 0, none⟩) (Nat.le_trans hrlt.2 (Nat.le_of_lt hsz)) _)).mono ?_); rintro e w6 ⟨rfl, hR6, g6⟩; have HR6 := Lib.hid hR6; have HB6 := Lib.hid ((HB5.out.setCell (p := ⟨wc.heap.size, 0, none⟩) hBs _).trans (g6.below hle)); clear hR6 g6)
                      | (go_at_call 19; (with_reducible refine (hCL.out _ HR6.out).mono ?_); rintro e w7 ⟨rfl, hR7, g7⟩; have HR7 := Lib.hid hR7; have HB7 := Lib.hid (HB6.out.trans (g7.below hle)); clear hR7 g7))
                    go_roundw
                    case rel => exact ⟨at2, k + 1, false, ha2, hkl, rfl, rfl, by go_num, HR7.out, HB7.out⟩
                    case measure => simp [intOf]; omega
                · have e0 : (kind == 0) = false := by simpa using n0
                  go_wp2
                  go_ret
                  exact ⟨rfl, below_more HBc.out _⟩
        -- END
    · have hkli : ¬ (k : Int) < (l.length : Int) := by omega
      cases good with
      | true =>
        by_cases hal : at_ = B.length
        · subst hal
          have hE := Lib.hid (fun w' (h : RdrIs w' hi r (StAt B B.length true)) => rdend_any hi r _ w' h)
          have he : endC (StAt B B.length true) = 0 := endC_all
          rw [he] at hE
          clear he
          go_wp2_with (first
            | (go_at_call 22; (with_reducible refine (hE.out _ HR2.out).mono ?_); rintro e w3 ⟨rfl, hR, g⟩; have HR2 := Lib.hid hR; have HB := Lib.hid (HB.out.trans (g.below hle)); clear hR g))
          go_ret
          exact ⟨rfl, HB.out⟩
        · have hE := Lib.hid (fun w' (h : RdrIs w' hi r (StAt B at_ true)) => rdend_any hi r _ w' h)
          have he : endC (StAt B at_ true) = 10 := endC_some (by omega)
          rw [he] at hE
          have hai : ((at_ : Int) == (B.length : Int)) = false := by simp; omega
          clear he
          go_wp2_with (first
            | (go_at_call 22; (with_reducible refine (hE.out _ HR2.out).mono ?_); rintro e w3 ⟨rfl, hR, g⟩; have HR2 := Lib.hid hR; have HB := Lib.hid (HB.out.trans (g.below hle)); clear hR g))
          go_ret
          exact ⟨rfl, HB.out⟩
      | false =>
        have hE := Lib.hid (fun w' (h : RdrIs w' hi r (StAt B at_ false)) => rdend_any hi r _ w' h)
        have he : endC (StAt B at_ false) = 10 := rfl
        rw [he] at hE
        clear he
        go_wp2_with (first
          | (go_at_call 22; (with_reducible refine (hE.out _ HR2.out).mono ?_); rintro e w3 ⟨rfl, hR, g⟩; have HR2 := Lib.hid hR; have HB := Lib.hid (HB.out.trans (g.below hle)); clear hR g))
        go_ret
        exact ⟨rfl, HB.out⟩

theorem wirreads_walk (v u : Value) (B : List Int) (l : List (Int × Int)) (w : World) (hv : BytesIs w v B) (hb : ∀ z ∈ B, 0 ≤ z ∧ z ≤ 255) (hu : ThingsIs w u l) (hl : ∀ x ∈ l, (-9223372036854775808 ≤ x.1 ∧ x.1 ≤ 9223372036854775807) ∧ (-9223372036854775808 ≤ x.2 ∧ x.2 ≤ 9223372036854775807)) :
    Calls Try.prog 4 #[v, u] w fun e w' => e = .returned (.bool true) ∧ Below w.heap.size w w' := by
  by_cases h : 1000 < B.length ∨ 60 < l.length
  · exact wirreads_long v u B l w hv hu h
  · exact wirreads_main v u B l w hv hb hu (by omega) (by omega) hl

end Go.Proofs.Yteekpmpfgjpodaa
