/-
  The statements of layer 10, walked over the contracts of package wal's calls: what crashes leave; Open where no fuse burns, whatever stands there; pieces of bytes.
-/
import Derived.Test.YtejelednnacnaaaGreatDoorPkWalE
import Derived.Test.YtejelednnacnaaaGreatDoorPkMarkB
import Derived.Test.YtejelednnacnaaaGreatDoorPkWalS
import Derived.Test.YtejelednnacnaaaGreatDoorPkWalT
import Derived.Test.YtejelednnacnaaaGreatDoorPkMixes
import Derived.Lib.QuietBelow
import Derived.Deep.CutBlock
import Derived.Deep.DeepCutAuto
namespace Go.Proofs.YtejelednnacnaaaGreatDoor
open Go.RowKit

theorem rec_reg {D : Dsk} (h : D.Ok) {lo M : Nat} (hf : lo + M ≤ D.last.length) : RecOk (allL (regnL lo M D.last)).1 M := by
  have h1 := RecOk.read (x := regnL lo M D.last) (fun z hz => h.lb z (List.mem_of_mem_drop (List.mem_of_mem_take hz)))
  rw [regn_len hf] at h1
  exact h1
/-- What is behind a crash of a disk that was opened, with or without a fuse. -/
theorem opens_crash {n size : Nat} {D D' : Dsk} {lo M : Nat} {rs : List (List Int)} {c : Int} (hn : D.n = n) (hs : D.size = size) (h : OpnOut D lo M rs c D') (hf : lo + M ≤ D.last.length) (hrs : RecOk rs M) (hM : M ≤ 1000000) (k t : Int) :
    NFd n size (D'.crash k t) ∧ (D'.crash k t).waits = [] ∧ (D'.crash k t).deeds ≤ D.deeds + 1000 ∧ Beside lo M D.last (D'.crash k t).last ∧ (allL (regnL lo M (D'.crash k t).last)).1 = rs := by
  obtain ⟨st, hc⟩ := h
  refine ⟨NFd.crash D' n size (st.n.trans hn) (st.size.trans hs) k t, rfl, st.hi, ?_⟩
  show Beside lo M D.last (D'.left k t) ∧ (allL (regnL lo M (D'.left k t))).1 = rs
  rcases hc with ⟨_, hd, _⟩ | ⟨_, hd⟩
  · rw [left_none hd.waits]
    obtain ⟨q1, q2⟩ := laid_reg (text_len hrs.used) hf hd.last
    exact ⟨q2, by rw [q1]; exact hrs.all hM⟩
  · exact hd.left k t
/-- Open, where no fuse burns, whatever stands there. -/
def GivesOq (base : Nat) (O : Foot) (r n size : Nat) (D : Dsk) (f k : Nat) (rs : List (List Int)) (w : World) (e : Ending) (w' : World) : Prop :=
  ∃ D' O' gb OG OR rv, e = .returned (.tuple #[.pointer (some ⟨gb, 0, none⟩), rv, .int .i64 0]) ∧ NFd n size D' ∧ D'.waits = [] ∧ D'.deeds ≤ D.deeds + 1000 ∧ D'.last = layL D.last (f * size, textL rs (k * size)) ∧ DskIs w' base O' r D' ∧ OnlyO base O w w' ∧ Grown O O' w.heap.size ∧
    LogIs w' w.heap.size OG gb r ⟨f, k, size, usedL rs, false⟩ ∧ LLF w' base OR rv rs ∧ (∀ i, OR i → w.heap.size ≤ i ∧ i < w'.heap.size ∧ ¬ O' i ∧ ¬ OG i) ∧ ∀ i, OG i → ¬ O' i
theorem wopen_nfd (base : Nat) (O : Foot) (r n size : Nat) (D : Dsk) (f k : Nat) (zf zk : Int) (ef : zf = (f : Int)) (ek : zk = (k : Int)) (rs : List (List Int)) (w : World) (env : Env w) (h : DskIs w base O r D) (hn : NFd n size D) (k1 : 1 ≤ k) (on : f + k ≤ n) (hw : D.waits = []) (hd : D.deeds ≤ 900000)
    (hr : (allL (regnL (f * size) (k * size) D.last)).1 = rs) :
    Calls Tryz.prog 49 #[.pointer (some ⟨r, 0, none⟩), .int .i64 zf, .int .i64 zk] w (GivesOq base O r n size D f k rs w) := by
  subst ef ek
  have hc := wopen_any base O r D f k w env h k1 (by rw [hn.n]; exact on) hn.dark hw hd
  rw [hn.size, hr] at hc
  refine hc.mono ?_
  rintro e w' ⟨c, D', O', ⟨hs, hcase⟩, hd', ho, hg, ⟨rfl, hx⟩ | ⟨rfl, gb, OG, OR, rv, rfl, hl, hll, hd1, hd2⟩⟩
  · rcases hcase with ⟨h0, _⟩ | ⟨_, hdk⟩
    · cases h0
    · exact (hdk.fuse hn.fuse).elim
  · rcases hcase with ⟨_, hdn, _⟩ | ⟨h0, _⟩
    · rw [hn.size] at hdn hl
      exact ⟨D', O', gb, OG, OR, rv, rfl, hn.step hs hdn.dark, hdn.waits, hs.hi, hdn.last, hd', ho, hg, hl, hll, hd1, hd2⟩
    · cases h0
/-- Open, with or without a fuse. -/
def GivesOr (base : Nat) (O : Foot) (r size : Nat) (D : Dsk) (f k : Nat) (rs : List (List Int)) (w : World) (e : Ending) (w' : World) : Prop :=
  ∃ c D' O', OpnOut D (f * size) (k * size) rs c D' ∧ DskIs w' base O' r D' ∧ OnlyO base O w w' ∧ Grown O O' w.heap.size ∧
    ((c = 12 ∧ ∃ a n, e = .returned (.tuple #[.pointer none, .slice a 0 n, .int .i64 12])) ∨
     (c = 0 ∧ ∃ gb OG OR a n, e = .returned (.tuple #[.pointer (some ⟨gb, 0, none⟩), .slice a rs.length n, .int .i64 0]) ∧ LogIs w' base OG gb r ⟨f, k, size, usedL rs, false⟩ ∧ LLF w' base OR (.slice a rs.length n) rs ∧ (∀ i, OR i → w.heap.size ≤ i ∧ i < w'.heap.size ∧ ¬ O' i ∧ ¬ OG i) ∧ ∀ i, OG i → ¬ O' i))
theorem wopen_gen (base : Nat) (O : Foot) (r n size : Nat) (D : Dsk) (f k : Nat) (zf zk : Int) (ef : zf = (f : Int)) (ek : zk = (k : Int)) (rs : List (List Int)) (w : World) (env : Env w) (h : DskIs w base O r D) (hn : D.n = n) (hs : D.size = size) (k1 : 1 ≤ k) (on : f + k ≤ n) (hdk : D.dark = false) (hw : D.waits = []) (hd : D.deeds ≤ 900000) (hbase : base ≤ w.heap.size)
    (hr : (allL (regnL (f * size) (k * size) D.last)).1 = rs) :
    Calls Tryz.prog 49 #[.pointer (some ⟨r, 0, none⟩), .int .i64 zf, .int .i64 zk] w (GivesOr base O r size D f k rs w) := by
  subst ef ek
  have hc := wopen_any base O r D f k w env h k1 (by rw [hn]; exact on) hdk hw hd
  rw [hs, hr] at hc
  refine hc.mono ?_
  rintro e w' ⟨c, D', O', hout, hd', ho, hg, hcase⟩
  rw [hs] at hout hcase
  refine ⟨c, D', O', hout, hd', ho, hg, hcase.imp id ?_⟩
  rintro ⟨rfl, gb, OG, OR, rv, rfl, hl, hll, hd1, hd2⟩
  obtain ⟨a, m, rfl⟩ := hll.size
  exact ⟨rfl, gb, OG, OR, a, m, rfl, hl.base hbase, hll, hd1, hd2⟩
/-- Lists that are alike. -/
theorem same_yes (v1 v2 : Value) (L : List (List Int)) (w : World) (h1 : ArgLL w v1 L) (h2 : ArgLL w v2 L) (hL : ∀ l ∈ L, ∀ z ∈ l, 0 ≤ z ∧ z ≤ 255) (hll : L.length ≤ 100000000) :
    Calls Tryz.prog 36 #[v1, v2] w fun e w' => e = .returned (.bool true) ∧ Below w.heap.size w w' :=
  (rcsame_any v1 v2 L L w h1 h2 hL hL hll).mono fun e w' ⟨h, g⟩ => ⟨by rw [h]; simp, g⟩

/-- The document's log, and what it leans on beside a disk's and a log's blocks. -/
structure Aside (F : Foot) (m : Nat) (O : Foot) : Prop where
  f : ∀ i, F i → ¬ O i
  m : ¬ O m
theorem Aside.grown {F : Foot} {m : Nat} {O O' : Foot} {N : Nat} (h : Aside F m O) (g : Grown O O' N) (hF : ∀ i, F i → i < N) (hm : m < N) : Aside F m O' :=
  ⟨fun i hi ho => by rcases g i ho with ho | ho; exact h.f i hi ho; have := hF i hi; omega, fun ho => by rcases g m ho with ho | ho; exact h.m ho; omega⟩

theorem aside_step {w w' : World} {base : Nat} {F O O' : Foot} {m : Nat} {L : List (List Int)} {all : Nat} (rl : RLog w base F m L all) (ha : Aside F m O) (hO : ∀ i, O i → base ≤ i) (o : OnlyO base O w w') (g : Grown O O' w.heap.size) : RLog w' base F m L all ∧ Aside F m O' :=
  ⟨rl.only o ha.f ha.m hO, ha.grown g (fun i hi => (rl.own i hi).2.1) rl.s⟩

end Go.Proofs.YtejelednnacnaaaGreatDoor
