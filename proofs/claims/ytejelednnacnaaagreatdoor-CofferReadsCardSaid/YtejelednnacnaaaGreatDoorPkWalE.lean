/-
  The statements of layer 10, walked over the contracts of package wal's calls: what they come to where no fuse burns; Long, Marked, awake.
-/
import Derived.Test.YtejelednnacnaaaGreatDoorPkWal
import Derived.Test.YtejelednnacnaaaGreatDoorPkMarkA
namespace Go.Proofs.YtejelednnacnaaaGreatDoor
open Go.RowKit

/-- Format, where no fuse burns. -/
theorem wformat_nf (base : Nat) (O : Foot) (r n size : Nat) (D : Dsk) (f k : Nat) (zf zk : Int) (ef : zf = (f : Int)) (ek : zk = (k : Int)) (w : World) (env : Env w) (h : DskIs w base O r D) (hn : NFd n size D) (k1 : 1 ≤ k) (on : f + k ≤ n) (hw : D.waits = []) (hd : D.deeds ≤ 900000) :
    Calls Tryz.prog 52 #[.pointer (some ⟨r, 0, none⟩), .int .i64 zf, .int .i64 zk] w fun e w' => ∃ D', e = .returned (.int .i64 0) ∧ NFd n size D' ∧ D'.waits = [] ∧ D'.deeds ≤ D.deeds + 1000 ∧ D'.last = layL D.last (f * size, List.replicate (k * size) 0) ∧ DskTo base O r D' w w' := by
  subst ef ek
  refine (wformat_any base O r D f k w env h k1 (by rw [hn.n]; exact on) hn.dark hw hd).mono ?_
  rintro e w' ⟨c, D', rfl, ⟨hs, ⟨rfl, hdn⟩ | ⟨_, hdk⟩⟩, ht⟩
  · have hl := hdn.last
    rw [hn.size] at hl
    exact ⟨D', rfl, hn.step hs hdn.dark, hdn.waits, hs.hi, hl, ht⟩
  · exact (hdk.fuse hn.fuse).elim
/-- Open of a region that is clean, where no fuse burns. -/
def GivesOn (base : Nat) (O : Foot) (r size : Nat) (D : Dsk) (f k : Nat) (rs : List (List Int)) (w : World) (e : Ending) (w' : World) : Prop :=
  ∃ O' gb OG OR rv, e = .returned (.tuple #[.pointer (some ⟨gb, 0, none⟩), rv, .int .i64 0]) ∧ DskIs w' base O' r D ∧ OnlyO base O w w' ∧ Grown O O' w.heap.size ∧ LogIs w' w.heap.size OG gb r ⟨f, k, size, usedL rs, false⟩ ∧ LLF w' base OR rv rs ∧ (∀ i, OR i → w.heap.size ≤ i ∧ i < w'.heap.size ∧ ¬ O' i ∧ ¬ OG i) ∧ ∀ i, OG i → ¬ O' i
theorem wopen_nf (base : Nat) (O : Foot) (r n size : Nat) (D : Dsk) (f k : Nat) (zf zk : Int) (ef : zf = (f : Int)) (ek : zk = (k : Int)) (rs : List (List Int)) (w : World) (env : Env w) (h : DskIs w base O r D) (hn : NFd n size D) (k1 : 1 ≤ k) (on : f + k ≤ n) (hw : D.waits = []) (hd : D.deeds ≤ 900000)
    (hok : RecOk rs (k * size)) (hr : regnL (f * size) (k * size) D.last = textL rs (k * size)) :
    Calls Tryz.prog 49 #[.pointer (some ⟨r, 0, none⟩), .int .i64 zf, .int .i64 zk] w (GivesOn base O r size D f k rs w) := by
  subst ef ek
  have hM : k * size ≤ 1000000 := by
    have q1 := h.ok.n1
    have q2 := h.ok.s1
    have q3 : k * size ≤ 400 * 512 := Nat.mul_le_mul (by have := hn.n; omega) (by have := hn.size; omega)
    omega
  have e1 : (allL (regnL (f * D.size) (k * D.size) D.last)).1 = rs := by rw [hn.size, hr]; exact hok.all hM
  have hc := wopen_any base O r D f k w env h k1 (by rw [hn.n]; exact on) hn.dark hw hd
  rw [e1] at hc
  refine hc.mono ?_
  rintro e w' ⟨c, D', O', ⟨hs, hcase⟩, hd', ho, hg, ⟨rfl, hx⟩ | ⟨rfl, gb, OG, OR, rv, rfl, hl, hll, hd1, hd2⟩⟩
  · rcases hcase with ⟨h0, _⟩ | ⟨_, hdk⟩
    · cases h0
    · exact (hdk.fuse hn.fuse).elim
  · rcases hcase with ⟨_, _, hcl⟩ | ⟨h0, _⟩
    · have hD := hcl (by rw [hn.size]; exact hr)
      subst hD
      rw [hn.size] at hl
      exact ⟨O', gb, OG, OR, rv, rfl, hd', ho, hg, hl, hll, hd1, hd2⟩
    · cases h0
/-- Append, where no fuse burns. -/
def GivesAn (base : Nat) (O OG : Foot) (r gb n size : Nat) (D : Dsk) (G : Lg) (rs : List (List Int)) (b : List Int) (w : World) (e : Ending) (w' : World) : Prop :=
  ∃ D' O' OG', e = .returned (.int .i64 0) ∧ NFd n size D' ∧ D'.deeds ≤ D.deeds + 1000 ∧ DskIs w' base O' r D' ∧ LogIs w' base OG' gb r { G with used := G.used + b.length + 10 } ∧ LogOn D' { G with used := G.used + b.length + 10 } (rs ++ [b]) ∧ Beside (G.from_ * G.size) (G.n * G.size) D.last D'.last ∧ (∀ i, O' i → ¬ OG' i) ∧
    OnlyO base (fun i => O i ∨ OG i) w w' ∧ Grown (fun i => O i ∨ OG i) (fun i => O' i ∨ OG' i) w.heap.size
theorem logon_more {D D' : Dsk} {G : Lg} {rs : List (List Int)} {b : List Int} (h : LogOn D G rs) (hok : D.Ok) (hs : StepD D D') (hdn : DoneD D D' (G.from_ * G.size) (textL (rs ++ [b]) (G.n * G.size))) (hb : ∀ z ∈ b, 0 ≤ z ∧ z ≤ 255) (hf : G.used + b.length + 10 ≤ G.n * G.size) :
    LogOn D' { G with used := G.used + b.length + 10 } (rs ++ [b]) ∧ Beside (G.from_ * G.size) (G.n * G.size) D.last D'.last := by
  have hu := h.us
  have hrec := h.ok.more hb (by omega)
  have htl : (textL (rs ++ [b]) (G.n * G.size)).length = G.n * G.size := text_len hrec.used
  have hfit : G.from_ * G.size + (textL (rs ++ [b]) (G.n * G.size)).length ≤ D.last.length := by
    rw [htl, hok.ll, ← Nat.add_mul, ← h.sz]
    exact Nat.mul_le_mul_right _ h.on
  have r1 := regn_laid hfit
  have r2 := beside_laid hfit
  rw [htl] at r1 r2
  refine ⟨⟨h.n1, by rw [hs.n]; exact h.on, by rw [hs.size]; exact h.sz, by show G.used + b.length + 10 = _; rw [used_more, hu], h.up, hrec, by rw [hdn.last]; exact r1, hdn.dark, hdn.waits⟩, by rw [hdn.last]; exact r2⟩
theorem wappend_nf (base : Nat) (O OG : Foot) (r gb n size : Nat) (D : Dsk) (G : Lg) (rs : List (List Int)) (v : Value) (b : List Int) (w : World) (env : Env w) (h : DskIs w base O r D) (hg : LogIs w base OG gb r G) (hd : ∀ i, O i → ¬ OG i) (on : LogOn D G rs) (dd : D.deeds ≤ 900000) (hn : NFd n size D)
    (hv : ArgB w v b) (hb : ∀ z ∈ b, 0 ≤ z ∧ z ≤ 255) (hy : b ≠ [] → ∀ k, v.ownBlock = some k → ¬ O k ∧ ¬ OG k) (hf : G.used + b.length + 10 ≤ G.n * G.size) :
    Calls Tryz.prog 57 #[.pointer (some ⟨gb, 0, none⟩), v] w (GivesAn base O OG r gb n size D G rs b w) := by
  refine (wappend_any base O OG r gb D G rs v b w env h hg hd on dd hv hb hy hf).mono ?_
  rintro e w' ⟨c, D', O', OG', rfl, ⟨hs, ⟨rfl, hdn⟩ | ⟨_, hdk⟩⟩, hd', hl, hdis, ho, hgr⟩
  · obtain ⟨k1, k2⟩ := logon_more on h.ok hs hdn hb hf
    have hup := on.up
    have e1 : ({ G with used := if (0 : Int) = 0 then G.used + b.length + 10 else G.used, down := decide ((0 : Int) = 12) } : Lg) = { G with used := G.used + b.length + 10 } := by
      rw [if_pos rfl, show decide ((0 : Int) = 12) = false from rfl, ← hup]
    rw [e1] at hl
    exact ⟨D', O', OG', rfl, hn.step hs hdn.dark, hs.hi, hd', hl, k1, k2, hdis, ho, hgr⟩
  · exact (hdk.fuse hn.fuse).elim

theorem aw_last {D : Dsk} (hl : D.last = layL (Dsk.new 3 32).last (1 * 32, List.replicate (2 * 32) 0)) : regnL (1 * 32) (2 * 32) D.last = textL [] (2 * 32) := by
  rw [hl, text_nil]
  have h := regn_laid (lo := 1 * 32) (s := (Dsk.new 3 32).last) (x := List.replicate (2 * 32) 0) (by simp [Dsk.new])
  rw [List.length_replicate] at h
  exact h
theorem aw_on {D : Dsk} (hn : NFd 3 32 D) (hw : D.waits = []) (hl : D.last = layL (Dsk.new 3 32).last (1 * 32, List.replicate (2 * 32) 0)) : LogOn D ⟨1, 2, 32, 0, false⟩ [] :=
  ⟨by show 1 ≤ 2; decide, by rw [hn.n]; exact Nat.le_refl _, hn.size.symm, rfl, rfl, RecOk.nil _, aw_last hl, hn.dark, hw⟩
end Go.Proofs.YtejelednnacnaaaGreatDoor
