/-
  Two slots for a snapshot, as the chapter of layer 11 says them: plain. What a slot's bytes say, which one counts, what every crash leaves of putting the next one.
-/
import Derived.Test.YtejelednnacnaaaGreatDoorPkPlain
import Derived.Test.YtejelednnacnaaaGreatDoorPkWirP
namespace Go.Proofs.YtejelednnacnaaaGreatDoor

/-- What a slot's bytes say: an epoch, and a snapshot's bytes. -/
def snapL (s : List Int) (k : Nat) : Nat × List Int :=
  match openL s with
  | none => (0, [])
  | some x => match takeT 0 0 x with
    | none => (0, [])
    | some (g, q) => if g.n = 0 ∨ g.n % 2 ≠ k then (0, []) else (g.n, q)
/-- Which one counts. -/
def newerL (a b : Nat × List Int) : Nat × List Int := if a.1 < b.1 then b else a
/-- What counts of two slots of M bytes, from byte lo on. -/
def slotsL (lo M : Nat) (s : List Int) : Nat × List Int := newerL (snapL (regnL lo M s) 0) (snapL (regnL (lo + M) M s) 1)
theorem snap_none {s : List Int} (k : Nat) (h : openL s = none) : snapL s k = (0, []) := by simp only [snapL, h]
theorem takeT_of_num (n : Nat) (hn : n ≤ 18446744073709551615) (R : List Int) (m : Int) : takeT 0 m (numB n ++ R) = some ({ n := n }, R) := by
  have h := takeK_digs n hn R
  show takeT 0 m (((digs n).length : Int) :: (digs n ++ R)) = _
  simp only [takeT, h]
  rfl
theorem snap_frame {n : Nat} {b : List Int} {k : Nat} (hn : n ≤ 18446744073709551615) (h0 : n ≠ 0) (hk : n % 2 = k) (hl : (numB n ++ b).length < 4294967296) (X : List Int) : snapL (frameL (numB n ++ b) ++ X) k = (n, b) := by
  simp only [snapL, open_frame hl, takeT_of_num n hn b 0]
  rw [if_neg (by omega)]
theorem snap_cases (s : List Int) (k : Nat) : snapL s k = (0, []) ∨ ((snapL s k).1 ≠ 0 ∧ (snapL s k).1 % 2 = k) := by
  unfold snapL
  split
  · exact Or.inl rfl
  · split
    · exact Or.inl rfl
    · split
      · exact Or.inl rfl
      · rename_i h
        right
        exact ⟨fun e => h (Or.inl e), by
          have : ¬ _ := fun e => h (Or.inr e)
          exact Decidable.not_not.mp this⟩
/-- The bytes of a snapshot are bytes, and no more than the slot has. -/
theorem takeT_drop {x q : List Int} {g : GotV} {m : Int} (h : takeT 0 m x = some (g, q)) : ∃ j, q = x.drop j := by
  cases x with
  | nil => simp [takeT] at h
  | cons k r =>
    simp only [takeT] at h
    rw [if_neg (by decide), if_neg (by decide)] at h
    split at h
    · cases h
    · rename_i n p hk
      simp only [if_true, Option.some.injEq, Prod.mk.injEq] at h
      obtain ⟨_, rfl⟩ := h
      unfold takeK at hk
      split at hk
      · cases hk
      · simp only [Option.some.injEq, Prod.mk.injEq] at hk
        exact ⟨k.toNat + 1, by rw [← hk.2]; rfl⟩
theorem snap_part (s : List Int) (k : Nat) : ∀ z ∈ (snapL s k).2, z ∈ s := by
  intro z hz
  unfold snapL at hz
  split at hz
  · cases hz
  · rename_i x hx
    obtain ⟨_, _, _, h4, _⟩ := open_some hx
    split at hz
    · cases hz
    · rename_i g q hq
      obtain ⟨j, rfl⟩ := takeT_drop hq
      split at hz
      · cases hz
      · have h := List.mem_of_mem_drop hz
        rw [h4] at h
        exact List.mem_of_mem_drop (List.mem_of_mem_take h)
theorem snap_len (s : List Int) (k : Nat) : (snapL s k).2.length ≤ s.length := by
  unfold snapL
  split
  · exact Nat.zero_le _
  · rename_i x hx
    have hl := open_len hx
    split
    · exact Nat.zero_le _
    · rename_i g q hq
      obtain ⟨j, rfl⟩ := takeT_drop hq
      split
      · exact Nat.zero_le _
      · show (x.drop j).length ≤ _
        rw [List.length_drop]; omega
theorem newer_cases (a b : Nat × List Int) : newerL a b = a ∨ newerL a b = b := by
  unfold newerL
  split
  · exact Or.inr rfl
  · exact Or.inl rfl

/-- A region that ends ahead of another one, and one that begins behind it. -/
theorem beside_ahead {lo M a N : Nat} {S S' : List Int} (h : Beside lo M S S') (ha : a + N ≤ lo) : regnL a N S' = regnL a N S := by
  have e := congrArg (List.drop a) h.ahead
  have e2 := congrArg (List.take N) e
  rw [List.drop_take, List.drop_take, List.take_take, List.take_take, Nat.min_eq_left (by omega)] at e2
  exact e2
theorem beside_behind {lo M a N : Nat} {S S' : List Int} (h : Beside lo M S S') (ha : lo + M ≤ a) : regnL a N S' = regnL a N S := by
  have e := congrArg (List.drop (a - (lo + M))) h.behind
  rw [List.drop_drop, List.drop_drop, show lo + M + (a - (lo + M)) = a by omega] at e
  unfold regnL
  rw [e]
theorem Beside.wide {lo M a N : Nat} {S S' : List Int} (h : Beside lo M S S') (h1 : a ≤ lo) (h2 : lo + M ≤ a + N) : Beside a N S S' := by
  refine ⟨h.len, ?_, ?_⟩
  · have e := congrArg (List.take a) h.ahead
    rw [List.take_take, List.take_take, Nat.min_eq_left h1] at e
    exact e
  · have e := congrArg (List.drop (a + N - (lo + M))) h.behind
    rw [List.drop_drop, List.drop_drop, show lo + M + (a + N - (lo + M)) = a + N by omega] at e
    exact e

/-- The slot of an epoch. -/
def slotAt (lo M e : Nat) : Nat := lo + e % 2 * M
/-- The next one's slot says nothing, or what it said: all is as it was. -/
theorem slots_keep {lo M : Nat} {S S' : List Int} {e : Nat} (he : e = (slotsL lo M S).1 + 1) (hb : Beside (slotAt lo M e) M S S')
    (h : snapL (regnL (slotAt lo M e) M S') (e % 2) = (0, []) ∨ snapL (regnL (slotAt lo M e) M S') (e % 2) = snapL (regnL (slotAt lo M e) M S) (e % 2)) : slotsL lo M S' = slotsL lo M S := by
  have c0 := snap_cases (regnL lo M S) 0
  have c1 := snap_cases (regnL (lo + M) M S) 1
  unfold slotAt at hb h
  rcases Nat.mod_two_eq_zero_or_one e with hq | hq
  · rw [hq, Nat.zero_mul, Nat.add_zero] at hb h
    have ho := beside_behind (a := lo + M) (N := M) hb (Nat.le_refl _)
    unfold slotsL at he ⊢
    rw [ho]
    obtain ⟨a, ha⟩ : ∃ a, snapL (regnL lo M S) 0 = a := ⟨_, rfl⟩
    obtain ⟨a', ha'⟩ : ∃ a, snapL (regnL lo M S') 0 = a := ⟨_, rfl⟩
    obtain ⟨b, hbb⟩ : ∃ b, snapL (regnL (lo + M) M S) 1 = b := ⟨_, rfl⟩
    rw [ha, ha'] at h
    rw [ha] at c0 he
    rw [hbb] at c1 he
    rw [ha, ha', hbb]
    rcases h with h | h
    · subst h
      unfold newerL at he ⊢
      rcases c1 with rfl | ⟨c1, c2⟩
      · rcases c0 with rfl | ⟨c3, c4⟩
        · rfl
        · have c3' : ¬ a.1 < (0, ([] : List Int)).1 := by simp
          rw [if_neg c3'] at he
          omega
      · rw [if_pos (by show 0 < b.1; omega)]
        by_cases hab : a.1 < b.1
        · rw [if_pos hab]
        · rw [if_neg hab] at he
          rcases c0 with rfl | ⟨c3, c4⟩
          · exact (hab (by show 0 < b.1; omega)).elim
          · omega
    · rw [h]
  · rw [hq, Nat.one_mul] at hb h
    have ho := beside_ahead (a := lo) (N := M) hb (Nat.le_refl _)
    unfold slotsL at he ⊢
    rw [ho]
    obtain ⟨a, ha⟩ : ∃ a, snapL (regnL lo M S) 0 = a := ⟨_, rfl⟩
    obtain ⟨b', hb'⟩ : ∃ a, snapL (regnL (lo + M) M S') 1 = a := ⟨_, rfl⟩
    obtain ⟨b, hbb⟩ : ∃ b, snapL (regnL (lo + M) M S) 1 = b := ⟨_, rfl⟩
    rw [hbb, hb'] at h
    rw [ha] at c0 he
    rw [hbb] at c1 he
    rw [ha, hb', hbb]
    rcases h with h | h
    · subst h
      unfold newerL at he ⊢
      rw [if_neg (by simp)]
      by_cases hab : a.1 < b.1
      · rw [if_pos hab] at he
        rcases c1 with rfl | ⟨c1, c2⟩
        · simp at hab
        · omega
      · rw [if_neg hab]
    · rw [h]
/-- The next one's slot has it: it counts. -/
theorem slots_next {lo M : Nat} {S S' : List Int} {e : Nat} {b : List Int} (he : e = (slotsL lo M S).1 + 1) (hb : Beside (slotAt lo M e) M S S') (h : snapL (regnL (slotAt lo M e) M S') (e % 2) = (e, b)) : slotsL lo M S' = (e, b) := by
  unfold slotAt at hb h
  have hle : (snapL (regnL lo M S) 0).1 < e ∧ (snapL (regnL (lo + M) M S) 1).1 < e := by
    unfold slotsL newerL at he
    split at he <;> omega
  rcases Nat.mod_two_eq_zero_or_one e with hq | hq
  · rw [hq, Nat.zero_mul, Nat.add_zero] at hb h
    have ho := beside_behind (a := lo + M) (N := M) hb (Nat.le_refl _)
    unfold slotsL newerL
    rw [ho, h, if_neg (by show ¬ e < _; omega)]
  · rw [hq, Nat.one_mul] at hb h
    have ho := beside_ahead (a := lo) (N := M) hb (Nat.le_refl _)
    unfold slotsL newerL
    rw [ho, h, if_pos (by show _ < e; omega)]

/-- What is put, cleared first. -/
theorem snap_mix_clear {B : List Int} {M : Nat} (hl : B.length = M) (k j : Nat) : snapL (mixL B (List.replicate M 0) j) k = (0, []) ∨ snapL (mixL B (List.replicate M 0) j) k = snapL B k := by
  by_cases h0 : min j M = 0
  · right
    have e : mixL B (List.replicate M 0) j = B := by
      unfold mixL
      rw [List.take_replicate, h0]
      rcases Nat.eq_zero_or_pos j with rfl | hp
      · rfl
      · have : M = 0 := by omega
        subst this
        rw [List.eq_nil_of_length_eq_zero hl]
        simp
    rw [e]
  · left
    apply snap_none
    apply open_first
    unfold mixL
    obtain ⟨p, hp⟩ : ∃ p, min j M = p + 1 := ⟨min j M - 1, by omega⟩
    rw [List.take_replicate, hp]
    simp [List.replicate_succ]
theorem snap_mix_frame {x : List Int} {M : Nat} (hx : x.length < 4294967296) (hf : x.length + 10 ≤ M) (k j : Nat) : snapL (mixL (List.replicate M 0) (frameL x ++ List.replicate (M - (x.length + 10)) 0) j) k = (0, []) ∨ snapL (mixL (List.replicate M 0) (frameL x ++ List.replicate (M - (x.length + 10)) 0) j) k = snapL (frameL x ++ List.replicate (M - (x.length + 10)) 0) k := by
  have hF := frameL_len x
  by_cases hj : j < x.length + 10
  · left
    apply snap_none
    have e : mixL (List.replicate M 0) (frameL x ++ List.replicate (M - (x.length + 10)) 0) j = (frameL x).take j ++ List.replicate (M - j) 0 := by
      unfold mixL
      rw [List.take_append_of_le_length (by omega), List.drop_replicate]
    rw [e]
    exact open_torn hx hj
  · right
    have e : mixL (List.replicate M 0) (frameL x ++ List.replicate (M - (x.length + 10)) 0) j = frameL x ++ List.replicate (M - (x.length + 10)) 0 := by
      unfold mixL
      rw [List.take_append, List.take_of_length_le (by omega), List.take_replicate, List.drop_replicate, List.append_assoc, hF, List.replicate_append_replicate]
      congr 2
      omega
    rw [e]

/-- What putting comes to. -/
def PutsOut (D : Dsk) (lo M : Nat) (m : Nat × List Int) (b : List Int) (c : Int) (D' : Dsk) : Prop :=
  StepD D D' ∧ ((c = 0 ∧ D'.dark = false ∧ D'.waits = [] ∧ Beside lo (M + M) D.last D'.last ∧ slotsL lo M D'.last = (m.1 + 1, b)) ∨
    (c = 12 ∧ D'.dark = true ∧ D.fuse ≠ -1 ∧ ∀ k t, Beside lo (M + M) D.last (D'.left k t) ∧ (slotsL lo M (D'.left k t) = m ∨ slotsL lo M (D'.left k t) = (m.1 + 1, b))))
/-- Slots: where they lie, the epoch, the snapshot, and whether they told Down. -/
structure Sl where
  from_ : Nat
  n : Nat
  size : Nat
  ep : Nat
  b : List Int
  down : Bool
/-- Slots on a disk. -/
def OnSl (n : Nat) (f k : Int) : Prop := 0 ≤ f ∧ 1 ≤ k ∧ f + 2 * k ≤ (n : Int)
/-- What a disk of slots is. -/
structure SlotsOn (D : Dsk) (G : Sl) : Prop where
  n1 : 1 ≤ G.n
  on : G.from_ + 2 * G.n ≤ D.n
  sz : G.size = D.size
  up : G.down = false
  sn : slotsL (G.from_ * G.size) (G.n * G.size) D.last = (G.ep, G.b)
  e1 : G.ep ≤ 18446744073709551615
  dk : D.dark = false
  ws : D.waits = []

theorem slot_beside {lo M e : Nat} {S S' : List Int} (h : Beside (slotAt lo M e) M S S') : Beside lo (M + M) S S' := by
  unfold slotAt at h
  rcases Nat.mod_two_eq_zero_or_one e with hq | hq
  · rw [hq, Nat.zero_mul, Nat.add_zero] at h
    exact h.wide (Nat.le_refl _) (by omega)
  · rw [hq, Nat.one_mul] at h
    exact h.wide (by omega) (by omega)
/-- The slot that is put to is made 0: it went dark on the way, or it is. -/
theorem puts_clear {D D' : Dsk} (hok : D.Ok) {lo M f' n i0 m e : Nat} {b : List Int} {T : List Int} {c : Int} (hlo : f' * D.size = slotAt lo M e) (hM : n * D.size = M) (h : Laid D f' n 0 (List.replicate (n * D.size) 0) T i0 m) (on : f' + n ≤ D.n) (p : PutOut D T i0 m c D') (he : e = (slotsL lo M D.last).1 + 1) :
    (c = 12 ∧ PutsOut D lo M (slotsL lo M D.last) b 12 D') ∨ (c = 0 ∧ StepD D D' ∧ D'.dark = false ∧ D'.waits = [] ∧ D'.last = layL D.last (slotAt lo M e, List.replicate M 0)) := by
  obtain ⟨g, g4, g5⟩ := zeros_goal hok (by rw [Nat.sub_zero]; exact h) on (Nat.zero_le _)
  rw [Nat.sub_zero, List.take_zero, List.nil_append, hlo, hM] at g
  obtain ⟨st, ⟨rfl, p1, p2, p3⟩ | ⟨rfl, p1, p2, j, hj, p3⟩⟩ := p
  · exact Or.inr ⟨rfl, st, p1, p2, by rw [p3]; exact g.laid⟩
  · refine Or.inl ⟨rfl, st, Or.inr ⟨rfl, p1, p2, fun k t => ?_⟩⟩
    obtain ⟨i, _, ei⟩ := left_mix (D := D') (S := D.last) (T := T) (size := D.size) (i0 := i0) (m := j) g.bs.len (Nat.le_trans (Nat.mul_le_mul_right _ (by omega)) g4) g5 p3.last p3.waits k t
    have hb := mix_beside g.bs i
    rw [ei]
    refine ⟨slot_beside hb, Or.inl (slots_keep he hb ?_)⟩
    rw [mix_regn g.bs.len, g.rg]
    exact snap_mix_clear (regn_len g.fit) _ _
/-- The snapshot's frame is put there. -/
theorem puts_frame {D0 D D' : Dsk} (hok0 : D0.Ok) (hok : D.Ok) {lo M f' n i0 m e : Nat} {b : List Int} {T : List Int} {c : Int} (hlo : f' * D.size = slotAt lo M e) (hM : n * D.size = M) (hst : StepD D0 D) (hl : D.last = layL D0.last (slotAt lo M e, List.replicate M 0)) (h : Laid D f' n 0 (frameL (numB e ++ b)) T i0 m) (on : f' + n ≤ D.n) (hf : (numB e ++ b).length + 10 ≤ M) (he : e = (slotsL lo M D0.last).1 + 1) (he1 : e ≤ 18446744073709551615)
    (p : PutOut D T i0 m c D') (hd : D'.deeds ≤ D0.deeds + 1000) : PutsOut D0 lo M (slotsL lo M D0.last) b c D' := by
  have hF := frameL_len (numB e ++ b)
  have hms := hok.most
  have hM2 : n * D.size ≤ D.n * D.size := Nat.mul_le_mul_right _ (by omega)
  have hx : (numB e ++ b).length < 4294967296 := by omega
  obtain ⟨g1, ⟨z, hz, g2⟩, g3, g4, g5⟩ := laid_goal hok h on (by rw [Nat.zero_add, hF, hM]; exact hf)
  rw [hlo, hM] at g1 g2 g3
  have hfit : slotAt lo M e + (List.replicate M (0 : Int)).length ≤ D0.last.length := by
    rw [List.length_replicate]
    have q1 := hok0.ll
    have q2 := hok.ll
    rw [hst.n, hst.size] at q2
    omega
  have b0 := beside_laid hfit
  have r0 := regn_laid hfit
  rw [List.length_replicate, ← hl] at b0 r0
  have hrg : regnL (slotAt lo M e) M T = frameL (numB e ++ b) ++ List.replicate (M - ((numB e ++ b).length + 10)) 0 := by
    rw [g2, r0]
    unfold layL
    show (List.replicate M (0 : Int)).take 0 ++ (frameL (numB e ++ b) ++ List.replicate z 0) ++ (List.replicate M 0).drop (0 + (frameL (numB e ++ b) ++ List.replicate z 0).length) = _
    rw [List.take_zero, List.nil_append, Nat.zero_add, List.drop_replicate, List.append_assoc, List.replicate_append_replicate, List.length_append, List.length_replicate, hF]
    congr 2
    rw [hF] at hz
    omega
  have hsn : snapL (regnL (slotAt lo M e) M T) (e % 2) = (e, b) := by rw [hrg]; exact snap_frame he1 (by omega) rfl hx _
  have hstep : StepD D0 D' := by
    have s2 := p.step
    exact ⟨s2.n.trans hst.n, s2.size.trans hst.size, Nat.le_trans hst.lo s2.lo, hd, fun q => s2.fuse (hst.fuse q)⟩
  have hfu : D.fuse ≠ -1 → D0.fuse ≠ -1 := fun q r => q (hst.fuse r)
  obtain ⟨st, ⟨rfl, p1, p2, p3⟩ | ⟨rfl, p1, p2, j, hj, p3⟩⟩ := p
  · refine ⟨hstep, Or.inl ⟨rfl, p1, p2, slot_beside (e := e) ?_, ?_⟩⟩
    · rw [p3]; exact b0.trans g1
    · rw [p3, ← he]; exact slots_next he (b0.trans g1) hsn
  · refine ⟨hstep, Or.inr ⟨rfl, p1, hfu p2, fun k t => ?_⟩⟩
    obtain ⟨i, _, ei⟩ := left_mix (D := D') (S := D.last) (T := T) (size := D.size) (i0 := i0) (m := j) g1.len (Nat.le_trans (Nat.mul_le_mul_right _ (by omega)) g4) g5 p3.last p3.waits k t
    have hb := b0.trans (mix_beside g1 i)
    rw [ei, ← he]
    refine ⟨slot_beside hb, ?_⟩
    have hm := mix_regn (lo := slotAt lo M e) (M := M) g1.len i
    rw [r0, hrg] at hm
    rcases snap_mix_frame hx hf (e % 2) (i - slotAt lo M e) with q | q
    · left
      refine slots_keep he hb (Or.inl ?_)
      rw [hm]; exact q
    · right
      refine slots_next he hb ?_
      rw [hm, q, ← hrg]; exact hsn
/-- Of slots that were formatted nothing counts. -/
theorem snap_zeros (M k : Nat) : snapL (List.replicate M 0) k = (0, []) := snap_none k (zeros_none M)
theorem slots_fresh {lo M : Nat} {S : List Int} (h : regnL lo (M + M) S = List.replicate (M + M) 0) : slotsL lo M S = (0, []) := by
  have e0 : regnL lo M S = List.replicate M 0 := by
    have q := congrArg (List.take M) h
    unfold regnL at q ⊢
    rw [List.take_take, Nat.min_eq_left (by omega), List.take_replicate, Nat.min_eq_left (by omega)] at q
    exact q
  have e1 : regnL (lo + M) M S = List.replicate M 0 := by
    have q := congrArg (List.drop M) h
    unfold regnL at q ⊢
    rw [List.drop_take, List.drop_drop, List.drop_replicate, Nat.add_sub_cancel] at q
    exact q
  unfold slotsL
  rw [e0, e1, snap_zeros, snap_zeros]
  rfl

end Go.Proofs.YtejelednnacnaaaGreatDoor
