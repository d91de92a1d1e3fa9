/-
  As MixJ, but that the relation J also sees the values that have come up (u): so new variables that are stored to while other operations still come can be told by their pointers. No program in sight.
-/
import Derived.Test.YtejelednnacnaaaGreatDoorPkMixes
namespace Go.Proofs.YtejelednnacnaaaGreatDoor
open Go.RowKit

section
variable {P : Program} {Q : Exit → Act → World → Prop} {ops : Array Oper}

/-- Each operation, wherever it comes up. -/
def StepsU (P : Program) (ops : Array Oper) (Q : Exit → Act → World → Prop) (n : Nat) (T : Nat → Value → World → Prop) (J : (Nat → Value) → (Nat → Bool) → World → Prop) (a0 : Act) (l0 : List Oper) : List Oper → Nat → Prop
  | [], _ => True
  | o :: l, k => (∀ u w L, L k = false → J u L w → DepsL n T L u w o.after.toList → wpList P ops (Exit.then (fun a' w' => ∃ v, a' = (putAll l0 0 u a0).put o.dst v ∧ T k v w' ∧ J (upd u k v) (setL L k) w' ∧ ∀ j v', j < n → L j = true → T j v' w → T j v' w') Q) [o] (putAll l0 0 u a0) w) ∧ StepsU P ops Q n T J a0 l0 l (k + 1)
theorem StepsU.cons {n : Nat} {T : Nat → Value → World → Prop} {J : (Nat → Value) → (Nat → Bool) → World → Prop} {a0 : Act} {l0 l : List Oper} {o : Oper} {k : Nat}
    (h : ∀ u w L, L k = false → J u L w → DepsL n T L u w o.after.toList → wpList P ops (Exit.then (fun a' w' => ∃ v, a' = (putAll l0 0 u a0).put o.dst v ∧ T k v w' ∧ J (upd u k v) (setL L k) w' ∧ ∀ j v', j < n → L j = true → T j v' w → T j v' w') Q) [o] (putAll l0 0 u a0) w) (h2 : StepsU P ops Q n T J a0 l0 l (k + 1)) : StepsU P ops Q n T J a0 l0 (o :: l) k := ⟨h, h2⟩
theorem StepsU.nil {n : Nat} {T : Nat → Value → World → Prop} {J : (Nat → Value) → (Nat → Bool) → World → Prop} {a0 : Act} {l0 : List Oper} {k : Nat} : StepsU P ops Q n T J a0 l0 [] k := trivial
theorem stepsU_at {n : Nat} {T : Nat → Value → World → Prop} {J : (Nat → Value) → (Nat → Bool) → World → Prop} {a0 : Act} {l0 : List Oper} : ∀ (l : List Oper) (k : Nat), StepsU P ops Q n T J a0 l0 l k → ∀ j o, l[j]? = some o →
    ∀ u w L, L (k + j) = false → J u L w → DepsL n T L u w o.after.toList → wpList P ops (Exit.then (fun a' w' => ∃ v, a' = (putAll l0 0 u a0).put o.dst v ∧ T (k + j) v w' ∧ J (upd u (k + j) v) (setL L (k + j)) w' ∧ ∀ j v', j < n → L j = true → T j v' w → T j v' w') Q) [o] (putAll l0 0 u a0) w
  | [], _, _, j, o, hj => by simp at hj
  | q :: l, k, h, 0, o, hj => by
    obtain rfl : q = o := by simpa using hj
    exact h.1
  | q :: l, k, h, j + 1, o, hj => by
    have := stepsU_at l (k + 1) h.2 j o (by simpa using hj)
    rw [show k + (j + 1) = k + 1 + j by omega]; exact this

theorem mixu_all {l : List Oper} {n : Nat} {T : Nat → Value → World → Prop} {J : (Nat → Value) → (Nat → Bool) → World → Prop} {a0 : Act} (hB : mixB l n = true)
    (hs : StepsU P l.toArray Q n T J a0 (l.take n) (l.take n) 0)
    (hf : ∀ u w L, (∀ i, i < n → L i = true) → J u L w → (∀ i, i < n → T i (u i) w) → wpList P l.toArray Q (l.drop n) (putAll (l.take n) 0 u a0) w) :
    ∀ (f : Nat) (listed : Array Bool) (u : Nat → Value) (w : World), mu listed n ≤ f → HeadInv .any l.toArray n listed → J u (fun i => listed.getD i false) w → (∀ i, i < n → listed.getD i false = true → T i (u i) w) →
      wpAny P .any l.toArray Q (f + (l.length - n)) listed (putAll (l.take n) 0 u a0) w := by
  simp only [mixB, Bool.and_eq_true, decide_eq_true_eq, List.all_eq_true, List.mem_range, Bool.or_eq_true] at hB
  obtain ⟨⟨⟨⟨hn, hd⟩, h1⟩, h2⟩, h3⟩ := hB
  have done : ∀ (f : Nat) (listed : Array Bool) (u : Nat → Value) (w : World), mu listed n = 0 → HeadInv .any l.toArray n listed → J u (fun i => listed.getD i false) w → (∀ i, i < n → listed.getD i false = true → T i (u i) w) →
      wpAny P .any l.toArray Q (f + (l.length - n)) listed (putAll (l.take n) 0 u a0) w := by
    intro f listed u w hmu inv hb ht
    have hall := mu_zero n hmu
    have hls : listed.size = l.length := by rw [inv.size]; simp
    have he : listed = ((List.range l.length).map fun i => decide (i < n)).toArray := by
      apply Array.ext (by simp [hls])
      intro i hi hi2
      simp only [List.getElem_toArray, List.getElem_map, List.getElem_range]
      by_cases hin : i < n
      · have := hall i hin
        simp [hi] at this
        simp [this, hin]
      · have := inv.tail i (by omega) (by simpa using (by omega : i < l.length))
        simp [hi] at this
        simp [this, hin]
    refine wpAny_seq (l.drop n) n listed _ w _ (by simp) (fun j => by simp [List.getElem?_drop]) (by rw [he, List.length_drop]; exact h3) (hf u w _ hall hb (fun i hi => ht i hi (hall i hi)))
  intro f
  induction f with
  | zero => intro listed u w hmu inv hb ht; exact done 0 listed u w (by omega) inv hb ht
  | succ f ih =>
    intro listed u w hmu inv hb ht
    by_cases h0 : mu listed n = 0
    · exact done _ listed u w h0 inv hb ht
    · obtain ⟨m, hmn, hmu1, hmu2⟩ := mu_some n (by omega : 0 < mu listed n)
      have hls : listed.size = l.length := by rw [inv.size]; simp
      rw [show f + 1 + (l.length - n) = f + (l.length - n) + 1 by omega]
      refine ⟨fun hr => ?_, fun i hi => ?_⟩
      · have hm : m ∈ Region.ready .any l.toArray listed := by
          rw [mem_ready]
          refine ⟨getD_in (by omega) (by simpa using hmu1), ?_⟩
          have := h1 m hmn
          cases ho : l[m]? with
          | none => rw [ho] at this; simp at this
          | some o =>
            rw [ho] at this
            refine ⟨o, by simpa using ho, fun e he hbd => hmu2 e.on ?_⟩
            simp only [Array.all_eq_true_iff_forall_mem] at this
            have := this e he
            rw [hbd] at this
            simpa using this
        rw [hr] at hm; cases hm
      · obtain ⟨hun, o, ho, hall⟩ := mem_ready.1 hi
        have hil : i < l.length := by have := (Array.getElem?_eq_some_iff.1 ho).1; simpa using this
        have hin : i < n := by
          rcases h2 i hil with h | h
          · exact h
          · refine (hmu1 (reaches_listed inv n i m (h m hmn) fun o' ho' => ?_)).elim
            have : o' = o := Option.some.inj (ho'.symm.trans ho)
            subst this
            exact hall
        have ho2 : (l.take n)[i]? = some o := by rw [List.getElem?_take_of_lt hin]; simpa using ho
        have hun' : ¬ listed.getD i false = true := by rw [getD_both hun]; simp
        have hunf : listed.getD i false = false := by simpa using hun'
        have hst := stepsU_at (l.take n) 0 hs i o ho2 u w (fun i => listed.getD i false) (by rw [Nat.zero_add]; exact hunf) hb (depsL_of _ fun e he hbd hen => ⟨hall e (by simpa using he) hbd, ht e.on hen (hall e (by simpa using he) hbd)⟩)
        refine wpOp_of_one ho (fun a' w' hK => ?_) hst
        obtain ⟨v, rfl, htv, hJ2, hkeep⟩ := hK
        rw [Nat.zero_add] at htv hJ2
        rw [putAll_put (l.take n) 0 u a0 i o v hd ho2, Nat.zero_add]
        refine ih _ _ w' ?_ (inv.set hi hin) ?_ (fun j hj hl => ?_)
        · have := mu_set (by omega) hun' n hin; omega
        · have e : (fun j => (listed.setIfInBounds i true).getD j false) = setL (fun j => listed.getD j false) i := by
            funext j
            by_cases hji : j = i
            · subst hji
              rw [setL_self]
              simp [hls, hil]
            · rw [setL_ne _ hji, getD_set_ne false (Ne.symm hji)]
          rw [e]; exact hJ2
        · by_cases hji : j = i
          · subst hji; simpa [upd] using htv
          · rw [show upd u i v j = u j by unfold upd; rw [if_neg hji]]
            rw [getD_set_ne false (Ne.symm hji)] at hl
            exact hkeep j _ hj hl (ht j hj hl)

/-- **The statement by its operations.** -/
theorem wp_region_mixu {l : List Oper} {id : Nat} {a0 : Act} {w0 : World} (n : Nat) (T : Nat → Value → World → Prop) (J : (Nat → Value) → (Nat → Bool) → World → Prop) (hm : P.follows .mixedOrders = true) (hB : mixB l n = true)
    (h0 : ∀ u, J u (fun _ => false) w0.drew)
    (hs : StepsU P l.toArray Q n T J a0 (l.take n) (l.take n) 0)
    (hf : ∀ u w L, (∀ i, i < n → L i = true) → J u L w → (∀ i, i < n → T i (u i) w) → wpList P l.toArray Q (l.drop n) (putAll (l.take n) 0 u a0) w) : (Code.region id l.toArray true).wp P Q a0 w0 := by
  refine wp_region_any hm ?_
  have inv0 : HeadInv .any l.toArray n (Array.replicate l.toArray.size false) :=
    ⟨by simp, fun j oj _ hl => (by rw [getD_replicate_false] at hl; cases hl), fun t _ ht => getD_in (by simpa using ht) (getD_replicate_false _ _)⟩
  have hn : n ≤ l.length := by simp only [mixB, Bool.and_eq_true, decide_eq_true_eq] at hB; exact hB.1.1.1.1
  have hmu : mu (Array.replicate l.toArray.size false) n ≤ n := by
    have : ∀ (s : Array Bool) k, mu s k ≤ k := fun s k => by
      induction k with
      | zero => simp [mu]
      | succ k ih => unfold mu; split <;> omega
    exact this _ _
  have h := mixu_all (P := P) (Q := Q) hB hs hf n (Array.replicate l.toArray.size false) (fun i => match (l.take n)[i]? with | some o => slot a0 o.dst | none => undef) w0.drew hmu inv0 (by have e : (fun i => (Array.replicate l.toArray.size false).getD i false) = fun _ => false := (by funext i; rw [getD_replicate_false]); rw [e]; exact h0 _)
    (fun i _ hl => by rw [getD_replicate_false] at hl; cases hl)
  rw [putAll_self (l.take n) 0 _ a0 (fun j o hj => by simp only [Nat.zero_add, hj])] at h
  rw [show n + (l.length - n) = l.toArray.size by simp; omega] at h
  exact h
end

end Go.Proofs.YtejelednnacnaaaGreatDoor
