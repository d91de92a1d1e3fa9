/-
  A statement that draws its order, with loads, calls, new variables AND ONE OPERATION THAT CHANGES WHAT IS OLD (an append), and stores behind all of them: each operation is shown once, by what it waits for. No program in sight.
-/
import Derived.Test.YtnndpainnoebgaaMix
namespace Go.Proofs.Ytnndpainnoebgaa
open Go.RowKit

section
variable {P : Program} {Q : Exit → Act → World → Prop} {ops : Array Oper}

/-- Each operation, wherever it comes up: J false as long as operation p hasn't come, J true behind it; G is what p does to what is old; all others change nothing old. -/
def StepsP (P : Program) (ops : Array Oper) (Q : Exit → Act → World → Prop) (n p : Nat) (T : Nat → Value → World → Prop) (J : Bool → World → Prop) (G : World → World → Prop) (a0 : Act) (l0 : List Oper) : List Oper → Nat → Prop
  | [], _ => True
  | o :: l, k => ((k == p) = false → ∀ u w b, J b w → Deps n T u w o.after.toList →
      wpList P ops (Exit.then (fun a' w' => ∃ v, a' = (putAll l0 0 u a0).put o.dst v ∧ T k v w' ∧ Below w.heap.size w w') Q) [o] (putAll l0 0 u a0) w) ∧
    ((k == p) = true → ∀ u w, J false w → Deps n T u w o.after.toList →
      wpList P ops (Exit.then (fun a' w' => ∃ v, a' = (putAll l0 0 u a0).put o.dst v ∧ T k v w' ∧ G w w' ∧ J true w') Q) [o] (putAll l0 0 u a0) w) ∧ StepsP P ops Q n p T J G a0 l0 l (k + 1)
theorem upon_swap {o : Oper} {a : Act} {K K2 K3 : Act → World → Prop} {r : Result Next} (h : o.upon P a K (Exit.then K2 Q) r) : o.upon P a K (Exit.then K3 Q) r := by
  cases r with
  | ok n w' => cases n <;> exact h
  | halt x w' => cases x <;> exact h
theorem then_mono_one {K K' : Act → World → Prop} {o : Oper} {a : Act} {w : World} (hK : ∀ a w, K a w → K' a w) (h : wpList P ops (Exit.then K Q) [o] a w) : wpList P ops (Exit.then K' Q) [o] a w := by
  unfold wpList at h ⊢
  by_cases hw : Region.wanted o (yielded ops a.tmps) = true
  · rw [if_pos hw] at h ⊢
    rcases h with h | h
    · exact Or.inl (upon_swap (Oper.wp_mono (fun a w hx => hK a w hx) h))
    · exact Or.inr h
  · rw [if_neg hw] at h ⊢
    exact hK _ _ h
theorem stepsP_at {n p : Nat} {T : Nat → Value → World → Prop} {J : Bool → World → Prop} {G : World → World → Prop} {a0 : Act} {l0 : List Oper} (hJ : ∀ b w w', J b w → Below w.heap.size w w' → J b w') : ∀ (l : List Oper) (k : Nat), StepsP P ops Q n p T J G a0 l0 l k → ∀ j o, l[j]? = some o →
    ∀ u w (b : Bool), (k + j = p → b = false) → J b w → Deps n T u w o.after.toList → wpList P ops (Exit.then (fun a' w' => ∃ v, a' = (putAll l0 0 u a0).put o.dst v ∧ T (k + j) v w' ∧ (Below w.heap.size w w' ∨ b = false ∧ G w w') ∧ J (b || k + j == p) w') Q) [o] (putAll l0 0 u a0) w
  | [], _, _, j, o, hj => by simp at hj
  | q :: l, k, h, 0, o, hj => by
    obtain rfl : q = o := by simpa using hj
    intro u w b hb hj0 hd
    rw [Nat.add_zero] at hb ⊢
    by_cases hk : k = p
    · obtain rfl := hb hk
      have hkp : (k == p) = true := by simpa using hk
      refine then_mono_one (fun a' w' hx => ?_) (h.2.1 hkp u w hj0 hd)
      obtain ⟨v, h1, h2, h3, h4⟩ := hx
      exact ⟨v, h1, h2, Or.inr ⟨rfl, h3⟩, by rw [hkp]; exact h4⟩
    · have hkp : (k == p) = false := by simpa using hk
      refine then_mono_one (fun a' w' hx => ?_) (h.1 hkp u w b hj0 hd)
      obtain ⟨v, h1, h2, h3⟩ := hx
      exact ⟨v, h1, h2, Or.inl h3, by rw [hkp, Bool.or_false]; exact hJ b w w' hj0 h3⟩
  | q :: l, k, h, j + 1, o, hj => by
    have := stepsP_at hJ l (k + 1) h.2.2 j o (by simpa using hj)
    rw [show k + (j + 1) = k + 1 + j by omega]; exact this

theorem mixp_all {l : List Oper} {n p : Nat} {T : Nat → Value → World → Prop} {J : Bool → World → Prop} {G : World → World → Prop} {a0 : Act} (hB : mixB l n = true) (hp : p < n)
    (hT : ∀ i v w w', T i v w → Below w.heap.size w w' → T i v w') (hG : ∀ i v w w', i ≠ p → T i v w → G w w' → T i v w') (hJ : ∀ b w w', J b w → Below w.heap.size w w' → J b w')
    (hs : StepsP P l.toArray Q n p T J G a0 (l.take n) (l.take n) 0)
    (hf : ∀ u w, J true w → (∀ i, i < n → T i (u i) w) → wpList P l.toArray Q (l.drop n) (putAll (l.take n) 0 u a0) w) :
    ∀ (f : Nat) (listed : Array Bool) (u : Nat → Value) (w : World), mu listed n ≤ f → HeadInv .any l.toArray n listed → J (listed.getD p false) w → (∀ i, i < n → listed.getD i false = true → T i (u i) w) →
      wpAny P .any l.toArray Q (f + (l.length - n)) listed (putAll (l.take n) 0 u a0) w := by
  simp only [mixB, Bool.and_eq_true, decide_eq_true_eq, List.all_eq_true, List.mem_range, Bool.or_eq_true] at hB
  obtain ⟨⟨⟨⟨hn, hd⟩, h1⟩, h2⟩, h3⟩ := hB
  have done : ∀ (f : Nat) (listed : Array Bool) (u : Nat → Value) (w : World), mu listed n = 0 → HeadInv .any l.toArray n listed → J (listed.getD p false) w → (∀ i, i < n → listed.getD i false = true → T i (u i) w) →
      wpAny P .any l.toArray Q (f + (l.length - n)) listed (putAll (l.take n) 0 u a0) w := by
    intro f listed u w hmu inv hb ht
    have hall := mu_zero n hmu
    have hls : listed.size = l.length := by rw [inv.size]; simp
    have he : listed = ((List.range l.length).map fun i => decide (i < n)).toArray := by
      apply Array.ext (by simp [hls])
      intro i hi hi2
      simp only [List.getElem_toArray, List.getElem_map, List.getElem_range]
      by_cases hin : i < n
      · have := hall i hin
        simp [hi] at this
        simp [this, hin]
      · have := inv.tail i (by omega) (by simpa using (by omega : i < l.length))
        simp [hi] at this
        simp [this, hin]
    rw [hall p hp] at hb
    refine wpAny_seq (l.drop n) n listed _ w _ (by simp) (fun j => by simp [List.getElem?_drop]) (by rw [he, List.length_drop]; exact h3) (hf u w hb (fun i hi => ht i hi (hall i hi)))
  intro f
  induction f with
  | zero => intro listed u w hmu inv hb ht; exact done 0 listed u w (by omega) inv hb ht
  | succ f ih =>
    intro listed u w hmu inv hb ht
    by_cases h0 : mu listed n = 0
    · exact done _ listed u w h0 inv hb ht
    · obtain ⟨m, hmn, hmu1, hmu2⟩ := mu_some n (by omega : 0 < mu listed n)
      have hls : listed.size = l.length := by rw [inv.size]; simp
      rw [show f + 1 + (l.length - n) = f + (l.length - n) + 1 by omega]
      refine ⟨fun hr => ?_, fun i hi => ?_⟩
      · have hm : m ∈ Region.ready .any l.toArray listed := by
          rw [mem_ready]
          refine ⟨getD_in (by omega) (by simpa using hmu1), ?_⟩
          have := h1 m hmn
          cases ho : l[m]? with
          | none => rw [ho] at this; simp at this
          | some o =>
            rw [ho] at this
            refine ⟨o, by simpa using ho, fun e he hbd => hmu2 e.on ?_⟩
            simp only [Array.all_eq_true_iff_forall_mem] at this
            have := this e he
            rw [hbd] at this
            simpa using this
        rw [hr] at hm; cases hm
      · obtain ⟨hun, o, ho, hall⟩ := mem_ready.1 hi
        have hil : i < l.length := by have := (Array.getElem?_eq_some_iff.1 ho).1; simpa using this
        have hin : i < n := by
          rcases h2 i hil with h | h
          · exact h
          · refine (hmu1 (reaches_listed inv n i m (h m hmn) fun o' ho' => ?_)).elim
            have : o' = o := Option.some.inj (ho'.symm.trans ho)
            subst this
            exact hall
        have ho2 : (l.take n)[i]? = some o := by rw [List.getElem?_take_of_lt hin]; simpa using ho
        have hun' : ¬ listed.getD i false = true := by rw [getD_both hun]; simp
        have hst := stepsP_at hJ (l.take n) 0 hs i o ho2 u w (listed.getD p false) (fun e => by rw [Nat.zero_add] at e; subst e; simpa using hun') hb (deps_of _ fun e he hbd hen => ht e.on hen (hall e (by simpa using he) hbd))
        refine wpOp_of_one ho (fun a' w' hK => ?_) hst
        obtain ⟨v, rfl, htv, hR, hJ2⟩ := hK
        rw [Nat.zero_add] at htv hJ2
        rw [putAll_put (l.take n) 0 u a0 i o v hd ho2, Nat.zero_add]
        refine ih _ _ w' ?_ (inv.set hi hin) ?_ (fun j hj hl => ?_)
        · have := mu_set (by omega) hun' n hin; omega
        · by_cases hip : i = p
          · subst hip
            rw [show (listed.setIfInBounds i true).getD i false = true by simp [hls, hil]]
            simpa using hJ2
          · rw [getD_set_ne false hip]
            rw [show (i == p) = false by simpa using hip, Bool.or_false] at hJ2
            exact hJ2
        · by_cases hji : j = i
          · subst hji; simpa [upd] using htv
          · rw [show upd u i v j = u j by unfold upd; rw [if_neg hji]]
            rw [getD_set_ne false (Ne.symm hji)] at hl
            rcases hR with hR | ⟨hlp, hR⟩
            · exact hT j _ w w' (ht j hj hl) hR
            · exact hG j _ w w' (fun e => by subst e; rw [hl] at hlp; cases hlp) (ht j hj hl) hR

/-- **The statement by its operations.** -/
theorem wp_region_mixp {l : List Oper} {id : Nat} {a0 : Act} {w0 : World} (n p : Nat) (T : Nat → Value → World → Prop) (J : Bool → World → Prop) (G : World → World → Prop) (hm : P.follows .mixedOrders = true) (hB : mixB l n = true) (hp : p < n)
    (hT : ∀ i v w w', T i v w → Below w.heap.size w w' → T i v w') (hG : ∀ i v w w', i ≠ p → T i v w → G w w' → T i v w') (hJ : ∀ b w w', J b w → Below w.heap.size w w' → J b w') (h0 : J false w0.drew)
    (hs : StepsP P l.toArray Q n p T J G a0 (l.take n) (l.take n) 0)
    (hf : ∀ u w, J true w → (∀ i, i < n → T i (u i) w) → wpList P l.toArray Q (l.drop n) (putAll (l.take n) 0 u a0) w) : (Code.region id l.toArray true).wp P Q a0 w0 := by
  refine wp_region_any hm ?_
  have inv0 : HeadInv .any l.toArray n (Array.replicate l.toArray.size false) :=
    ⟨by simp, fun j oj _ hl => (by rw [getD_replicate_false] at hl; cases hl), fun t _ ht => getD_in (by simpa using ht) (getD_replicate_false _ _)⟩
  have hn : n ≤ l.length := by simp only [mixB, Bool.and_eq_true, decide_eq_true_eq] at hB; exact hB.1.1.1.1
  have hmu : mu (Array.replicate l.toArray.size false) n ≤ n := by
    have : ∀ (s : Array Bool) k, mu s k ≤ k := fun s k => by
      induction k with
      | zero => simp [mu]
      | succ k ih => unfold mu; split <;> omega
    exact this _ _
  have h := mixp_all (P := P) (Q := Q) hB hp hT hG hJ hs hf n (Array.replicate l.toArray.size false) (fun i => match (l.take n)[i]? with | some o => slot a0 o.dst | none => undef) w0.drew hmu inv0 (by rw [getD_replicate_false]; exact h0)
    (fun i _ hl => by rw [getD_replicate_false] at hl; cases hl)
  rw [putAll_self (l.take n) 0 _ a0 (fun j o hj => by simp only [Nat.zero_add, hj])] at h
  rw [show n + (l.length - n) = l.toArray.size by simp; omega] at h
  exact h
end

end Go.Proofs.Ytnndpainnoebgaa
