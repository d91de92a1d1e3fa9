/-
  A statement that draws its order, with loads, calls and new variables in whatever order, and stores behind all of them: each operation is shown once, by what it waits for. No program in sight.
-/
import Derived.StillTail
import Derived.WalkKit
namespace Go.Proofs.YtmgimkokmlcllaaGreatDoor
open Go.RowKit

section
variable {P : Program} {Q : Exit → Act → World → Prop} {ops : Array Oper}

def putAll : List Oper → Nat → (Nat → Value) → Act → Act
  | [], _, _, a => a
  | o :: l, k, u, a => putAll l (k + 1) u (a.put o.dst (u k))
def Deps (n : Nat) (T : Nat → Value → World → Prop) (u : Nat → Value) (w : World) : List Edge → Prop
  | [] => True
  | e :: es => (Region.binds .any e = true → e.on < n → T e.on (u e.on) w) ∧ Deps n T u w es
def blk : Value → Nat
  | .pointer (some a) => a.block
  | _ => 0
def StepsAll (P : Program) (ops : Array Oper) (Q : Exit → Act → World → Prop) (n : Nat) (T : Nat → Value → World → Prop) (A : Nat → Bool) (w0 : World) (a0 : Act) (l0 : List Oper) : List Oper → Nat → Prop
  | [], _ => True
  | o :: l, k => (∀ u w, Below w0.heap.size w0 w → Deps n T u w o.after.toList →
      wpList P ops (Exit.then (fun a' w' => ∃ v, a' = (putAll l0 0 u a0).put o.dst v ∧ T k v w' ∧ Below w.heap.size w w' ∧ (A k = true → w.heap.size ≤ blk v)) Q) [o] (putAll l0 0 u a0) w) ∧ StepsAll P ops Q n T A w0 a0 l0 l (k + 1)

theorem StepsAll.cons {n : Nat} {T : Nat → Value → World → Prop} {A : Nat → Bool} {w0 : World} {a0 : Act} {l0 l : List Oper} {o : Oper} {k : Nat} (h : ∀ u w, Below w0.heap.size w0 w → Deps n T u w o.after.toList →
      wpList P ops (Exit.then (fun a' w' => ∃ v, a' = (putAll l0 0 u a0).put o.dst v ∧ T k v w' ∧ Below w.heap.size w w' ∧ (A k = true → w.heap.size ≤ blk v)) Q) [o] (putAll l0 0 u a0) w) (h2 : StepsAll P ops Q n T A w0 a0 l0 l (k + 1)) : StepsAll P ops Q n T A w0 a0 l0 (o :: l) k := ⟨h, h2⟩
theorem StepsAll.nil {n : Nat} {T : Nat → Value → World → Prop} {A : Nat → Bool} {w0 : World} {a0 : Act} {l0 : List Oper} {k : Nat} : StepsAll P ops Q n T A w0 a0 l0 [] k := trivial
theorem upon_then {o : Oper} {a : Act} {K K2 : Act → World → Prop} {r : Result Next} (h : o.upon P a K (Exit.then K2 Q) r) : o.upon P a K Q r := by
  cases r with
  | ok n w' => cases n <;> exact h
  | halt x w' => cases x <;> exact h
theorem wpOp_of_one {i : Nat} {o : Oper} {a : Act} {w : World} {K K' : Act → World → Prop} (ho : ops[i]? = some o) (hK : ∀ a w, K a w → K' a w) (h : wpList P ops (Exit.then K Q) [o] a w) : wpOp P ops Q i K' a w := by
  refine wpOp_mono hK ?_
  unfold wpOp
  simp only [ho]
  unfold wpList at h
  split
  · rename_i hw
    rw [if_pos hw] at h
    rcases h with h | h
    · exact Or.inl (upon_then h)
    · exact Or.inr h
  · rename_i hw
    rw [if_neg hw] at h
    exact h
theorem steps_at {n : Nat} {T : Nat → Value → World → Prop} {A : Nat → Bool} {w0 : World} {a0 : Act} {l0 : List Oper} : ∀ (l : List Oper) (k : Nat), StepsAll P ops Q n T A w0 a0 l0 l k → ∀ j o, l[j]? = some o →
    ∀ u w, Below w0.heap.size w0 w → Deps n T u w o.after.toList → wpList P ops (Exit.then (fun a' w' => ∃ v, a' = (putAll l0 0 u a0).put o.dst v ∧ T (k + j) v w' ∧ Below w.heap.size w w' ∧ (A (k + j) = true → w.heap.size ≤ blk v)) Q) [o] (putAll l0 0 u a0) w
  | [], _, _, j, o, hj => by simp at hj
  | p :: l, k, h, 0, o, hj => by
    obtain rfl : p = o := by simpa using hj
    exact h.1
  | p :: l, k, h, j + 1, o, hj => by
    have := steps_at l (k + 1) h.2 j o (by simpa using hj)
    rw [show k + (j + 1) = k + 1 + j by omega]; exact this

theorem put_put (a : Act) (x : Option Tmp) (v u : Value) : (a.put x v).put x u = a.put x u := by
  cases x with
  | none => rfl
  | some d => simp [Act.put]
theorem putAll_comm : ∀ (l : List Oper) (k : Nat) (u : Nat → Value) (a : Act) (d : Option Tmp) (v : Value), d ∉ l.map (·.dst) → (putAll l k u a).put d v = putAll l k u (a.put d v)
  | [], _, _, _, _, _, _ => rfl
  | o :: l, k, u, a, d, v, h => by
    have h1 : ¬ d = o.dst := fun e => h (by simp [e])
    have h2 : d ∉ l.map (·.dst) := fun e => h (by simp only [List.map_cons, List.mem_cons]; exact Or.inr e)
    unfold putAll
    rw [putAll_comm l (k + 1) u _ d v h2, Act.put_comm a (x := o.dst) (y := d) (u k) v (fun e he hd => h1 (hd.trans he.symm))]
theorem putAll_congr : ∀ (l : List Oper) (k : Nat) (u u' : Nat → Value) (a : Act), (∀ j, k ≤ j → u j = u' j) → putAll l k u a = putAll l k u' a
  | [], _, _, _, _, _ => rfl
  | o :: l, k, u, u', a, h => by
    unfold putAll
    rw [h k (Nat.le_refl _)]
    exact putAll_congr l (k + 1) u u' _ fun j hj => h j (by omega)
def upd (u : Nat → Value) (i : Nat) (v : Value) : Nat → Value := fun j => if j = i then v else u j
theorem putAll_put : ∀ (l : List Oper) (k : Nat) (u : Nat → Value) (a : Act) (i : Nat) (o : Oper) (v : Value), (l.map (·.dst)).Nodup → l[i]? = some o → (putAll l k u a).put o.dst v = putAll l k (upd u (k + i) v) a
  | [], _, _, _, i, _, _, _, hi => by simp at hi
  | p :: l, k, u, a, 0, o, v, hd, hi => by
    obtain rfl : p = o := by simpa using hi
    rw [List.map_cons, List.nodup_cons] at hd
    unfold putAll
    rw [putAll_comm l (k + 1) u _ _ v hd.1, put_put, show upd u (k + 0) v k = v by simp [upd]]
    exact putAll_congr l (k + 1) u _ _ fun j hj => by unfold upd; rw [if_neg (by omega)]
  | p :: l, k, u, a, i + 1, o, v, hd, hi => by
    rw [List.map_cons, List.nodup_cons] at hd
    unfold putAll
    rw [putAll_put l (k + 1) u _ i o v hd.2 (by simpa using hi), show k + 1 + i = k + (i + 1) by omega, show upd u (k + (i + 1)) v k = u k by unfold upd; rw [if_neg (by omega)]]
def slot (a : Act) : Option Tmp → Value
  | some d => a.tmps.getD d undef
  | none => undef
theorem put_slot (a : Act) (d : Option Tmp) : a.put d (slot a d) = a := by
  cases d with
  | none => rfl
  | some d =>
    unfold Act.put slot
    have : a.tmps.setIfInBounds d (a.tmps.getD d undef) = a.tmps := by
      apply Array.ext_getElem?
      intro k
      by_cases h : d = k
      · subst h
        by_cases hs : d < a.tmps.size
        · simp [hs]
        · simp [Array.getElem?_eq_none (Nat.le_of_not_lt hs)]; exact Nat.le_of_not_lt hs
      · rw [Array.getElem?_setIfInBounds_ne h]
    simp only [this]
theorem putAll_self : ∀ (l : List Oper) (k : Nat) (u : Nat → Value) (a : Act), (∀ j o, l[j]? = some o → u (k + j) = slot a o.dst) → putAll l k u a = a
  | [], _, _, _, _ => rfl
  | o :: l, k, u, a, h => by
    unfold putAll
    rw [show u k = slot a o.dst from h 0 o rfl, put_slot]
    exact putAll_self l (k + 1) u a fun j p hp => by rw [show k + 1 + j = k + (j + 1) by omega]; exact h (j + 1) p (by simpa using hp)

def mu (listed : Array Bool) : Nat → Nat
  | 0 => 0
  | k + 1 => mu listed k + if listed.getD k false = true then 0 else 1
theorem mu_zero {listed : Array Bool} : ∀ k, mu listed k = 0 → ∀ i, i < k → listed.getD i false = true
  | 0, _, i, hi => by omega
  | k + 1, h, i, hi => by
    unfold mu at h
    by_cases hik : i = k
    · subst hik
      by_cases hl : listed.getD i false = true
      · exact hl
      · rw [if_neg hl] at h; omega
    · exact mu_zero k (by omega) i (by omega)
theorem mu_some {listed : Array Bool} : ∀ k, 0 < mu listed k → ∃ i, i < k ∧ ¬ listed.getD i false = true ∧ ∀ j, j < i → listed.getD j false = true
  | 0, h => by simp [mu] at h
  | k + 1, h => by
    by_cases h0 : 0 < mu listed k
    · obtain ⟨i, hi, h1, h2⟩ := mu_some k h0
      exact ⟨i, by omega, h1, h2⟩
    · refine ⟨k, by omega, fun hl => ?_, fun j hj => mu_zero k (by omega) j hj⟩
      unfold mu at h
      rw [if_pos hl] at h; omega
theorem mu_set_le {listed : Array Bool} {i : Nat} : ∀ k, mu (listed.setIfInBounds i true) k ≤ mu listed k
  | 0 => Nat.le_refl _
  | k + 1 => by
    have := mu_set_le (listed := listed) (i := i) k
    unfold mu
    by_cases hl : listed.getD k false = true
    · rw [if_pos hl, if_pos (getD_set_true hl)]; omega
    · rw [if_neg hl]; split <;> omega
theorem mu_set {listed : Array Bool} {i : Nat} (hi : i < listed.size) (hu : ¬ listed.getD i false = true) : ∀ k, i < k → mu (listed.setIfInBounds i true) k + 1 ≤ mu listed k
  | 0, h => by omega
  | k + 1, h => by
    unfold mu
    by_cases hik : i = k
    · subst hik
      have := mu_set_le (listed := listed) (i := i) i
      rw [if_neg hu, if_pos (by simp [hi])]; omega
    · have := mu_set hi hu k (by omega)
      rw [getD_set_ne false hik]; omega

theorem wpAny_seq : ∀ (l : List Oper) (k : Nat) (listed : Array Bool) (a : Act) (w : World) (f : Nat), l.length ≤ f → (∀ j, l[j]? = ops[k + j]?) →
    Region.seqB .any ops l.length k listed = true → wpList P ops Q l a w → wpAny P .any ops Q f listed a w
  | [], _, _, _, _, 0, _, _, hB, h => ⟨by simpa [Region.seqB] using hB, h⟩
  | [], _, listed, _, _, f + 1, _, _, hB, h => by
    have hr : Region.ready .any ops listed = [] := by simpa [Region.seqB] using hB
    exact ⟨fun _ => h, fun i hi => by rw [hr] at hi; cases hi⟩
  | o :: l, k, listed, a, w, 0, hf, _, _, _ => by simp at hf
  | o :: l, k, listed, a, w, f + 1, hf, hl, hB, h => by
    have h0 : ops[k]? = some o := by simpa using (hl 0).symm
    simp only [List.length_cons, Region.seqB, Bool.and_eq_true, decide_eq_true_eq] at hB
    refine ⟨fun h1 => (by rw [hB.1] at h1; cases h1), fun i hi => ?_⟩
    rw [hB.1] at hi
    have hik : i = k := by simpa using hi
    subst hik
    have hw : wpOp P ops Q i (wpList P ops Q l) a w := by unfold wpOp; simp only [h0]; exact h
    exact wpOp_mono (fun a' w' h' => wpAny_seq l (i + 1) _ a' w' f (by simpa using hf) (fun j => by have := hl (j + 1); simpa [Nat.add_assoc, Nat.add_comm 1 j] using this) hB.2 h') hw

def reaches (l : List Oper) (f : Nat) : Nat → Nat → Bool :=
  Nat.rec (motive := fun _ => Nat → Nat → Bool) (fun k i => Region.waitsFor .any l.toArray k i) (fun _ r k i => Region.waitsFor .any l.toArray k i || (List.range k).any fun j => Region.waitsFor .any l.toArray k j && r j i) f
theorem reaches_listed {l : List Oper} {n : Nat} {listed : Array Bool} (inv : HeadInv .any l.toArray n listed) : ∀ (f k i : Nat), reaches l f k i = true →
    (∀ o, l.toArray[k]? = some o → ∀ e ∈ o.after, Region.binds .any e = true → listed.getD e.on false = true) → listed.getD i false = true
  | 0, k, i, h, hk => by
    obtain ⟨o, ho, e, he, hb, hon⟩ := Region.waitsFor_spec (show Region.waitsFor .any l.toArray k i = true from h)
    rw [← hon]; exact hk o ho e he hb
  | f + 1, k, i, h, hk => by
    simp only [reaches, Bool.or_eq_true, List.any_eq_true, List.mem_range, Bool.and_eq_true] at h
    rcases h with h | ⟨j, _, h1, h2⟩
    · obtain ⟨o, ho, e, he, hb, hon⟩ := Region.waitsFor_spec h
      rw [← hon]; exact hk o ho e he hb
    · obtain ⟨o, ho, e, he, hb, hon⟩ := Region.waitsFor_spec h1
      have hj : listed.getD j false = true := by rw [← hon]; exact hk o ho e he hb
      exact reaches_listed inv f j i h2 fun o' ho' => inv.closed j o' ho' hj

def mixB (l : List Oper) (n : Nat) : Bool :=
  decide (n ≤ l.length) && decide (((l.take n).map (·.dst)).Nodup) &&
  ((List.range n).all fun i => match l[i]? with | some o => o.after.all fun e => !Region.binds .any e || decide (e.on < i) | none => false) &&
  ((List.range l.length).all fun k => decide (k < n) || (List.range n).all fun i => reaches l n k i) &&
  Region.seqB .any l.toArray (l.length - n) n ((List.range l.length).map fun i => decide (i < n)).toArray

theorem deps_of {n : Nat} {T : Nat → Value → World → Prop} {u : Nat → Value} {w : World} : ∀ (es : List Edge), (∀ e ∈ es, Region.binds .any e = true → e.on < n → T e.on (u e.on) w) → Deps n T u w es
  | [], _ => trivial
  | e :: es, h => ⟨h e (by simp), deps_of es fun e' he' => h e' (by simp [he'])⟩

theorem mix_all {l : List Oper} {n : Nat} {T : Nat → Value → World → Prop} {A : Nat → Bool} {w0 : World} {a0 : Act} (hB : mixB l n = true)
    (hT : ∀ i v w w', T i v w → Below w.heap.size w w' → T i v w')
    (hA : ∀ i v w, A i = true → T i v w → blk v < w.heap.size)
    (hs : StepsAll P l.toArray Q n T A w0 a0 (l.take n) (l.take n) 0)
    (hf : ∀ u w, Below w0.heap.size w0 w → (∀ i, i < n → T i (u i) w) → (∀ i j, i < n → j < n → A i = true → A j = true → i ≠ j → blk (u i) ≠ blk (u j)) → wpList P l.toArray Q (l.drop n) (putAll (l.take n) 0 u a0) w) :
    ∀ (f : Nat) (listed : Array Bool) (u : Nat → Value) (w : World), mu listed n ≤ f → HeadInv .any l.toArray n listed → Below w0.heap.size w0 w → (∀ i, i < n → listed.getD i false = true → T i (u i) w) → (∀ i j, i < n → j < n → A i = true → A j = true → listed.getD i false = true → listed.getD j false = true → i ≠ j → blk (u i) ≠ blk (u j)) →
      wpAny P .any l.toArray Q (f + (l.length - n)) listed (putAll (l.take n) 0 u a0) w := by
  simp only [mixB, Bool.and_eq_true, decide_eq_true_eq, List.all_eq_true, List.mem_range, Bool.or_eq_true] at hB
  obtain ⟨⟨⟨⟨hn, hd⟩, h1⟩, h2⟩, h3⟩ := hB
  have done : ∀ (f : Nat) (listed : Array Bool) (u : Nat → Value) (w : World), mu listed n = 0 → HeadInv .any l.toArray n listed → Below w0.heap.size w0 w → (∀ i, i < n → listed.getD i false = true → T i (u i) w) → (∀ i j, i < n → j < n → A i = true → A j = true → listed.getD i false = true → listed.getD j false = true → i ≠ j → blk (u i) ≠ blk (u j)) →
      wpAny P .any l.toArray Q (f + (l.length - n)) listed (putAll (l.take n) 0 u a0) w := by
    intro f listed u w hmu inv hb ht hdj
    have hall := mu_zero n hmu
    have hls : listed.size = l.length := by rw [inv.size]; simp
    have he : listed = ((List.range l.length).map fun i => decide (i < n)).toArray := by
      apply Array.ext (by simp [hls])
      intro i hi hi2
      simp only [List.getElem_toArray, List.getElem_map, List.getElem_range]
      by_cases hin : i < n
      · have := hall i hin
        simp [hi] at this
        simp [this, hin]
      · have := inv.tail i (by omega) (by simpa using (by omega : i < l.length))
        simp [hi] at this
        simp [this, hin]
    refine wpAny_seq (l.drop n) n listed _ w _ (by simp) (fun j => by simp [List.getElem?_drop]) (by rw [he, List.length_drop]; exact h3) (hf u w hb (fun i hi => ht i hi (hall i hi)) fun i j hi hj ai aj => hdj i j hi hj ai aj (hall i hi) (hall j hj))
  intro f
  induction f with
  | zero => intro listed u w hmu inv hb ht hdj; exact done 0 listed u w (by omega) inv hb ht hdj
  | succ f ih =>
    intro listed u w hmu inv hb ht hdj
    by_cases h0 : mu listed n = 0
    · exact done _ listed u w h0 inv hb ht hdj
    · obtain ⟨m, hmn, hmu1, hmu2⟩ := mu_some n (by omega : 0 < mu listed n)
      have hls : listed.size = l.length := by rw [inv.size]; simp
      rw [show f + 1 + (l.length - n) = f + (l.length - n) + 1 by omega]
      refine ⟨fun hr => ?_, fun i hi => ?_⟩
      · have hm : m ∈ Region.ready .any l.toArray listed := by
          rw [mem_ready]
          refine ⟨getD_in (by omega) (by simpa using hmu1), ?_⟩
          have := h1 m hmn
          cases ho : l[m]? with
          | none => rw [ho] at this; simp at this
          | some o =>
            rw [ho] at this
            refine ⟨o, by simpa using ho, fun e he hbd => hmu2 e.on ?_⟩
            simp only [Array.all_eq_true_iff_forall_mem] at this
            have := this e he
            rw [hbd] at this
            simpa using this
        rw [hr] at hm; cases hm
      · obtain ⟨hun, o, ho, hall⟩ := mem_ready.1 hi
        have hil : i < l.length := by have := (Array.getElem?_eq_some_iff.1 ho).1; simpa using this
        have hin : i < n := by
          rcases h2 i hil with h | h
          · exact h
          · refine (hmu1 (reaches_listed inv n i m (h m hmn) fun o' ho' => ?_)).elim
            have : o' = o := Option.some.inj (ho'.symm.trans ho)
            subst this
            exact hall
        have ho2 : (l.take n)[i]? = some o := by rw [List.getElem?_take_of_lt hin]; simpa using ho
        have hst := steps_at (l.take n) 0 hs i o ho2 u w hb (deps_of _ fun e he hbd hen => ht e.on hen (hall e (by simpa using he) hbd))
        refine wpOp_of_one ho (fun a' w' hK => ?_) hst
        obtain ⟨v, rfl, htv, hbel, hnew⟩ := hK
        rw [Nat.zero_add] at htv hnew
        rw [putAll_put (l.take n) 0 u a0 i o v hd ho2, Nat.zero_add]
        have hun' : ¬ listed.getD i false = true := by rw [getD_both hun]; simp
        refine ih _ _ w' ?_ (inv.set hi hin) (hb.trans (hbel.mono hb.size)) (fun j hj hl => ?_) (fun j k hj hk aj ak lj lk hjk => ?_)
        · have := mu_set (by omega) hun' n hin; omega
        · by_cases hji : j = i
          · subst hji; simpa [upd] using htv
          · rw [show upd u i v j = u j by unfold upd; rw [if_neg hji]]
            rw [getD_set_ne false (Ne.symm hji)] at hl
            exact hT j _ w w' (ht j hj hl) hbel
        · by_cases hji : j = i
          · subst hji
            rw [getD_set_ne false hjk] at lk
            rw [show upd u j v j = v by simp [upd], show upd u j v k = u k by unfold upd; rw [if_neg (Ne.symm hjk)]]
            have := hA k _ w ak (ht k hk lk)
            have := hnew aj
            omega
          · rw [getD_set_ne false (Ne.symm hji)] at lj
            by_cases hki : k = i
            · subst hki
              rw [show upd u k v k = v by simp [upd], show upd u k v j = u j by unfold upd; rw [if_neg hji]]
              have := hA j _ w aj (ht j hj lj)
              have := hnew ak
              omega
            · rw [getD_set_ne false (Ne.symm hki)] at lk
              rw [show upd u i v j = u j by unfold upd; rw [if_neg hji], show upd u i v k = u k by unfold upd; rw [if_neg hki]]
              exact hdj j k hj hk aj ak lj lk hjk

theorem wp_region_mix {l : List Oper} {id : Nat} {a0 : Act} {w0 : World} (n : Nat) (T : Nat → Value → World → Prop) (A : Nat → Bool) (hm : P.follows .mixedOrders = true) (hB : mixB l n = true)
    (hT : ∀ i v w w', T i v w → Below w.heap.size w w' → T i v w')
    (hA : ∀ i v w, A i = true → T i v w → blk v < w.heap.size)
    (hs : StepsAll P l.toArray Q n T A w0 a0 (l.take n) (l.take n) 0)
    (hf : ∀ u w, Below w0.heap.size w0 w → (∀ i, i < n → T i (u i) w) → (∀ i j, i < n → j < n → A i = true → A j = true → i ≠ j → blk (u i) ≠ blk (u j)) → wpList P l.toArray Q (l.drop n) (putAll (l.take n) 0 u a0) w) : (Code.region id l.toArray true).wp P Q a0 w0 := by
  refine wp_region_any hm ?_
  have inv0 : HeadInv .any l.toArray n (Array.replicate l.toArray.size false) :=
    ⟨by simp, fun j oj _ hl => (by rw [getD_replicate_false] at hl; cases hl), fun t _ ht => getD_in (by simpa using ht) (getD_replicate_false _ _)⟩
  have hn : n ≤ l.length := by simp only [mixB, Bool.and_eq_true, decide_eq_true_eq] at hB; exact hB.1.1.1.1
  have hmu : mu (Array.replicate l.toArray.size false) n ≤ n := by
    have : ∀ (s : Array Bool) k, mu s k ≤ k := fun s k => by
      induction k with
      | zero => simp [mu]
      | succ k ih => unfold mu; split <;> omega
    exact this _ _
  have h := mix_all (P := P) (Q := Q) hB hT hA hs hf n (Array.replicate l.toArray.size false) (fun i => match (l.take n)[i]? with | some o => slot a0 o.dst | none => undef) w0.drew hmu inv0 (Below.refl _ _).drew
    (fun i _ hl => by rw [getD_replicate_false] at hl; cases hl) (fun i j _ _ _ _ hl => by rw [getD_replicate_false] at hl; cases hl)
  rw [putAll_self (l.take n) 0 _ a0 (fun j o hj => by simp only [Nat.zero_add, hj])] at h
  rw [show n + (l.length - n) = l.toArray.size by simp; omega] at h
  exact h
end

def TLst (l : List Value) (k : Nat) (v : Value) (_w : World) : Prop := v = l.getD k undef

end Go.Proofs.YtmgimkokmlcllaaGreatDoor

/-
  A statement that draws its order, with loads, calls, new variables AND ONE OPERATION THAT CHANGES WHAT IS OLD (an append), and stores behind all of them: each operation is shown once, by what it waits for. No program in sight.
-/
namespace Go.Proofs.YtmgimkokmlcllaaGreatDoor
open Go.RowKit

section
variable {P : Program} {Q : Exit → Act → World → Prop} {ops : Array Oper}

def StepsP (P : Program) (ops : Array Oper) (Q : Exit → Act → World → Prop) (n p : Nat) (T : Nat → Value → World → Prop) (J : Bool → World → Prop) (G : World → World → Prop) (a0 : Act) (l0 : List Oper) : List Oper → Nat → Prop
  | [], _ => True
  | o :: l, k => ((k == p) = false → ∀ u w b, J b w → Deps n T u w o.after.toList →
      wpList P ops (Exit.then (fun a' w' => ∃ v, a' = (putAll l0 0 u a0).put o.dst v ∧ T k v w' ∧ Below w.heap.size w w') Q) [o] (putAll l0 0 u a0) w) ∧
    ((k == p) = true → ∀ u w, J false w → Deps n T u w o.after.toList →
      wpList P ops (Exit.then (fun a' w' => ∃ v, a' = (putAll l0 0 u a0).put o.dst v ∧ T k v w' ∧ G w w' ∧ J true w') Q) [o] (putAll l0 0 u a0) w) ∧ StepsP P ops Q n p T J G a0 l0 l (k + 1)
end

end Go.Proofs.YtmgimkokmlcllaaGreatDoor

/-
  A statement that draws its order, with whatever operations, calls that change what is old among them: each operation is shown once, by what it waits for, under a relation J of one's own that says how the world stands by what has come up (L). No program in sight.
-/
namespace Go.Proofs.YtmgimkokmlcllaaGreatDoor
open Go.RowKit

section
variable {P : Program} {Q : Exit → Act → World → Prop} {ops : Array Oper}

def setL (L : Nat → Bool) (k : Nat) : Nat → Bool := fun j => if j = k then true else L j
def DepsL (n : Nat) (T : Nat → Value → World → Prop) (L : Nat → Bool) (u : Nat → Value) (w : World) : List Edge → Prop
  | [] => True
  | e :: es => (Region.binds .any e = true → e.on < n → L e.on = true ∧ T e.on (u e.on) w) ∧ DepsL n T L u w es
def StepsJ (P : Program) (ops : Array Oper) (Q : Exit → Act → World → Prop) (n : Nat) (T : Nat → Value → World → Prop) (J : (Nat → Bool) → World → Prop) (a0 : Act) (l0 : List Oper) : List Oper → Nat → Prop
  | [], _ => True
  | o :: l, k => (∀ u w L, L k = false → J L w → DepsL n T L u w o.after.toList → wpList P ops (Exit.then (fun a' w' => ∃ v, a' = (putAll l0 0 u a0).put o.dst v ∧ T k v w' ∧ J (setL L k) w' ∧ ∀ j v', j < n → L j = true → T j v' w → T j v' w') Q) [o] (putAll l0 0 u a0) w) ∧ StepsJ P ops Q n T J a0 l0 l (k + 1)
end

end Go.Proofs.YtmgimkokmlcllaaGreatDoor

/-
  As MixJ, but that the relation J also sees the values that have come up (u): so new variables that are stored to while other operations still come can be told by their pointers. No program in sight.
-/
namespace Go.Proofs.YtmgimkokmlcllaaGreatDoor
open Go.RowKit

section
variable {P : Program} {Q : Exit → Act → World → Prop} {ops : Array Oper}

def StepsU (P : Program) (ops : Array Oper) (Q : Exit → Act → World → Prop) (n : Nat) (T : Nat → Value → World → Prop) (J : (Nat → Value) → (Nat → Bool) → World → Prop) (a0 : Act) (l0 : List Oper) : List Oper → Nat → Prop
  | [], _ => True
  | o :: l, k => (∀ u w L, L k = false → J u L w → DepsL n T L u w o.after.toList → wpList P ops (Exit.then (fun a' w' => ∃ v, a' = (putAll l0 0 u a0).put o.dst v ∧ T k v w' ∧ J (upd u k v) (setL L k) w' ∧ ∀ j v', j < n → L j = true → T j v' w → T j v' w') Q) [o] (putAll l0 0 u a0) w) ∧ StepsU P ops Q n T J a0 l0 l (k + 1)
end

end Go.Proofs.YtmgimkokmlcllaaGreatDoor
