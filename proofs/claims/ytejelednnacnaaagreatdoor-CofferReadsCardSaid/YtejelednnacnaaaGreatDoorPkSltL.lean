/-
  Package slots as it landed: Format, Open: walked.
-/
import Derived.Test.YtejelednnacnaaaGreatDoorPkSltJ
namespace Go.Proofs.YtejelednnacnaaaGreatDoor
open Go.RowKit

/-- Values that come up, and bytes of 0 in new memory, of number 6. -/
def TZ6 (l : List Value) (B N : Nat) : Nat → Value → World → Prop
  | 6, v, w => ∃ g, v = .slice (some ⟨g, 0, none⟩) N N ∧ RowB w g (List.replicate N 0) ∧ B ≤ g
  | k, v, _ => v = l.getD k undef
theorem TZ6.keep {l : List Value} {B N : Nat} (i : Nat) (v : Value) (w w' : World) (h : TZ6 l B N i v w) (hb : Below w.heap.size w w') : TZ6 l B N i v w' := by
  unfold TZ6 at h ⊢
  split at h
  · obtain ⟨g, h1, h2, h3⟩ := h
    exact ⟨g, h1, h2.kept (hb.block g h2.lt), h3⟩
  · exact h
set_option maxRecDepth 100000 in
set_option maxHeartbeats 8000000 in
theorem sformat_not (base : Nat) (O : Foot) (r : Nat) (D : Dsk) (f k : Int) (w : World) (h : DskIs w base O r D) (hn : ¬ OnSl D.n f k) (f0 : -9223372036854775808 ≤ f) (f1 : f ≤ 9223372036854775807) (k0 : -9223372036854775808 ≤ k) (k1 : k ≤ 9223372036854775807) :
    Calls Tryz.prog 54 #[.pointer (some ⟨r, 0, none⟩), .int .i64 f, .int .i64 k] w fun e w' => e = .returned (.int .i64 2) ∧ Below w.heap.size w w' := by
  have HON := Lib.hid (son_not base O r D f k w h hn f0 f1 k0 k1)
  clear h hn
  go_enter Tryz.func54, Tryz.ntmps54
  go_wp2_with (go_at_call 62; (with_reducible refine (HON.out).mono ?_); rintro e w1 ⟨rfl, g1⟩; have G1 := Lib.hid (below_more g1 (.cells #[.pointer none, .int .i64 0, .int .i64 0] 108)); clear g1)
  go_ret
  exact ⟨rfl, G1.out⟩
set_option maxRecDepth 100000 in
set_option maxHeartbeats 8000000 in
theorem sformat_any (base : Nat) (O : Foot) (r : Nat) (D : Dsk) (f k : Nat) (w : World) (_env : Env w) (h : DskIs w base O r D) (k1 : 1 ≤ k) (on : f + 2 * k ≤ D.n) (dk : D.dark = false) (hw : D.waits = []) (hd : D.deeds ≤ 900000) :
    Calls Tryz.prog 54 #[.pointer (some ⟨r, 0, none⟩), .int .i64 (f : Int), .int .i64 (k : Int)] w fun e w' => ∃ c D', e = .returned (.int .i64 c) ∧ FmtOut D (f * D.size) (k * D.size + k * D.size) c D' ∧ DskTo base O r D' w w' := by
  have hs : 0 < D.size := by have := h.ok.s0; omega
  have hM : 0 < k * D.size := Nat.mul_pos (by omega) hs
  have h2 : 2 * k * D.size = k * D.size + k * D.size := by rw [Nat.mul_assoc]; omega
  have HON := Lib.hid (son_any base O r D f k w h k1 on)
  have HLN := Lib.hid (fun W (g : Below w.heap.size w W) => slength_any base O r D f k W (h.after g) (by have := h.ok.n1; omega))
  have hOw : Hid (∀ i, O i → i < w.heap.size) := fun i hi => (h.own i hi).2
  have hmost := h.ok.most
  have hNb : 2 * k * D.size ≤ D.n * D.size := Nat.mul_le_mul_right _ (by omega)
  have hbase : Hid (base ≤ w.heap.size) := by have := h.own r h.mem; unfold Hid; omega
  have HOK := Lib.hid (And.intro h.ok on)
  have HWP := Lib.hid (fun W (g : Below w.heap.size w W) v (hv : ArgB W v (List.replicate (2 * k * D.size) 0)) (hO : ∀ j, v.ownBlock = some j → ¬ O j) => swrite_any base O r D f (2 * k) (f : Int) (k : Int) v (List.replicate (2 * k * D.size) 0) W (h.after g) (by omega) dk hw (by omega) (by rw [List.length_replicate]; exact Nat.le_refl _) (by rw [List.length_replicate]; omega) hv hO (fun z hz => by rw [(List.mem_replicate.mp hz).2]; omega))
  obtain ⟨N, hN⟩ : ∃ N, 2 * k * D.size = N := ⟨_, rfl⟩
  obtain ⟨M, hMe⟩ : ∃ M, k * D.size = M := ⟨_, rfl⟩
  have HN := Lib.hid hN
  have HM := Lib.hid hMe
  rw [hN] at HWP h2 hNb
  rw [hMe] at HLN h2
  have hNb2 : N ≤ 1000000 := by omega
  have hw9 : (2 : Int) * (M : Int) = (N : Int) := by omega
  have H2 := Lib.hid h2
  clear h k1 on dk hw hd hs hM hN hMe hmost hNb h2
  unfold GivesRg at HON
  go_enter Tryz.func54, Tryz.ntmps54
  go_wp2_with (go_at_call 62; (with_reducible refine (HON.out).mono ?_); rintro e w1 ⟨rfl, g1⟩; have G1 := Lib.hid (below_more g1 (.cells #[.pointer (some ⟨r, 0, none⟩), .int .i64 (f : Int), .int .i64 (k : Int)] 108)); have V1 := Lib.hid (Var3.fresh w1 (.pointer (some ⟨r, 0, none⟩)) (.int .i64 (f : Int)) (.int .i64 (k : Int)) 108 _ rfl); have S1 := Lib.hid g1.size; clear g1)
  have HV := Lib.hid (fun W (hb : Below (w1.alloc (.cells #[.pointer (some ⟨r, 0, none⟩), .int .i64 (f : Int), .int .i64 (k : Int)] 108)).heap.size (w1.alloc (.cells #[.pointer (some ⟨r, 0, none⟩), .int .i64 (f : Int), .int .i64 (k : Int)] 108)) W) => V1.out.after hb)
  refine wp_region_mix 7 (TZ6 [.agg #[.pointer (some ⟨r, 0, none⟩), .int .i64 (f : Int), .int .i64 (k : Int)], .pointer (some ⟨w1.heap.size, 1, none⟩), .int .i64 (f : Int), .agg #[.pointer (some ⟨r, 0, none⟩), .int .i64 (f : Int), .int .i64 (k : Int)], .int .i64 (M : Int), .int .i64 (N : Int), undef] w.heap.size N) (fun _ => false) (by kernel_rfl) (by kernel_rfl) TZ6.keep (fun _ _ _ h => by cases h) ?_ ?_
  · simp only [List.take_succ_cons, List.take_zero]
    refine (StepsAll.cons ?_ (StepsAll.cons ?_ (StepsAll.cons ?_ (StepsAll.cons ?_ (StepsAll.cons ?_ (StepsAll.cons ?_ (StepsAll.cons ?_ StepsAll.nil)))))))
    · intro u W hb hd
      have V3 := HV.out W hb
      have c0 := V3.c0
      have c1 := V3.c1
      have c2 := V3.c2
      simp only [putAll, Act.put, List.setIfInBounds_toArray, List.set_cons_succ, List.set_cons_zero, Nat.zero_add, Nat.reduceAdd]
      go_wp2
      first | exact ⟨rfl, Below.refl _ _⟩ | exact ⟨_, rfl, rfl, Below.refl _ _, fun h => by simp at h⟩ | exact ⟨_, rfl, rfl, Below.refl _ _⟩ | exact ⟨rfl, Below.refl _ _, fun h => by simp at h⟩
    · intro u W hb hd
      simp only [putAll, Act.put, List.setIfInBounds_toArray, List.set_cons_succ, List.set_cons_zero, Nat.zero_add, Nat.reduceAdd]
      go_wp2
      first | exact ⟨rfl, Below.refl _ _⟩ | exact ⟨_, rfl, rfl, Below.refl _ _, fun h => by simp at h⟩ | exact ⟨_, rfl, rfl, Below.refl _ _⟩ | exact ⟨rfl, Below.refl _ _, fun h => by simp at h⟩
    · intro u W hb hd
      have e0 : u 1 = .pointer (some ⟨w1.heap.size, 1, none⟩) := hd.1 rfl (by decide)
      have V3 := HV.out W hb
      have c0 := V3.c0
      have c1 := V3.c1
      have c2 := V3.c2
      simp only [putAll, Act.put, List.setIfInBounds_toArray, List.set_cons_succ, List.set_cons_zero, Nat.zero_add, Nat.reduceAdd]
      rw [e0]
      go_wp2
      first | exact ⟨rfl, Below.refl _ _⟩ | exact ⟨_, rfl, rfl, Below.refl _ _, fun h => by simp at h⟩ | exact ⟨_, rfl, rfl, Below.refl _ _⟩ | exact ⟨rfl, Below.refl _ _, fun h => by simp at h⟩
    · intro u W hb hd
      have V3 := HV.out W hb
      have c0 := V3.c0
      have c1 := V3.c1
      have c2 := V3.c2
      simp only [putAll, Act.put, List.setIfInBounds_toArray, List.set_cons_succ, List.set_cons_zero, Nat.zero_add, Nat.reduceAdd]
      go_wp2
      first | exact ⟨rfl, Below.refl _ _⟩ | exact ⟨_, rfl, rfl, Below.refl _ _, fun h => by simp at h⟩ | exact ⟨_, rfl, rfl, Below.refl _ _⟩ | exact ⟨rfl, Below.refl _ _, fun h => by simp at h⟩
    · intro u W hb hd
      have e0 : u 3 = .agg #[.pointer (some ⟨r, 0, none⟩), .int .i64 (f : Int), .int .i64 (k : Int)] := hd.1 rfl (by decide)
      simp only [putAll, Act.put, List.setIfInBounds_toArray, List.set_cons_succ, List.set_cons_zero, Nat.zero_add, Nat.reduceAdd]
      rw [e0]
      go_wp2_with (go_at_call 59; (with_reducible refine (HLN.out _ (below_step G1.out hb)).mono ?_); rintro e w4 ⟨rfl, g4⟩)
      first | exact ⟨_, rfl, rfl, g4, fun h => by simp at h⟩ | exact ⟨rfl, g4, fun h => by simp at h⟩ | exact ⟨_, rfl, rfl, g4⟩ | exact ⟨rfl, g4⟩
    · intro u W hb hd
      have e0 : u 4 = .int .i64 (M : Int) := hd.1 rfl (by decide)
      simp only [putAll, Act.put, List.setIfInBounds_toArray, List.set_cons_succ, List.set_cons_zero, Nat.zero_add, Nat.reduceAdd]
      rw [e0]
      go_wp2
      first | exact ⟨rfl, Below.refl _ _⟩ | exact ⟨_, rfl, rfl, Below.refl _ _, fun h => by simp at h⟩ | exact ⟨_, rfl, rfl, Below.refl _ _⟩ | exact ⟨rfl, Below.refl _ _, fun h => by simp at h⟩
    · intro u W hb hd
      have e0 : u 5 = .int .i64 (N : Int) := hd.1 rfl (by decide)
      obtain ⟨wz, hmz, hRz, hBz⟩ := made_row W N hNb2
      have hle := Nat.le_trans G1.out.size hb.size
      simp only [putAll, Act.put, List.setIfInBounds_toArray, List.set_cons_succ, List.set_cons_zero, Nat.zero_add, Nat.reduceAdd]
      rw [e0]
      go_wp2
      first | exact ⟨_, rfl, hRz, hle⟩ | exact ⟨_, rfl, ⟨_, rfl, hRz, hle⟩, hBz, fun h => by simp at h⟩ | exact ⟨⟨_, rfl, hRz, hle⟩, hBz, fun h => by simp at h⟩ | exact ⟨_, rfl, ⟨_, rfl, hRz, hle⟩, hBz⟩
  · intro u W hb hT _
    have e0 : u 0 = .agg #[.pointer (some ⟨r, 0, none⟩), .int .i64 (f : Int), .int .i64 (k : Int)] := hT 0 (by decide)
    have e1 : u 1 = .pointer (some ⟨w1.heap.size, 1, none⟩) := hT 1 (by decide)
    have e2 : u 2 = .int .i64 (f : Int) := hT 2 (by decide)
    have e3 : u 3 = .agg #[.pointer (some ⟨r, 0, none⟩), .int .i64 (f : Int), .int .i64 (k : Int)] := hT 3 (by decide)
    have e4 : u 4 = .int .i64 (M : Int) := hT 4 (by decide)
    have e5 : u 5 = .int .i64 (N : Int) := hT 5 (by decide)
    obtain ⟨g, e6, hR, hB⟩ : ∃ g, u 6 = .slice (some ⟨g, 0, none⟩) N N ∧ RowB W g (List.replicate N 0) ∧ w.heap.size ≤ g := hT 6 (by decide)
    have GW := Lib.hid (below_step G1.out hb)
    have HW := Lib.hid (HWP.out W GW.out (.slice (some ⟨g, 0, none⟩) N N) (hR.whole N N (by rw [List.length_replicate]) (Nat.le_refl _)) (fun j hj hO => by obtain rfl : g = j := Option.some.inj hj; have := hOw.out _ hO; omega))
    clear hb hT hR hB
    simp only [List.take_succ_cons, List.take_zero, List.drop_succ_cons, List.drop_zero, putAll, Act.put, List.setIfInBounds_toArray, List.set_cons_succ, List.set_cons_zero, Nat.zero_add, Nat.reduceAdd]
    rw [e0, e1, e2, e3, e4, e5, e6]
    clear e0 e1 e2 e3 e4 e5 e6
    go_wp2_with (go_at_call 71; (with_reducible refine (HW.out).mono ?_); rintro e w6 ⟨c', D', T, i0, m, rfl, l6, p6, t6, _⟩; have L6 := Lib.hid l6; have P6 := Lib.hid p6; have T6 := Lib.hid (way_old hbase.out GW.out ⟨_, t6.choose_spec.1, t6.choose_spec.2.2, t6.choose_spec.2.1⟩); clear l6 p6 t6)
    go_ret
    refine ⟨c', D', rfl, ?_, T6.out⟩
    have hf := fmt_put HOK.out.1 (f := f) (k := 2 * k) (by rw [HN.out]; exact L6.out) HOK.out.2 P6.out
    rw [HN.out, H2.out, ← HM.out] at hf
    exact hf
set_option maxRecDepth 100000 in
set_option maxHeartbeats 8000000 in
theorem sopen_not (base : Nat) (O : Foot) (r : Nat) (D : Dsk) (f k : Int) (w : World) (h : DskIs w base O r D) (hn : ¬ OnSl D.n f k) (f0 : -9223372036854775808 ≤ f) (f1 : f ≤ 9223372036854775807) (k0 : -9223372036854775808 ≤ k) (k1 : k ≤ 9223372036854775807) :
    Calls Tryz.prog 48 #[.pointer (some ⟨r, 0, none⟩), .int .i64 f, .int .i64 k] w fun e w' => e = .returned (.tuple #[.pointer none, .int .i64 2]) ∧ Below w.heap.size w w' := by
  have HON := Lib.hid (son_not base O r D f k w h hn f0 f1 k0 k1)
  clear h hn
  go_enter Tryz.func48, Tryz.ntmps48
  go_wp2_with (go_at_call 62; (with_reducible refine (HON.out).mono ?_); rintro e w1 ⟨rfl, g1⟩; have G1 := Lib.hid (below_more g1 (.cells #[.pointer none, .int .i64 0, .int .i64 0] 108)); clear g1)
  go_ret2
  exact ⟨rfl, G1.out⟩
/-- Slots lean on these blocks, and on more. -/
theorem SlIs.weak {W : World} {base : Nat} {OS OS' : Foot} {gs r : Nat} {G : Sl} (h : SlIs W base OS gs r G) (hs : ∀ i, OS i → OS' i) (ho : ∀ i, OS' i → base ≤ i ∧ i < W.heap.size) : SlIs W base OS' gs r G := by
  obtain ⟨v, h4, ha, hv⟩ := h.c4
  exact ⟨ho, hs _ h.mem, h.c0, h.c1, h.c2, h.c3, ⟨v, h4, ha, fun hne j hj => ⟨hs j (hv hne j hj).1, (hv hne j hj).2⟩⟩, h.c5, h.q, h.len⟩
/-- All that is new. -/
def NewFoot (B : Nat) (W : World) : Foot := fun i => B ≤ i ∧ i < W.heap.size
theorem SlIs.newer {W W' : World} {B : Nat} {gs r : Nat} {G : Sl} (h : SlIs W B (NewFoot B W) gs r G) (hb : Below W.heap.size W W') : SlIs W' B (NewFoot B W') gs r G :=
  (h.after hb).weak (fun _ hi => ⟨hi.1, Nat.lt_of_lt_of_le hi.2 hb.size⟩) (fun _ hi => hi)
/-- A snapshot is laid into them. -/
theorem SlIs.lay {W : World} {base : Nat} {OS : Foot} {gs r : Nat} {G : Sl} (h : SlIs W base OS gs r G) (n : Nat) (v : Value) (b : List Int) (ha : ArgB W v b) (ho : b ≠ [] → ∀ j, v.ownBlock = some j → OS j ∧ j ≠ gs) (hl : b.length ≤ 1000000) :
    SlIs ((W.setCell ⟨gs, 3, none⟩ (.int .u64 (n : Int))).setCell ⟨gs, 4, none⟩ v) base OS gs r { G with ep := n, b := b } := by
  obtain ⟨h1, h2, c0, c1, c2, c3, ⟨v0, c4, _, _⟩, c5, q, _⟩ := h
  have hk : ∀ j, j ≠ gs → ((W.setCell ⟨gs, 3, none⟩ (.int .u64 (n : Int))).setCell ⟨gs, 4, none⟩ v).heap[j]? = W.heap[j]? := fun j hj => (set_else _ _ _ _ j hj).trans (set_else _ _ _ _ j hj)
  refine ⟨fun i hi => by have := h1 i hi; simpa using this, h2, ?_, ?_, ?_, ?_, ⟨v, ?_, ha.stay (fun hne j hj => hk j (ho hne j hj).2), ho⟩, ?_, fun i => by rw [World.frozen?_setCell, World.frozen?_setCell]; exact q i, hl⟩ <;> simp [go_sem, *]
/-- What Open comes to: the slots, in new memory. -/
def GivesSo (r : Nat) (D : Dsk) (f k : Nat) (w : World) (e : Ending) (w' : World) : Prop :=
  ∃ gs OS, e = .returned (.tuple #[.pointer (some ⟨gs, 0, none⟩), .int .i64 0]) ∧ Below w.heap.size w w' ∧ SlIs w' w.heap.size OS gs r ⟨f, k, D.size, (slotsL (f * D.size) (k * D.size) D.last).1, (slotsL (f * D.size) (k * D.size) D.last).2, false⟩
/-- What counts, when so many slots have been looked at. -/
def lookL (S0 S1 : Nat × List Int) : Nat → Nat × List Int
  | 0 => (0, [])
  | 1 => newerL (0, []) S0
  | _ => newerL (newerL (0, []) S0) S1
theorem look_slots (lo M : Nat) (s : List Int) : lookL (snapL (regnL lo M s) 0) (snapL (regnL (lo + M) M s) 1) 2 = slotsL lo M s := by
  show newerL (newerL (0, []) _) _ = newerL _ _
  congr 1
  rcases snap_cases (regnL lo M s) 0 with h | ⟨h, _⟩
  · rw [h]; rfl
  · unfold newerL
    rw [if_pos (by show 0 < _; omega)]
theorem Var3.stay {W W1 : World} {p : Nat} {x y z : Value} (k : Var3 W p x y z) (hb : W1.heap[p]? = W.heap[p]?) (hs : W.heap.size ≤ W1.heap.size) : Var3 W1 p x y z := by
  obtain ⟨c0, c1, c2, q0, q1, q2, s⟩ := k
  exact ⟨by rw [World.cell?_of_block hb, c0], by rw [World.cell?_of_block hb, c1], by rw [World.cell?_of_block hb, c2], by rw [World.frozen?_of_block hb, q0], by rw [World.frozen?_of_block hb, q1], by rw [World.frozen?_of_block hb, q2], Nat.lt_of_lt_of_le s hs⟩
theorem slo_start {w1 : World} {r f k B : Nat} (SZ : Nat) (hB : B ≤ w1.heap.size) : SlIs ((w1.alloc (.cells #[.pointer (some ⟨r, 0, none⟩), .int .i64 (f : Int), .int .i64 (k : Int)] 108)).alloc (.cells #[.pointer (some ⟨r, 0, none⟩), .int .i64 (f : Int), .int .i64 (k : Int), .int .u64 0, .slice none 0 0, .bool false] 112)) B (NewFoot B ((w1.alloc (.cells #[.pointer (some ⟨r, 0, none⟩), .int .i64 (f : Int), .int .i64 (k : Int)] 108)).alloc (.cells #[.pointer (some ⟨r, 0, none⟩), .int .i64 (f : Int), .int .i64 (k : Int), .int .u64 0, .slice none 0 0, .bool false] 112))) (w1.heap.size + 1) r ⟨f, k, SZ, 0, [], false⟩ := by
  refine ⟨fun i hi => hi, ⟨by omega, by simp⟩, ?_, ?_, ?_, ?_, ⟨.slice none 0 0, ?_, Or.inl ⟨rfl, rfl⟩, fun h => (h rfl).elim⟩, ?_, fun i => ?_, by simp⟩ <;> simp [go_sem]
set_option maxRecDepth 100000 in
set_option maxHeartbeats 8000000 in
theorem sopen_any (base : Nat) (O : Foot) (r : Nat) (D : Dsk) (f k : Nat) (w : World) (env : Env w) (h : DskIs w base O r D) (k1 : 1 ≤ k) (on : f + 2 * k ≤ D.n) (dk : D.dark = false) (hw : D.waits = []) (hd : D.deeds ≤ 900000) :
    Calls Tryz.prog 48 #[.pointer (some ⟨r, 0, none⟩), .int .i64 (f : Int), .int .i64 (k : Int)] w (GivesSo r D f k w) := by
  have hfk : (f + 2 * k) * D.size ≤ D.n * D.size := Nat.mul_le_mul_right _ on
  have hmost := h.ok.most
  have hll := h.ok.ll
  have HON := Lib.hid (son_any base O r D f k w h k1 on)
  have HRD0 := Lib.hid (fun s (hs : s ≤ 1) W (g : Below w.heap.size w W) => sread_any base O r D f k s W (h.after g) on hs dk hw (by omega))
  have hBy : Hid (∀ lo, ∀ z ∈ regnL lo (k * D.size) D.last, 0 ≤ z ∧ z ≤ 255) := fun lo z hz => h.ok.lb z (List.mem_of_mem_drop (List.mem_of_mem_take hz))
  have hlk := look_slots (f * D.size) (k * D.size) D.last
  unfold GivesSo
  rw [← hlk]
  obtain ⟨RB, hRB⟩ : ∃ RB : Nat → List Int, RB = fun s => regnL ((f + s * k) * D.size) (k * D.size) D.last := ⟨_, rfl⟩
  have h0 : regnL (f * D.size) (k * D.size) D.last = RB 0 := by rw [hRB]; simp
  have h1 : regnL (f * D.size + k * D.size) (k * D.size) D.last = RB 1 := by rw [hRB]; show _ = regnL ((f + 1 * k) * D.size) _ _; rw [Nat.one_mul, Nat.add_mul]
  rw [h0, h1]
  have hRl : Hid (∀ s : Nat, s ≤ 1 → (RB s).length = k * D.size) := fun s hs => by
    rw [hRB]
    show (regnL ((f + s * k) * D.size) (k * D.size) D.last).length = _
    refine regn_len ?_
    have hs2 : s * k ≤ k := by have := Nat.mul_le_mul_right k hs; omega
    have : (f + s * k + k) * D.size ≤ (f + 2 * k) * D.size := Nat.mul_le_mul_right _ (by omega)
    rw [Nat.add_mul (f + s * k)] at this
    omega
  have hkm : k * D.size ≤ 1000000 := by
    have : k * D.size ≤ (f + 2 * k) * D.size := Nat.mul_le_mul_right _ (by omega)
    omega
  have hRb : Hid (∀ s, ∀ z ∈ RB s, 0 ≤ z ∧ z ≤ 255) := fun s => by rw [hRB]; exact hBy.out _
  have HRD1 := Lib.hid (show ∀ (s : Nat), s ≤ 1 → ∀ W, Below w.heap.size w W → Calls Tryz.prog 63 #[.agg #[.pointer (some ⟨r, 0, none⟩), .int .i64 (f : Int), .int .i64 (k : Int)], .int .i64 (s : Int)] W fun e w' => ∃ v, e = .returned (.tuple #[v, .int .i64 0]) ∧ OwnN w' W.heap.size v (RB s) ∧ Below W.heap.size W w' from fun s hs W g => by have q := HRD0.out s hs W g; rw [show regnL ((f + s * k) * D.size) (k * D.size) D.last = RB s by rw [hRB]] at q; exact q)
  have HSN1 := Lib.hid (fun (s : Nat) (hs : s ≤ 1) W v (g : Below w.heap.size w W) (hv : ArgB W v (RB s)) => ssnap_any v (RB s) s W (env.step g) hv (hRb.out s) (by rw [hRl.out s hs]; exact hkm))
  obtain ⟨LK, hLK⟩ : ∃ LK, lookL (snapL (RB 0) 0) (snapL (RB 1) 1) = LK := ⟨_, rfl⟩
  have hLK0 : LK 0 = (0, []) := by rw [← hLK]; rfl
  have hLKs : Hid (∀ j, j ≤ 1 → LK (j + 1) = newerL (LK j) (snapL (RB j) j)) := fun j hj => by
    rw [← hLK]
    rcases Nat.lt_or_ge 0 j with q | q
    · obtain rfl : j = 1 := by omega
      rfl
    · obtain rfl : j = 0 := by omega
      rfl
  rw [hLK]
  have hSl : Hid (∀ s : Nat, s ≤ 1 → (snapL (RB s) s).2.length ≤ 1000000) := fun s hs => Nat.le_trans (snap_len _ _) (by rw [hRl.out s hs]; exact hkm)
  obtain ⟨SZ, hSZ⟩ : ∃ x, D.size = x := ⟨_, rfl⟩
  rw [hSZ]
  obtain ⟨M, hM⟩ : ∃ M, k * D.size = M := ⟨_, rfl⟩
  rw [hM] at hRl
  clear hLK h0 h1 hRB HRD0 hBy hlk hll hmost hfk h k1 on dk hw hd hSZ hkm hM
  unfold GivesRg at HON
  go_enter Tryz.func48, Tryz.ntmps48
  go_wp2_with (go_at_call 62; (with_reducible refine (HON.out).mono ?_); rintro e w1 ⟨rfl, g1⟩; have V1 := Lib.hid (Var3.fresh w1 (.pointer (some ⟨r, 0, none⟩)) (.int .i64 (f : Int)) (.int .i64 (k : Int)) 108 _ rfl); have G1 := Lib.hid (below_more g1 (.cells #[.pointer (some ⟨r, 0, none⟩), .int .i64 (f : Int), .int .i64 (k : Int)] 108)); have S1 := Lib.hid g1.size; clear g1)
  have HI0 := Lib.hid (slo_start (r := r) (f := f) (k := k) SZ S1.out)
  have HV0 := Lib.hid (V1.out.after (below_more (Below.refl _ _) (.cells #[.pointer (some ⟨r, 0, none⟩), .int .i64 (f : Int), .int .i64 (k : Int), .int .u64 0, .slice none 0 0, .bool false] 112)))
  have HB0 := Lib.hid (below_step G1.out (below_more (Below.refl _ _) (.cells #[.pointer (some ⟨r, 0, none⟩), .int .i64 (f : Int), .int .i64 (k : Int), .int .u64 0, .slice none 0 0, .bool false] 112)))
  go_loopw [28] (fun v28 wr => ∃ j : Nat, v28 = .int .i64 (j : Int) ∧ j ≤ 2 ∧ Below w.heap.size w wr ∧ SlIs wr w.heap.size (NewFoot w.heap.size wr) (w1.heap.size + 1) r ⟨f, k, SZ, (LK j).1, (LK j).2, false⟩ ∧ Var3 wr w1.heap.size (.pointer (some ⟨r, 0, none⟩)) (.int .i64 (f : Int)) (.int .i64 (k : Int))) (fun v28 _ => 2 - (intOf v28).toNat)
  case atStart => exact ⟨0, rfl, Nat.zero_le _, HB0.out, by rw [hLK0]; exact HI0.out, HV0.out⟩
  case round =>
    obtain ⟨j, rfl, hj2, hB, hI, hV⟩ := hrel
    have HB := Lib.hid hB
    have HS := Lib.hid hI
    have HV := Lib.hid hV
    have e0 := hV.c0
    have e1' := hV.c1
    have e2 := hV.c2
    clear hB hI hV
    by_cases hlt : j < 2
    · have HRD := Lib.hid (HRD1.out j (by omega))
      have HSN := Lib.hid (HSN1.out j (by omega))
      have HLS := Lib.hid (hLKs.out j (by omega))
      have HBL := Lib.hid (hRl.out j (by omega))
      have HSB := Lib.hid (hSl.out j (by omega))
      unfold GivesSnp at HSN
      obtain ⟨SJ, hSJ⟩ : ∃ x, snapL (RB j) j = x := ⟨_, rfl⟩
      rw [hSJ] at HSN HLS HSB
      obtain ⟨e1, bJ⟩ := SJ
      dsimp only at HSN HSB
      obtain ⟨NB, hNB⟩ : ∃ x, bJ.length = x := ⟨_, rfl⟩
      have HNB := Lib.hid hNB
      obtain ⟨LJ, hLJ⟩ : ∃ x, LK j = x := ⟨_, rfl⟩
      rw [hLJ] at HS HLS
      obtain ⟨cu, bC⟩ := LJ
      dsimp only at HS
      clear hSJ hNB hLJ
      by_cases hgt : cu < e1
      · go_wp2_with (first
          | (go_at_call 63; (with_reducible refine (HRD.out _ HB.out).mono ?_); rintro e w2 ⟨v2, rfl, hO2, g2⟩; obtain ⟨a2, c2, hv2⟩ := hO2.argB.size; rw [HBL.out] at hv2; subst hv2; have G2 := Lib.hid (below_step HB.out g2); have A2 := Lib.hid hO2.argB; have I2 := Lib.hid (HS.out.newer g2); have V2 := Lib.hid (HV.out.after g2); clear hO2 g2)
          | (go_at_call 64; (with_reducible refine (HSN.out _ _ G2.out A2.out).mono ?_); rintro e w3 ⟨xv, rfl, hx, ho, g3⟩; obtain ⟨xa, xc, hxe⟩ := hx.size; rw [HNB.out] at hxe; subst hxe; have g4 := below_more g3 (.cells #[.int .u64 (e1 : Int), .slice xa NB xc] 110); have A3 := Lib.hid (hx.below (below_more (Below.refl w3.heap.size w3) (.cells #[.int .u64 (e1 : Int), .slice xa NB xc] 110))); have G3 := Lib.hid (below_step G2.out g4); have I3 := Lib.hid (I2.out.newer g4); have V3 := Lib.hid (V2.out.after g4); have E3 := Lib.hid (Var2.fresh w3 (.int .u64 (e1 : Int)) (.slice xa NB xc) 110 _ rfl); have O3 := Lib.hid ho; have L3 := Lib.hid (fun hne j hj => hx.lt hne (b := j) hj); have S23 := Lib.hid (And.intro HB.out.size (And.intro G2.out.size g3.size)); have d0 := E3.out.c0; have d1 := E3.out.c1; have d2 := I3.out.c3; clear hx ho g3 g4))
        go_quiet (fail)
        have HDW := Lib.hid (show Below (w3.alloc (.cells #[.int .u64 (e1 : Int), .slice xa NB xc] 110)).heap.size (w3.alloc (.cells #[.int .u64 (e1 : Int), .slice xa NB xc] 110)) ((w3.alloc (.cells #[.int .u64 (e1 : Int), .slice xa NB xc] 110)).drewN nq) from below_drewN (Below.refl _ _) nq)
        have G4 := Lib.hid (below_step G3.out HDW.out)
        have I4 := Lib.hid (I3.out.newer HDW.out)
        have V4 := Lib.hid (V3.out.after HDW.out)
        have E4 := Lib.hid (E3.out.after HDW.out)
        have A4 := Lib.hid (A3.out.below HDW.out)
        clear d0 d1 d2
        generalize (w3.alloc _).drewN nq = W4 at G4 I4 V4 E4 A4 HDW ⊢
        have d0 := E4.out.c0
        have d1 := E4.out.c1
        have d2 := I4.out.c3
        obtain ⟨bv, d4, _, _⟩ := I4.out.c4
        have q3 := I4.out.q 3
        have q4 := I4.out.q 4
        go_wp2
        go_roundw
        case rel =>
          have hn : LK (j + 1) = (e1, bJ) := by rw [HLS.out]; unfold newerL; rw [if_pos hgt]
          have hgl := (I2.out.own _ I2.out.mem).2
          have hwl := S1.out
          have hs4 := HDW.out.size
          have hIL := I4.out.lay e1 (.slice xa NB xc) bJ A4.out (fun hne i hi => by
            have q1 := O3.out hne i hi
            have q2 := L3.out hne i hi
            have q3 := G2.out.size
            simp at hs4
            exact ⟨⟨by omega, by omega⟩, by omega⟩) HSB.out
          refine ⟨j + 1, by simp, by omega, (G4.out.setCell (p := ⟨w1.heap.size + 1, 3, none⟩) (by show w.heap.size ≤ w1.heap.size + 1; omega) _).setCell (p := ⟨w1.heap.size + 1, 4, none⟩) (by show w.heap.size ≤ w1.heap.size + 1; omega) _, ?_, V4.out.stay ((set_else _ _ _ _ _ (by omega)).trans (set_else _ _ _ _ _ (by omega))) (by simp)⟩
          rw [hn]
          exact hIL.weak (fun i hi => ⟨hi.1, by simpa using hi.2⟩) (fun i hi => hi)
        case measure => simp [intOf]; omega
      · have hng : ¬ (cu : Int) < (e1 : Int) := by omega
        go_wp2_with (first
          | (go_at_call 63; (with_reducible refine (HRD.out _ HB.out).mono ?_); rintro e w2 ⟨v2, rfl, hO2, g2⟩; obtain ⟨a2, c2, hv2⟩ := hO2.argB.size; rw [HBL.out] at hv2; subst hv2; have G2 := Lib.hid (below_step HB.out g2); have A2 := Lib.hid hO2.argB; have I2 := Lib.hid (HS.out.newer g2); have V2 := Lib.hid (HV.out.after g2); clear hO2 g2)
          | (go_at_call 64; (with_reducible refine (HSN.out _ _ G2.out A2.out).mono ?_); rintro e w3 ⟨xv, rfl, hx, ho, g3⟩; obtain ⟨xa, xc, hxe⟩ := hx.size; rw [HNB.out] at hxe; subst hxe; have g4 := below_more g3 (.cells #[.int .u64 (e1 : Int), .slice xa NB xc] 110); have A3 := Lib.hid (hx.below (below_more (Below.refl w3.heap.size w3) (.cells #[.int .u64 (e1 : Int), .slice xa NB xc] 110))); have G3 := Lib.hid (below_step G2.out g4); have I3 := Lib.hid (I2.out.newer g4); have V3 := Lib.hid (V2.out.after g4); have E3 := Lib.hid (Var2.fresh w3 (.int .u64 (e1 : Int)) (.slice xa NB xc) 110 _ rfl); have O3 := Lib.hid ho; have L3 := Lib.hid (fun hne j hj => hx.lt hne (b := j) hj); have S23 := Lib.hid (And.intro HB.out.size (And.intro G2.out.size g3.size)); have d0 := E3.out.c0; have d1 := E3.out.c1; have d2 := I3.out.c3; clear hx ho g3 g4))
        go_quiet (fail)
        have HDW := Lib.hid (show Below (w3.alloc (.cells #[.int .u64 (e1 : Int), .slice xa NB xc] 110)).heap.size (w3.alloc (.cells #[.int .u64 (e1 : Int), .slice xa NB xc] 110)) ((w3.alloc (.cells #[.int .u64 (e1 : Int), .slice xa NB xc] 110)).drewN nq) from below_drewN (Below.refl _ _) nq)
        have G4 := Lib.hid (below_step G3.out HDW.out)
        have I4 := Lib.hid (I3.out.newer HDW.out)
        have V4 := Lib.hid (V3.out.after HDW.out)
        have E4 := Lib.hid (E3.out.after HDW.out)
        have A4 := Lib.hid (A3.out.below HDW.out)
        clear d0 d1 d2
        generalize (w3.alloc _).drewN nq = W4 at G4 I4 V4 E4 A4 HDW ⊢
        have d0 := E4.out.c0
        have d1 := E4.out.c1
        have d2 := I4.out.c3
        obtain ⟨bv, d4, _, _⟩ := I4.out.c4
        have q3 := I4.out.q 3
        have q4 := I4.out.q 4
        go_wp2
        go_roundw
        case rel =>
          have hn : LK (j + 1) = (cu, bC) := by rw [HLS.out]; unfold newerL; rw [if_neg hgt]
          refine ⟨j + 1, by simp, by omega, G4.out, ?_, V4.out⟩
          rw [hn]
          exact I4.out
        case measure => simp [intOf]; omega
    · obtain rfl : j = 2 := by omega
      go_wp2
      go_ret2
      exact ⟨w1.heap.size + 1, _, rfl, HB.out, HS.out⟩

end Go.Proofs.YtejelednnacnaaaGreatDoor
