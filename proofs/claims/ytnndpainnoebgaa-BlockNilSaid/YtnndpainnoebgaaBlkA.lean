/-
  A disk of blocks, as the chapter says it: plain. What lasts, what waits, what is seen; each deed, each crash.
-/
namespace Go.Proofs.Ytnndpainnoebgaa

/-- A disk: blocks, bytes of a block, what lasts, what waits (where, and what), the fuse (below 0: none), dark, deeds. -/
structure Dsk where
  n : Nat
  size : Nat
  last : List Int
  waits : List (Nat × List Int)
  fuse : Int
  dark : Bool
  deeds : Nat
/-- Bytes laid over others. -/
def layL (s : List Int) (p : Nat × List Int) : List Int := s.take p.1 ++ p.2 ++ s.drop (p.1 + p.2.length)
def Dsk.seen (D : Dsk) : List Int := D.waits.foldl layL D.last
def Dsk.new (n size : Nat) : Dsk := ⟨n, size, List.replicate (n * size) 0, [], -1, false, 0⟩
/-- A deed: is it done? -/
def Dsk.deed (D : Dsk) : Bool × Dsk := if D.fuse = 0 then (false, { D with dark := true }) else (true, { D with fuse := if 0 < D.fuse then D.fuse - 1 else D.fuse, deeds := D.deeds + 1 })
def Dsk.write (D : Dsk) (i : Int) (b : List Int) : Int × Dsk :=
  if D.dark = true then (12, D) else if i < 0 ∨ (D.n : Int) ≤ i ∨ D.size < b.length then (2, D) else
  if D.deed.1 = true then (0, { D.deed.2 with waits := D.waits ++ [(i.toNat * D.size, b ++ List.replicate (D.size - b.length) 0)] }) else (12, D.deed.2)
def Dsk.sync (D : Dsk) : Int × Dsk :=
  if D.dark = true then (12, D) else if D.deed.1 = true then (0, { D.deed.2 with last := D.seen, waits := [] }) else (12, D.deed.2)
def Dsk.light (D : Dsk) (f : Int) : Dsk := { D with fuse := if f < 0 then -1 else f }
/-- What a crash leaves. -/
def Dsk.left (D : Dsk) (keep torn : Int) : List Int :=
  match D.waits[keep.toNat]? with
  | none => D.waits.foldl layL D.last
  | some p => layL ((D.waits.take keep.toNat).foldl layL D.last) (p.1, p.2.take torn.toNat)
def Dsk.crash (D : Dsk) (keep torn : Int) : Dsk := { D with last := D.left keep torn, waits := [], dark := false, fuse := -1 }
def Dsk.read (D : Dsk) (i : Int) : List Int × Int :=
  if D.dark = true then ([], 12) else if i < 0 ∨ (D.n : Int) ≤ i then ([], 2) else ((D.seen.drop (i.toNat * D.size)).take D.size, 0)

/-- What is right with it. -/
structure Dsk.Ok (D : Dsk) : Prop where
  n0 : 1 ≤ D.n
  n1 : D.n ≤ 400
  s0 : 32 ≤ D.size
  s1 : D.size ≤ 512
  ll : D.last.length = D.n * D.size
  lb : ∀ z ∈ D.last, 0 ≤ z ∧ z ≤ 255
  w : ∀ p ∈ D.waits, (∃ i, i < D.n ∧ p.1 = i * D.size) ∧ p.2.length = D.size ∧ ∀ z ∈ p.2, 0 ≤ z ∧ z ≤ 255
  wd : D.waits.length ≤ D.deeds
  f0 : -1 ≤ D.fuse
  f1 : D.fuse ≤ 9223372036854775807

theorem layL_len {s : List Int} {p : Nat × List Int} (h : p.1 + p.2.length ≤ s.length) : (layL s p).length = s.length := by
  unfold layL
  rw [List.length_append, List.length_append, List.length_take, List.length_drop]; omega
theorem layL_byte {s : List Int} {p : Nat × List Int} (hs : ∀ z ∈ s, 0 ≤ z ∧ z ≤ 255) (hp : ∀ z ∈ p.2, 0 ≤ z ∧ z ≤ 255) : ∀ z ∈ layL s p, 0 ≤ z ∧ z ≤ 255 := by
  intro z hz
  unfold layL at hz
  rcases List.mem_append.mp hz with hz | hz
  · rcases List.mem_append.mp hz with hz | hz
    · exact hs z (List.mem_of_mem_take hz)
    · exact hp z hz
  · exact hs z (List.mem_of_mem_drop hz)
theorem fit {i n size : Nat} (h : i < n) : i * size + size ≤ n * size := by
  have : (i + 1) * size ≤ n * size := Nat.mul_le_mul_right _ h
  rwa [Nat.succ_mul] at this
theorem fold_ok {N size : Nat} {ws : List (Nat × List Int)} (hw : ∀ p ∈ ws, (∃ i, i < N ∧ p.1 = i * size) ∧ p.2.length = size ∧ ∀ z ∈ p.2, 0 ≤ z ∧ z ≤ 255) :
    ∀ s : List Int, s.length = N * size → (∀ z ∈ s, 0 ≤ z ∧ z ≤ 255) → (ws.foldl layL s).length = N * size ∧ ∀ z ∈ ws.foldl layL s, 0 ≤ z ∧ z ≤ 255 := by
  induction ws with
  | nil => intro s hl hb; exact ⟨hl, hb⟩
  | cons p ws ih =>
    intro s hl hb
    obtain ⟨⟨i, hi, e⟩, h2, h3⟩ := hw p (by simp)
    refine ih (fun q hq => hw q (by simp [hq])) (layL s p) ?_ (layL_byte hb h3)
    rw [layL_len (by rw [e, h2, hl]; exact fit hi), hl]
theorem Dsk.Ok.seen {D : Dsk} (h : D.Ok) : D.seen.length = D.n * D.size ∧ ∀ z ∈ D.seen, 0 ≤ z ∧ z ≤ 255 := fold_ok h.w D.last h.ll h.lb
theorem Dsk.Ok.most {D : Dsk} (h : D.Ok) : D.n * D.size ≤ 204800 := Nat.mul_le_mul h.n1 h.s1
theorem Dsk.new_ok {n size : Nat} (n0 : 1 ≤ n) (n1 : n ≤ 400) (s0 : 32 ≤ size) (s1 : size ≤ 512) : (Dsk.new n size).Ok :=
  ⟨n0, n1, s0, s1, by simp [Dsk.new], fun z hz => by obtain ⟨_, rfl⟩ := List.mem_replicate.mp hz; omega, fun p hp => (by cases hp), Nat.le_refl _, (show (-1 : Int) ≤ -1 by decide), (show (-1 : Int) ≤ 9223372036854775807 by decide)⟩
theorem Dsk.Ok.deed {D : Dsk} (h : D.Ok) : D.deed.2.Ok ∧ D.deed.2.waits = D.waits ∧ D.deed.2.last = D.last ∧ D.deed.2.n = D.n ∧ D.deed.2.size = D.size ∧ (D.deed.1 = true → D.deed.2.deeds = D.deeds + 1 ∧ D.deed.2.dark = D.dark) ∧ (D.deed.1 = false → D.deed.2.deeds = D.deeds ∧ D.deed.2.dark = true) := by
  obtain ⟨n0, n1, s0, s1, ll, lb, w, wd, f0, f1⟩ := h
  unfold Dsk.deed
  by_cases hf : D.fuse = 0
  · rw [if_pos hf]
    exact ⟨⟨n0, n1, s0, s1, ll, lb, w, wd, f0, f1⟩, rfl, rfl, rfl, rfl, fun e => (by cases e), fun _ => ⟨rfl, rfl⟩⟩
  · rw [if_neg hf]
    refine ⟨⟨n0, n1, s0, s1, ll, lb, w, Nat.le_succ_of_le wd, ?_, ?_⟩, rfl, rfl, rfl, rfl, fun _ => ⟨rfl, rfl⟩, fun e => by cases e⟩
    · show -1 ≤ if 0 < D.fuse then D.fuse - 1 else D.fuse
      split <;> omega
    · show (if 0 < D.fuse then D.fuse - 1 else D.fuse) ≤ _
      split <;> omega
theorem pad_ok {b : List Int} {size : Nat} (h : b.length ≤ size) (hb : ∀ z ∈ b, 0 ≤ z ∧ z ≤ 255) : (b ++ List.replicate (size - b.length) (0 : Int)).length = size ∧ ∀ z ∈ b ++ List.replicate (size - b.length) (0 : Int), 0 ≤ z ∧ z ≤ 255 := by
  refine ⟨by rw [List.length_append, List.length_replicate]; omega, fun z hz => ?_⟩
  rcases List.mem_append.mp hz with hz | hz
  · exact hb z hz
  · obtain ⟨_, rfl⟩ := List.mem_replicate.mp hz; omega
theorem Dsk.Ok.write {D : Dsk} (h : D.Ok) (i : Int) {b : List Int} (hb : ∀ z ∈ b, 0 ≤ z ∧ z ≤ 255) : (D.write i b).2.Ok := by
  unfold Dsk.write
  by_cases hd : D.dark = true
  · rw [if_pos hd]; exact h
  · rw [if_neg hd]
    by_cases hc : i < 0 ∨ (D.n : Int) ≤ i ∨ D.size < b.length
    · rw [if_pos hc]; exact h
    · rw [if_neg hc]
      obtain ⟨h1, h2, h3, h4, h5, h6, _⟩ := h.deed
      by_cases hk : D.deed.1 = true
      · rw [if_pos hk]
        obtain ⟨n0, n1, s0, s1, ll, lb, w, wd, f0, f1⟩ := h1
        refine ⟨n0, n1, s0, s1, ll, lb, fun p hp => ?_, ?_, f0, f1⟩
        · rcases List.mem_append.mp hp with hp | hp
          · have := h.w p hp
            show (∃ i, i < D.deed.2.n ∧ p.1 = i * D.deed.2.size) ∧ p.2.length = D.deed.2.size ∧ _
            rw [h4, h5]; exact this
          · rw [List.mem_singleton.mp hp]
            have hp2 := pad_ok (size := D.size) (by omega) hb
            refine ⟨⟨i.toNat, ?_, ?_⟩, ?_, hp2.2⟩
            · show i.toNat < D.deed.2.n
              rw [h4]; omega
            · show i.toNat * D.size = i.toNat * D.deed.2.size
              rw [h5]
            · show _ = D.deed.2.size
              rw [h5]; exact hp2.1
        · show (D.waits ++ [_]).length ≤ D.deed.2.deeds
          rw [(h6 hk).1, List.length_append, List.length_singleton]; have := h.wd; omega
      · rw [if_neg hk]; exact h1
theorem Dsk.Ok.sync {D : Dsk} (h : D.Ok) : D.sync.2.Ok := by
  unfold Dsk.sync
  by_cases hd : D.dark = true
  · rw [if_pos hd]; exact h
  · rw [if_neg hd]
    obtain ⟨h1, h2, h3, h4, h5, _, _⟩ := h.deed
    by_cases hk : D.deed.1 = true
    · rw [if_pos hk]
      obtain ⟨n0, n1, s0, s1, ll, lb, w, wd, f0, f1⟩ := h1
      refine ⟨n0, n1, s0, s1, ?_, h.seen.2, fun p hp => (by cases hp), Nat.zero_le _, f0, f1⟩
      show D.seen.length = D.deed.2.n * D.deed.2.size
      rw [h4, h5]; exact h.seen.1
    · rw [if_neg hk]; exact h1
theorem Dsk.Ok.light {D : Dsk} (h : D.Ok) {f : Int} (hf : f ≤ 9223372036854775807) : (D.light f).Ok := by
  obtain ⟨n0, n1, s0, s1, ll, lb, w, wd, f0, f1⟩ := h
  refine ⟨n0, n1, s0, s1, ll, lb, w, wd, ?_, ?_⟩
  · show -1 ≤ if f < 0 then -1 else f
    split <;> omega
  · show (if f < 0 then -1 else f) ≤ _
    split <;> omega
theorem Dsk.Ok.left {D : Dsk} (h : D.Ok) (keep torn : Int) : (D.left keep torn).length = D.n * D.size ∧ ∀ z ∈ D.left keep torn, 0 ≤ z ∧ z ≤ 255 := by
  unfold Dsk.left
  cases hp : D.waits[keep.toNat]? with
  | none => exact fold_ok h.w D.last h.ll h.lb
  | some p =>
    have hm : p ∈ D.waits := List.mem_of_getElem? hp
    obtain ⟨⟨i, hi, e⟩, h2, h3⟩ := h.w p hm
    obtain ⟨k1, k2⟩ := fold_ok (ws := D.waits.take keep.toNat) (fun q hq => h.w q (List.mem_of_mem_take hq)) D.last h.ll h.lb
    refine ⟨?_, layL_byte k2 (fun z hz => h3 z (List.mem_of_mem_take hz))⟩
    rw [layL_len, k1]
    show p.1 + (p.2.take torn.toNat).length ≤ _
    have := fit (size := D.size) hi
    rw [e, k1, List.length_take, h2]; omega
theorem Dsk.Ok.crash {D : Dsk} (h : D.Ok) (keep torn : Int) : (D.crash keep torn).Ok := by
  obtain ⟨l1, l2⟩ := h.left keep torn
  obtain ⟨n0, n1, s0, s1, ll, lb, w, wd, f0, f1⟩ := h
  exact ⟨n0, n1, s0, s1, l1, l2, fun p hp => (by cases hp), Nat.zero_le _, (show (-1 : Int) ≤ -1 by decide), (show (-1 : Int) ≤ 9223372036854775807 by decide)⟩

/-- What a write or a sync tells of the deeds. -/
theorem Dsk.Ok.step {D D' : Dsk} {c : Int} (h : D.Ok) (hs : (c, D') = D.sync ∨ ∃ i b, (c, D') = D.write i b) :
    (D.dark = true → c = 12 ∧ D' = D) ∧ (c = 0 ∨ c = 2 ∨ c = 12) ∧ (c = 0 → D'.deeds = D.deeds + 1 ∧ D'.fuse = (if 0 < D.fuse then D.fuse - 1 else D.fuse) ∧ D'.dark = D.dark ∧ D.fuse ≠ 0 ∧ D.dark = false) ∧
    (c ≠ 0 → D'.deeds = D.deeds ∧ D'.fuse = D.fuse ∧ (D'.dark = true → D.dark = true ∨ D.fuse = 0)) ∧ D'.n = D.n ∧ D'.size = D.size := by
  obtain ⟨d1, d2, d3, d4, d5, d6, d7⟩ := h.deed
  have df : D.deed.1 = true → D.deed.2.fuse = (if 0 < D.fuse then D.fuse - 1 else D.fuse) ∧ D.fuse ≠ 0 := fun e => by
    unfold Dsk.deed at e ⊢
    by_cases hf : D.fuse = 0
    · rw [if_pos hf] at e; cases e
    · rw [if_neg hf]; exact ⟨rfl, hf⟩
  have dn : ¬ D.deed.1 = true → D.deed.2.fuse = D.fuse ∧ D.fuse = 0 ∧ D.deed.2.deeds = D.deeds := fun e => by
    unfold Dsk.deed at e ⊢
    by_cases hf : D.fuse = 0
    · rw [if_pos hf]; exact ⟨rfl, hf, rfl⟩
    · rw [if_neg hf] at e; exact (e rfl).elim
  rcases hs with hs | ⟨i, b, hs⟩
  · unfold Dsk.sync at hs
    by_cases hd : D.dark = true
    · rw [if_pos hd] at hs; cases hs
      exact ⟨fun _ => ⟨rfl, rfl⟩, Or.inr (Or.inr rfl), fun e => (by cases e), fun _ => ⟨rfl, rfl, fun _ => Or.inl hd⟩, rfl, rfl⟩
    · rw [if_neg hd] at hs
      by_cases hk : D.deed.1 = true
      · rw [if_pos hk] at hs; cases hs
        exact ⟨fun e => (hd e).elim, Or.inl rfl, fun _ => ⟨(d6 hk).1, (df hk).1, (d6 hk).2, (df hk).2, by simpa using hd⟩, fun e => (e rfl).elim, d4, d5⟩
      · rw [if_neg hk] at hs; cases hs
        exact ⟨fun e => (hd e).elim, Or.inr (Or.inr rfl), fun e => (by cases e), fun _ => ⟨(dn hk).2.2, (dn hk).1, fun _ => Or.inr (dn hk).2.1⟩, d4, d5⟩
  · unfold Dsk.write at hs
    by_cases hd : D.dark = true
    · rw [if_pos hd] at hs; cases hs
      exact ⟨fun _ => ⟨rfl, rfl⟩, Or.inr (Or.inr rfl), fun e => (by cases e), fun _ => ⟨rfl, rfl, fun _ => Or.inl hd⟩, rfl, rfl⟩
    · rw [if_neg hd] at hs
      by_cases hc : i < 0 ∨ (D.n : Int) ≤ i ∨ D.size < b.length
      · rw [if_pos hc] at hs; cases hs
        exact ⟨fun e => (hd e).elim, Or.inr (Or.inl rfl), fun e => (by cases e), fun _ => ⟨rfl, rfl, fun e => Or.inl e⟩, rfl, rfl⟩
      · rw [if_neg hc] at hs
        by_cases hk : D.deed.1 = true
        · rw [if_pos hk] at hs; cases hs
          exact ⟨fun e => (hd e).elim, Or.inl rfl, fun _ => ⟨(d6 hk).1, (df hk).1, (d6 hk).2, (df hk).2, by simpa using hd⟩, fun e => (e rfl).elim, d4, d5⟩
        · rw [if_neg hk] at hs; cases hs
          exact ⟨fun e => (hd e).elim, Or.inr (Or.inr rfl), fun e => (by cases e), fun _ => ⟨(dn hk).2.2, (dn hk).1, fun _ => Or.inr (dn hk).2.1⟩, d4, d5⟩

end Go.Proofs.Ytnndpainnoebgaa
