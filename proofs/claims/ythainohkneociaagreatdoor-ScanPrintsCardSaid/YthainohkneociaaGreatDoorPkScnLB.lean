/-
  ScanPrints: what is printed, and its tokens: plain; and walked.
-/
import Derived.Test.YthainohkneociaaGreatDoorPkScnLA
import Derived.Test.YthainohkneociaaGreatDoorPkScnMA
import Derived.Test.YthainohkneociaaGreatDoorPkScnN
namespace Go.Proofs.YthainohkneociaaGreatDoor
open Go.RowKit

/-- No line ends within what is printed. -/
theorem quoteU_line (r : Int) : ∀ z ∈ quoteU r, z ≠ 10 := fun z hz => by
  unfold quoteU at hz
  split at hz
  · simp only [List.mem_cons, List.not_mem_nil, or_false] at hz; omega
  split at hz
  · simp only [List.mem_cons, List.not_mem_nil, or_false] at hz; omega
  split at hz
  · simp only [List.mem_cons, List.not_mem_nil, or_false] at hz; omega
  split at hz
  · simp only [List.mem_cons, List.not_mem_nil, or_false] at hz; omega
  split at hz
  · simp only [List.mem_append, List.mem_cons, List.not_mem_nil, or_false] at hz
    rcases hz with (hz | hz) | hz
    · omega
    · have := hexL_in _ z hz; omega
    · omega
  · have := List.mem_singleton.mp hz; omega
theorem print_line {k : Int} {s : ByteArray} {n : Nat} (h : RightT k s (n : Int)) : ∀ z ∈ runesOf (prT k s n), z ≠ 10 := by
  have asc : ∀ zs : List Int, (∀ z ∈ zs, (48 ≤ z ∧ z ≤ 57) ∨ unitOf z ≠ 0 ∨ z = 46 ∨ z = 37) → ∀ z ∈ runesOf zs, z ≠ 10 := fun zs hz z hm e => by
    rw [runes_of_ascii (fun z hm => (within_ascii (hz z hm)).2)] at hm
    have := (within_ascii (hz z hm)).1
    rw [e] at this
    revert this; decide
  unfold RightT at h
  rcases h with ⟨rfl, h, hz⟩ | ⟨rfl, h, h2, hz⟩ | ⟨rfl | rfl, rfl⟩ | ⟨rfl, rfl, h2⟩ | ⟨rfl, rfl, h2⟩ | ⟨rfl | rfl | rfl | rfl, rfl, hz⟩
  · intro z hm e
    have := name_within h z hm
    rw [e] at this
    revert this; decide
  · obtain ⟨hok, _⟩ := good_back (nums_byte s) (good_mem h)
    have e : prT 2 s n = quoteL (runesOf (nums s)) := rfl
    rw [e, runes_quoteL hok]
    intro z hm
    rcases List.mem_append.mp hm with hm | hm
    · rcases List.mem_append.mp hm with hm | hm
      · have := List.mem_singleton.mp hm; omega
      · obtain ⟨r, _, hr⟩ := List.mem_flatMap.mp hm
        exact quoteU_line r z hr
    · have := List.mem_singleton.mp hm; omega
  · exact asc _ (fun z hz => Or.inl (dec_byte n z hz))
  · have e : prT 4 ⟨#[]⟩ n = facP n := rfl
    rw [e]
    refine asc _ (fun z hz => ?_)
    rw [facP_form] at hz
    have ht := tailD_bd (r := n % 100) (by omega)
    rcases List.mem_append.mp hz with hz | hz
    · exact Or.inl (dec_byte _ z hz)
    · rcases List.mem_cons.mp hz with rfl | hz
      · exact Or.inr (Or.inr (Or.inl rfl))
      · rcases List.mem_append.mp hz with hz | hz
        · have := List.mem_singleton.mp hz; exact Or.inl (by omega)
        · exact Or.inl (ht.1 z hz)
  · exact asc _ (pct_letters n)
  · have e : prT 6 ⟨#[]⟩ n = spn n := rfl
    obtain ⟨_, l, hr⟩ := spn_tells n
    have hl0 := runs_letters _ _ _ hr
    rw [e]
    exact asc _ (fun z hz => (hl0 z hz).elim Or.inl (fun h => Or.inr (Or.inl h)))
  · intro z hm; have e : prT 0 ⟨#[]⟩ n = [] := rfl
    rw [e, runes_nil] at hm; cases hm
  · have e : prT 7 ⟨#[]⟩ n = [123] := rfl
    rw [e, runes_of_ascii (fun z hz => by have := List.mem_singleton.mp hz; omega)]
    intro z hm; have := List.mem_singleton.mp hm; omega
  · have e : prT 8 ⟨#[]⟩ n = [125] := rfl
    rw [e, runes_of_ascii (fun z hz => by have := List.mem_singleton.mp hz; omega)]
    intro z hm; have := List.mem_singleton.mp hm; omega
  · have e : prT 9 ⟨#[]⟩ n = [59] := rfl
    rw [e, runes_of_ascii (fun z hz => by have := List.mem_singleton.mp hz; omega)]
    intro z hm; have := List.mem_singleton.mp hm; omega
theorem spot_flat {l : List Int} (h : ∀ z ∈ l, z ≠ 10) : ∀ i, i ≤ l.length → spotAt l i = (1, 1 + (i : Int))
  | 0, _ => rfl
  | i + 1, hi => by
    have ih := spot_flat h i (by omega)
    have h1 : l.getD i 0 ≠ 10 := h _ (getD_mem (by omega))
    rw [spot_col (by omega) h1, ih]
    simp only [Prod.mk.injEq, true_and]
    omega
/-- What a printed token's letters are. -/
theorem print_byte {k : Int} {s : ByteArray} {n : Nat} (h : RightT k s (n : Int)) : ∀ z ∈ prT k s n, 0 ≤ z ∧ z ≤ 255 := by
  have asc : ∀ zs : List Int, (∀ z ∈ zs, (48 ≤ z ∧ z ≤ 57) ∨ unitOf z ≠ 0 ∨ z = 46 ∨ z = 37) → ∀ z ∈ zs, 0 ≤ z ∧ z ≤ 255 := fun zs hz z hm => by
    have := (within_ascii (hz z hm)).2; omega
  unfold RightT at h
  rcases h with ⟨rfl, h, hz⟩ | ⟨rfl, h, h2, hz⟩ | ⟨rfl | rfl, rfl⟩ | ⟨rfl, rfl, h2⟩ | ⟨rfl, rfl, h2⟩ | ⟨rfl | rfl | rfl | rfl, rfl, hz⟩
  · exact nums_byte s
  · obtain ⟨hok, _⟩ := good_back (nums_byte s) (good_mem h)
    have e : prT 2 s n = quoteL (runesOf (nums s)) := rfl
    rw [e]
    unfold quoteL quoteB
    intro z hm
    rcases List.mem_append.mp hm with hm | hm
    · rcases List.mem_append.mp hm with hm | hm
      · have := List.mem_singleton.mp hm; omega
      · obtain ⟨r, hr, hz⟩ := List.mem_flatMap.mp hm
        have ho := hok r hr
        unfold quoteR at hz
        split at hz
        · simp only [List.mem_cons, List.not_mem_nil, or_false] at hz; omega
        split at hz
        · simp only [List.mem_cons, List.not_mem_nil, or_false] at hz; omega
        split at hz
        · simp only [List.mem_cons, List.not_mem_nil, or_false] at hz; omega
        split at hz
        · simp only [List.mem_cons, List.not_mem_nil, or_false] at hz; omega
        split at hz
        · simp only [List.mem_append, List.mem_cons, List.not_mem_nil, or_false] at hz
          rcases hz with (hz | hz) | hz
          · omega
          · have := hexL_in _ z hz; omega
          · omega
        · exact encL_byte ho.1 ho.2.1 z hz
    · have := List.mem_singleton.mp hm; omega
  · exact asc _ (fun z hz => Or.inl (dec_byte n z hz))
  · have e : prT 4 ⟨#[]⟩ n = facP n := rfl
    rw [e]
    refine asc _ (fun z hz => ?_)
    rw [facP_form] at hz
    have ht := tailD_bd (r := n % 100) (by omega)
    rcases List.mem_append.mp hz with hz | hz
    · exact Or.inl (dec_byte _ z hz)
    · rcases List.mem_cons.mp hz with rfl | hz
      · exact Or.inr (Or.inr (Or.inl rfl))
      · rcases List.mem_append.mp hz with hz | hz
        · have := List.mem_singleton.mp hz; exact Or.inl (by omega)
        · exact Or.inl (ht.1 z hz)
  · exact asc _ (pct_letters n)
  · have e : prT 6 ⟨#[]⟩ n = spn n := rfl
    obtain ⟨_, l, hr⟩ := spn_tells n
    have hl0 := runs_letters _ _ _ hr
    rw [e]
    exact asc _ (fun z hz => (hl0 z hz).elim Or.inl (fun h => Or.inr (Or.inl h)))
  · intro z hm; cases hm
  · intro z hm; have := List.mem_singleton.mp hm; omega
  · intro z hm; have := List.mem_singleton.mp hm; omega
  · intro z hm; have := List.mem_singleton.mp hm; omega
/-- The tokens of what is printed. -/
theorem print_toks {k : Int} {s : ByteArray} {n : Nat} (h : RightT k s (n : Int)) (hn : n ≤ 18446744073709551615) (h0 : k ≠ 0) :
    outF (runesOf (prT k s n)) = ([(⟨k.toNat, txT k s, n⟩, 0), (tk0, (runesOf (prT k s n)).length)], 0, 0, 0) := by
  have hr := reads_right h hn h0
  obtain ⟨l, hl⟩ : ∃ l, runesOf (prT k s n) = l := ⟨_, rfl⟩
  rw [hl] at hr ⊢
  have a1 := tokF_reads (l := l) (i := 0) (R := []) (by simp) hr endG_nil
  have a2 := tokF_none (l := l) (i := 0 + l.length) (by simp)
  rw [a2] at a1
  rw [outF_fine a1]
  rfl
theorem mark_toks : tokF [63] 0 = .error (0, 5) := by
  have h := tokF_piece (l := [63]) (i := 0) (by decide) (by decide) (by decide)
  have hv : valF [63] = (tk0, 5) := valF_none (Or.inr (by decide)) (fun hN => by have := hN.2.2.1; revert this; decide)
  have hp : ((([63] : List Int).drop 0).take (pieceN (([63] : List Int).drop 0))) = [63] := by rfl
  have ht : tokP [63] = (tk0, 5) := by
    unfold tokP
    rw [if_neg (by decide), if_neg (by decide), if_neg (by decide), if_neg (by decide), hv]
  rw [hp, ht, if_neg (by decide)] at h
  exact h
theorem kind_in {k : Int} {s : ByteArray} {n : Int} (h : RightT k s n) : 0 ≤ k ∧ k ≤ 9 := by unfold RightT at h; omega
theorem text_back {k : Int} {s : ByteArray} {n : Int} (h : RightT k s n) : strOfNums (txT k s) = s := by
  unfold txT
  split
  · exact strOfNums_nums s
  · rename_i hk
    unfold RightT at h
    have : s = ⟨#[]⟩ := by
      rcases h with ⟨h1, _⟩ | ⟨h1, _⟩ | ⟨_, h1⟩ | ⟨_, h1, _⟩ | ⟨_, h1, _⟩ | ⟨_, h1, _⟩
      · exact (hk (Or.inl h1)).elim
      · exact (hk (Or.inr h1)).elim
      · exact h1
      · exact h1
      · exact h1
      · exact h1
    rw [this]; rfl

/-- The walk of ScanPrints: what each operation of the first comparison has made. -/
def LPs (k : Int) (s : ByteArray) (n : Nat) (a b : Int) (q : Bool) (S : ByteArray) : Nat → Value → World → Prop
  | 0, v, _ => v = .agg #[.int .i64 k, .string s, .int .u64 (n : Int), .int .i64 a, .int .i64 b]
  | 1, v, _ => v = .bool q
  | 2, v, _ => v = .agg #[.int .i64 k, .string s, .int .u64 (n : Int), .int .i64 a, .int .i64 b]
  | 3, v, _ => v = .bool q
  | 4, v, _ => v = .bool false
  | 5, v, _ => v = .bool false
  | 6, v, _ => v = .string S
  | 7, v, _ => v = .agg #[.int .i64 k, .string s, .int .u64 (n : Int), .int .i64 a, .int .i64 b]
  | 8, v, _ => v = .string S
  | 9, v, _ => v = .bool false
  | 10, v, _ => v = .bool false
  | _, _, _ => True
theorem LPs.keep {k : Int} {s : ByteArray} {n : Nat} {a b : Int} {q : Bool} {S : ByteArray} (j : Nat) (v : Value) (w w' : World) (h : LPs k s n a b q S j v w) (_hb : Below w.heap.size w w') : LPs k s n a b q S j v w' := by
  match j, h with
  | 0, h => exact h
  | 1, h => exact h
  | 2, h => exact h
  | 3, h => exact h
  | 4, h => exact h
  | 5, h => exact h
  | 6, h => exact h
  | 7, h => exact h
  | 8, h => exact h
  | 9, h => exact h
  | 10, h => exact h
  | j + 11, _ => exact trivial
theorem sp_len {us : List Int} : ∀ n : Nat, W128 n → (sp us n).length ≤ 40 * us.length := by
  induction us with
  | nil => intro n _; exact Nat.le_refl _
  | cons c r ih =>
    intro n hn
    unfold sp
    have h1 := ih (n % unitOf c) (by unfold W128 at *; have := Nat.mod_le n (unitOf c); omega)
    have h2 : (dec (n / unitOf c)).length ≤ 39 := dec_len (by unfold W128 at *; have := Nat.div_le_self n (unitOf c); omega)
    split
    · simp only [List.length_append, List.length_cons, List.length_nil] at *; omega
    · have h3 := ih n hn
      simp only [List.length_cons] at *; omega
theorem print_short {k : Int} {s : ByteArray} {n : Nat} (h : RightT k s (n : Int)) (hn : n ≤ 18446744073709551615) (hs : s.size ≤ 2000) : (prT k s n).length ≤ 2000 := by
  have hd : ∀ m : Nat, m ≤ 18446744073709551615 → (dec m).length ≤ 39 := fun m hm => dec_len (by unfold W128; omega)
  unfold RightT at h
  rcases h with ⟨rfl, h, hz⟩ | ⟨rfl, h, h2, hz⟩ | ⟨rfl | rfl, rfl⟩ | ⟨rfl, rfl, h2⟩ | ⟨rfl, rfl, h2⟩ | ⟨rfl | rfl | rfl | rfl, rfl, hz⟩
  · have e : prT 1 s n = nums s := rfl
    rw [e, nums_length]; exact hs
  · have e : prT 2 s n = quoteL (runesOf (nums s)) := rfl
    obtain ⟨hok, _⟩ := good_back (nums_byte s) (good_mem h)
    have key : ∀ l : List Int, (∀ r ∈ l, RuneOk r) → (quoteB l).length ≤ 9 * l.length := by
      intro l
      induction l with
      | nil => intro _; exact Nat.le_refl _
      | cons r l ih =>
        intro hl
        have h1 := quoteR_len (hl r (List.mem_cons_self ..)).2.1
        have h2 := ih (fun x hx => hl x (List.mem_cons_of_mem _ hx))
        have e : quoteB (r :: l) = quoteR r ++ quoteB l := by simp [quoteB]
        rw [e, List.length_append, List.length_cons]; omega
    have := key _ hok
    rw [e]
    unfold quoteL
    simp only [List.length_append, List.length_cons, List.length_nil]; omega
  · have e : prT 3 ⟨#[]⟩ n = dec n := rfl
    have := hd n hn
    rw [e]; omega
  · have e : prT 4 ⟨#[]⟩ n = facP n := rfl
    have h1 := hd (n / 1000) (by omega)
    have h2 := (tailD_bd (r := n % 100) (by omega)).2
    rw [e, facP_form]
    simp only [List.length_append, List.length_cons, List.length_nil]; omega
  · have e : prT 5 ⟨#[]⟩ n = pct n := rfl
    have h1 := hd (n / 10000) (by omega)
    have h3 := fr_len 4 (n % 10000)
    rw [e]
    unfold pct tailOf
    split <;> simp only [List.length_append, List.length_cons, List.length_nil] <;> omega
  · have e : prT 6 ⟨#[]⟩ n = spn n := rfl
    rw [e]
    unfold spn
    split
    · decide
    · have := sp_len (us := units) n (by unfold W128; omega)
      have e2 : units.length = 5 := rfl
      omega
  · have e : prT 0 ⟨#[]⟩ n = [] := rfl
    rw [e]; exact Nat.zero_le _
  · have e : prT 7 ⟨#[]⟩ n = [123] := rfl
    rw [e]; decide
  · have e : prT 8 ⟨#[]⟩ n = [125] := rfl
    rw [e]; decide
  · have e : prT 9 ⟨#[]⟩ n = [59] := rfl
    rw [e]; decide

set_option maxRecDepth 100000 in
set_option maxHeartbeats 16000000 in
theorem scnp_no (k : Int) (s : ByteArray) (n : Nat) (a b : Int) (w : World) (env : EnvQ w) (hm : s.size ≤ 2000) (hr : ¬ RightT k s (n : Int)) :
    Calls Tryz.prog 4 #[.agg #[.int .i64 k, .string s, .int .u64 (n : Int), .int .i64 a, .int .i64 b]] w fun e w' => e = .returned (.bool true) ∧ Below w.heap.size w w' := by
  obtain ⟨B, hB⟩ : ∃ B, w.heap.size = B := ⟨_, rfl⟩
  obtain ⟨W0, hW0⟩ : ∃ W, w.alloc (.cells #[.int .i64 k, .string s, .int .u64 (n : Int), .int .i64 a, .int .i64 b] 35) = W := ⟨_, rfl⟩
  have V0 : Var5 W0 B (.int .i64 k) (.string s) (.int .u64 (n : Int)) (.int .i64 a) (.int .i64 b) := by rw [← hW0]; exact Var5.fresh _ _ _ _ _ _ _ _ hB.symm
  have g0 : Below w.heap.size w W0 := by rw [← hW0]; exact (Below.refl _ _).alloc (Nat.le_refl _) _
  have HE0 := Lib.hid (env.step g0)
  have HA := Lib.hid (scn_awake W0 HE0.out.lo)
  have HG : Hid (Below B w W0) := Lib.hid (by rw [← hB]; exact g0)
  have HB := Lib.hid hB
  have HV := Lib.hid V0
  have c0 := V0.c0; have c1 := V0.c1; have c2 := V0.c2; have c3 := V0.c3; have c4 := V0.c4
  have hsz : ¬ (2000 : Int) < (s.size : Int) := by omega
  have HPR := Lib.hid (fun W (e : EnvQ W) => ptok_no k s n a b W e (by omega) hr)
  have HPF := Lib.hid (fun W => sprint_no k s n a b W (by omega) hr)
  have HRR : Hid (∀ W, Env W → Calls Tryz.prog 10 #[.agg #[.int .i64 k, .string s, .int .u64 (n : Int), .int .i64 a, .int .i64 b]] W fun e w' => e = .returned (.bool false) ∧ Below W.heap.size W w') := Lib.hid (fun W e => (pright_any k s n a b W e (by omega)).mono (by
    rintro e w' ⟨q, rfl, hq, h⟩
    cases q with
    | false => exact ⟨rfl, h⟩
    | true => exact (hr (hq.mp rfl)).elim))
  have HRF : Hid (∀ W, Calls Tryz.prog 11 #[.agg #[.int .i64 k, .string s, .int .u64 (n : Int), .int .i64 a, .int .i64 b]] W fun e w' => e = .returned (.bool false) ∧ Below W.heap.size W w') := Lib.hid (fun W => (sright_any k s n a b W (by omega)).mono (by
    rintro e w' ⟨q, rfl, hq, h⟩
    cases q with
    | false => exact ⟨rfl, h⟩
    | true => exact (hr (hq.mp rfl)).elim))
  obtain ⟨S, hS⟩ : ∃ S : ByteArray, (⟨#[63]⟩ : ByteArray) = S := ⟨_, rfl⟩
  have HTK : Hid (∀ W, Env W → Calls Tryz.prog 6 #[.string S] W (fun e w' => ∃ v, e = .returned (.tuple #[v, .agg #[.int .i64 5, .int .i64 1, .int .i64 1]]) ∧ True ∧ Below W.heap.size W w')) := Lib.hid (fun W e => by
    rw [← hS]
    refine (ptoks_any ⟨#[63]⟩ W e (by decide)).mono (fun e w' h => ?_)
    have h2 := h.out
    have hl : runesOf (nums ⟨#[63]⟩) = [63] := runes_of_ascii (by decide)
    rw [hl, outF_bad mark_toks] at h2
    obtain ⟨v, rfl, _, hb⟩ := h2
    exact ⟨v, rfl, trivial, hb⟩)
  rw [hS] at HPR HPF
  have HS := Lib.hid hS
  clear V0 g0 env hr hS hm
  go_enter Tryz.func4, Tryz.ntmps4
  go_wp2_with (first | (go_at_call 5; (with_reducible refine (HA.out).mono ?_); rintro e w1 ⟨rfl, g1⟩; have V1 := Lib.hid (HV.out.after g1); have G1 : Hid (Below B w w1) := Lib.hid (HB.out ▸ below_step (HB.out.symm ▸ HG.out) g1); have HE1 := Lib.hid (HE0.out.step g1); have d0 := V1.out.c0; have d1 := V1.out.c1; have d2 := V1.out.c2; have d3 := V1.out.c3; have d4 := V1.out.c4; clear g1) | (go_at_call 9; (with_reducible refine (HPR.out _ HE1.out).mono ?_); rintro e w2 ⟨rfl, g2⟩; have V2 := Lib.hid (V1.out.after g2); have G2 : Hid (Below B w w2) := Lib.hid (HB.out ▸ below_step (HB.out.symm ▸ G1.out) g2); have HE2 := Lib.hid (HE1.out.lo.step g2); clear g2))
  have HX := Lib.hid (show ∀ W, Below w2.heap.size w2 W → Var5 W B (.int .i64 k) (.string s) (.int .u64 (n : Int)) (.int .i64 a) (.int .i64 b) from fun W h => V2.out.after h)
  clear c0 c1 c2 c3 c4 d0 d1 d2 d3 d4
  refine wp_region_mix 11 (LPs k s n a b false S) (fun _ => false) (by kernel_rfl) (by kernel_rfl) LPs.keep (fun _ _ _ h => by cases h) ?_ ?_
  · simp only [List.take_succ_cons, List.take_zero]
    refine (StepsAll.cons ?_ (StepsAll.cons ?_ (StepsAll.cons ?_ (StepsAll.cons ?_ (StepsAll.cons ?_ (StepsAll.cons ?_ (StepsAll.cons ?_ (StepsAll.cons ?_ (StepsAll.cons ?_ (StepsAll.cons ?_ (StepsAll.cons ?_ StepsAll.nil)))))))))))
    · intro u W hb hd
      have c0 := (HX.out W hb).c0
      have c1 := (HX.out W hb).c1
      have c2 := (HX.out W hb).c2
      have c3 := (HX.out W hb).c3
      have c4 := (HX.out W hb).c4
      simp only [putAll, Act.put, List.setIfInBounds_toArray, List.set_cons_succ, List.set_cons_zero, Nat.zero_add, Nat.reduceAdd]
      go_wp2
      first | exact ⟨rfl, Below.refl _ _⟩ | exact ⟨_, rfl, rfl, Below.refl _ _, fun h => by simp at h⟩ | exact ⟨_, rfl, rfl, Below.refl _ _⟩ | exact ⟨rfl, Below.refl _ _, fun h => by simp at h⟩
    · intro u W hb hd
      have e0 : u 0 = .agg #[.int .i64 k, .string s, .int .u64 (n : Int), .int .i64 a, .int .i64 b] := hd.1 rfl (by decide)
      simp only [putAll, Act.put, List.setIfInBounds_toArray, List.set_cons_succ, List.set_cons_zero, Nat.zero_add, Nat.reduceAdd]
      rw [e0]
      go_wp2_with (go_at_call 10; (with_reducible refine (HRR.out _ (HE2.out.step hb)).mono ?_); rintro e W1 ⟨rfl, g⟩)
      first | exact ⟨rfl, g⟩ | exact ⟨_, rfl, rfl, g, fun h => by simp at h⟩ | exact ⟨_, rfl, rfl, g⟩ | exact ⟨rfl, g, fun h => by simp at h⟩
    · intro u W hb hd
      have c0 := (HX.out W hb).c0
      have c1 := (HX.out W hb).c1
      have c2 := (HX.out W hb).c2
      have c3 := (HX.out W hb).c3
      have c4 := (HX.out W hb).c4
      simp only [putAll, Act.put, List.setIfInBounds_toArray, List.set_cons_succ, List.set_cons_zero, Nat.zero_add, Nat.reduceAdd]
      go_wp2
      first | exact ⟨rfl, Below.refl _ _⟩ | exact ⟨_, rfl, rfl, Below.refl _ _, fun h => by simp at h⟩ | exact ⟨_, rfl, rfl, Below.refl _ _⟩ | exact ⟨rfl, Below.refl _ _, fun h => by simp at h⟩
    · intro u W hb hd
      have e0 : u 2 = .agg #[.int .i64 k, .string s, .int .u64 (n : Int), .int .i64 a, .int .i64 b] := hd.1 rfl (by decide)
      simp only [putAll, Act.put, List.setIfInBounds_toArray, List.set_cons_succ, List.set_cons_zero, Nat.zero_add, Nat.reduceAdd]
      rw [e0]
      go_wp2_with (go_at_call 11; (with_reducible refine (HRF.out _).mono ?_); rintro e W1 ⟨rfl, g⟩)
      first | exact ⟨rfl, g⟩ | exact ⟨_, rfl, rfl, g, fun h => by simp at h⟩ | exact ⟨_, rfl, rfl, g⟩ | exact ⟨rfl, g, fun h => by simp at h⟩
    · intro u W hb hd
      have e0 : u 1 = .bool false := hd.1 rfl (by decide)
      have e1 : u 3 = .bool false := hd.2.1 rfl (by decide)
      simp only [putAll, Act.put, List.setIfInBounds_toArray, List.set_cons_succ, List.set_cons_zero, Nat.zero_add, Nat.reduceAdd]
      rw [e0, e1]
      go_wp2
      first | exact ⟨rfl, Below.refl _ _⟩ | exact ⟨_, rfl, rfl, Below.refl _ _, fun h => by simp at h⟩ | exact ⟨_, rfl, rfl, Below.refl _ _⟩ | exact ⟨rfl, Below.refl _ _, fun h => by simp at h⟩
    · intro u W hb hd
      have e0 : u 4 = .bool false := hd.1 rfl (by decide)
      simp only [putAll, Act.put, List.setIfInBounds_toArray, List.set_cons_succ, List.set_cons_zero, Nat.zero_add, Nat.reduceAdd]
      rw [e0]
      go_wp2
      first | exact ⟨rfl, Below.refl _ _⟩ | exact ⟨_, rfl, rfl, Below.refl _ _, fun h => by simp at h⟩ | exact ⟨_, rfl, rfl, Below.refl _ _⟩ | exact ⟨rfl, Below.refl _ _, fun h => by simp at h⟩
    · intro u W hb hd
      have e0 : u 5 = .bool false := hd.1 rfl (by decide)
      simp only [putAll, Act.put, List.setIfInBounds_toArray, List.set_cons_succ, List.set_cons_zero, Nat.zero_add, Nat.reduceAdd]
      rw [e0]
      go_wp2
      first | exact ⟨rfl, Below.refl _ _⟩ | exact ⟨_, rfl, rfl, Below.refl _ _, fun h => by simp at h⟩ | exact ⟨_, rfl, rfl, Below.refl _ _⟩ | exact ⟨rfl, Below.refl _ _, fun h => by simp at h⟩
    · intro u W hb hd
      have e0 : u 5 = .bool false := hd.1 rfl (by decide)
      have c0 := (HX.out W hb).c0
      have c1 := (HX.out W hb).c1
      have c2 := (HX.out W hb).c2
      have c3 := (HX.out W hb).c3
      have c4 := (HX.out W hb).c4
      simp only [putAll, Act.put, List.setIfInBounds_toArray, List.set_cons_succ, List.set_cons_zero, Nat.zero_add, Nat.reduceAdd]
      rw [e0]
      go_wp2
      first | exact ⟨rfl, Below.refl _ _⟩ | exact ⟨_, rfl, rfl, Below.refl _ _, fun h => by simp at h⟩ | exact ⟨_, rfl, rfl, Below.refl _ _⟩ | exact ⟨rfl, Below.refl _ _, fun h => by simp at h⟩
    · intro u W hb hd
      have e0 : u 7 = .agg #[.int .i64 k, .string s, .int .u64 (n : Int), .int .i64 a, .int .i64 b] := hd.1 rfl (by decide)
      have e2 : u 5 = .bool false := hd.2.2.1 rfl (by decide)
      simp only [putAll, Act.put, List.setIfInBounds_toArray, List.set_cons_succ, List.set_cons_zero, Nat.zero_add, Nat.reduceAdd]
      rw [e0, e2]
      go_wp2_with (go_at_call 12; (with_reducible refine (HPF.out _).mono ?_); rintro e W1 ⟨rfl, g⟩)
      first | exact ⟨rfl, g⟩ | exact ⟨_, rfl, rfl, g, fun h => by simp at h⟩ | exact ⟨_, rfl, rfl, g⟩ | exact ⟨rfl, g, fun h => by simp at h⟩
    · intro u W hb hd
      have e0 : u 6 = .string S := hd.1 rfl (by decide)
      have e1 : u 8 = .string S := hd.2.1 rfl (by decide)
      have e2 : u 5 = .bool false := hd.2.2.1 rfl (by decide)
      simp only [putAll, Act.put, List.setIfInBounds_toArray, List.set_cons_succ, List.set_cons_zero, Nat.zero_add, Nat.reduceAdd]
      rw [e0, e1, e2]
      go_wp2
      first | exact ⟨rfl, Below.refl _ _⟩ | exact ⟨_, rfl, rfl, Below.refl _ _, fun h => by simp at h⟩ | exact ⟨_, rfl, rfl, Below.refl _ _⟩ | exact ⟨rfl, Below.refl _ _, fun h => by simp at h⟩
    · intro u W hb hd
      have e0 : u 5 = .bool false := hd.1 rfl (by decide)
      have e1 : u 9 = .bool false := hd.2.1 rfl (by decide)
      simp only [putAll, Act.put, List.setIfInBounds_toArray, List.set_cons_succ, List.set_cons_zero, Nat.zero_add, Nat.reduceAdd]
      rw [e0, e1]
      go_wp2
      first | exact ⟨rfl, Below.refl _ _⟩ | exact ⟨_, rfl, rfl, Below.refl _ _, fun h => by simp at h⟩ | exact ⟨_, rfl, rfl, Below.refl _ _⟩ | exact ⟨rfl, Below.refl _ _, fun h => by simp at h⟩
  · intro u W hb hT _
    have e10 : u 10 = .bool false := hT 10 (by decide)
    have V3 := Lib.hid (HX.out W hb)
    have G3 : Hid (Below B w W) := Lib.hid (HB.out ▸ below_step (HB.out.symm ▸ G2.out) hb)
    have HE3 := Lib.hid (HE2.out.step hb)
    simp only [List.take_succ_cons, List.take_zero, List.drop_succ_cons, List.drop_zero, putAll, Act.put, List.setIfInBounds_toArray, List.set_cons_succ, List.set_cons_zero, Nat.zero_add, Nat.reduceAdd]
    rw [e10]
    clear hb hT e10
    rw [← HS.out]
    rw [← HS.out] at HTK
    go_wp2_with (first | (go_at_call 6; (with_reducible refine (HTK.out _ HE3.out).mono ?_); rintro e w4 ⟨v4, rfl, r4, g4⟩; have G4 : Hid (Below B w w4) := Lib.hid (HB.out ▸ below_step (HB.out.symm ▸ G3.out) g4); obtain ⟨f4, U5, U6, fm4⟩ := fault_made w4 5 1 1; have hf4 := fm4.g0; have ha4 := fm4.a2; have hs4 := fm4.s3; have p0 := fm4.v2.c0; have p1 := fm4.v2.c1; have p2 := fm4.v2.c2; have q0 := fm4.v2.q0; have q1 := fm4.v2.q1; have q2 := fm4.v2.q2; have F6 := Lib.hid fm4.v3; have V6 := Lib.hid (V3.out.after (below_step g4 fm4.bel)); have G6 : Hid (Below B w U6) := Lib.hid (HB.out ▸ below_step (HB.out.symm ▸ G4.out) fm4.bel); have m0 := V6.out.c0; have m1 := V6.out.c1; have m2 := V6.out.c2; have m3 := V6.out.c3; have m4 := V6.out.c4; clear r4 g4 fm4) | (go_at_call 11; (with_reducible refine (HRF.out _).mono ?_); rintro e w7 ⟨rfl, g7⟩; clear hf4 ha4 hs4 p0 p1 p2 q0 q1 q2 m0 m1 m2 m3 m4; have G7 : Hid (Below B w w7) := Lib.hid (HB.out ▸ below_step (HB.out.symm ▸ G6.out) g7); have V7 := Lib.hid (V6.out.after g7); have F7 := Lib.hid (F6.out.after g7); have k0 := V7.out.c0; have k1 := V7.out.c1; have k2 := V7.out.c2; have k3 := V7.out.c3; have k4 := V7.out.c4; have kq := V7.out.q; have j0 := F7.out.c0; have j1 := F7.out.c1; have j2 := F7.out.c2; clear g7))
    go_ret
    exact ⟨rfl, HB.out ▸ G7.out⟩
set_option maxRecDepth 100000 in
set_option maxHeartbeats 16000000 in
theorem scnp_zero (k : Int) (s : ByteArray) (n : Nat) (a b : Int) (w : World) (env : EnvQ w) (hm : s.size ≤ 2000) (hn : n ≤ 18446744073709551615) (hr : RightT k s (n : Int)) (h0 : k = 0) :
    Calls Tryz.prog 4 #[.agg #[.int .i64 k, .string s, .int .u64 (n : Int), .int .i64 a, .int .i64 b]] w fun e w' => e = .returned (.bool true) ∧ Below w.heap.size w w' := by
  obtain ⟨B, hB⟩ : ∃ B, w.heap.size = B := ⟨_, rfl⟩
  obtain ⟨W0, hW0⟩ : ∃ W, w.alloc (.cells #[.int .i64 k, .string s, .int .u64 (n : Int), .int .i64 a, .int .i64 b] 35) = W := ⟨_, rfl⟩
  have V0 : Var5 W0 B (.int .i64 k) (.string s) (.int .u64 (n : Int)) (.int .i64 a) (.int .i64 b) := by rw [← hW0]; exact Var5.fresh _ _ _ _ _ _ _ _ hB.symm
  have g0 : Below w.heap.size w W0 := by rw [← hW0]; exact (Below.refl _ _).alloc (Nat.le_refl _) _
  have HE0 := Lib.hid (env.step g0)
  have HA := Lib.hid (scn_awake W0 HE0.out.lo)
  have HG : Hid (Below B w W0) := Lib.hid (by rw [← hB]; exact g0)
  have HB := Lib.hid hB
  have HV := Lib.hid V0
  have c0 := V0.c0; have c1 := V0.c1; have c2 := V0.c2; have c3 := V0.c3; have c4 := V0.c4
  have hsz : ¬ (2000 : Int) < (s.size : Int) := by omega
  have HPR := Lib.hid (fun W (e : EnvQ W) => ptok_any k s n a b W e (by omega) hn hr)
  have HPF : Hid (∀ W, Calls Tryz.prog 12 #[.agg #[.int .i64 k, .string s, .int .u64 (n : Int), .int .i64 a, .int .i64 b]] W fun e w' => e = .returned (.string (strOfNums (prT k s n))) ∧ Below W.heap.size W w') := Lib.hid (fun W => by
    by_cases h4 : k = 4
    · have hr2 := hr
      subst h4
      have hse : s = ⟨#[]⟩ := by unfold RightT at hr2; simp at hr2; exact hr2
      subst hse
      exact sprint_fac n a b W hn hr
    · exact sprint_most k s n a b W (by omega) hn h4 hr)
  have HRR : Hid (∀ W, Env W → Calls Tryz.prog 10 #[.agg #[.int .i64 k, .string s, .int .u64 (n : Int), .int .i64 a, .int .i64 b]] W fun e w' => e = .returned (.bool true) ∧ Below W.heap.size W w') := Lib.hid (fun W e => (pright_any k s n a b W e (by omega)).mono (by
    rintro e w' ⟨q, rfl, hq, h⟩
    rw [hq.mpr hr]
    exact ⟨rfl, h⟩))
  have HRF : Hid (∀ W, Calls Tryz.prog 11 #[.agg #[.int .i64 k, .string s, .int .u64 (n : Int), .int .i64 a, .int .i64 b]] W fun e w' => e = .returned (.bool true) ∧ Below W.heap.size W w') := Lib.hid (fun W => (sright_any k s n a b W (by omega)).mono (by
    rintro e w' ⟨q, rfl, hq, h⟩
    rw [hq.mpr hr]
    exact ⟨rfl, h⟩))
  obtain ⟨S, hS⟩ : ∃ S : ByteArray, strOfNums (prT k s n) = S := ⟨_, rfl⟩
  have hnS : nums S = prT k s n := by rw [← hS]; exact nums_strOfNums _ (print_byte hr)
  have hSz : S.size ≤ 2000 := by rw [← nums_length, hnS]; exact print_short hr hn hm
  have hTB := text_back hr
  have hse : s = ⟨#[]⟩ ∧ n = 0 := by subst h0; unfold RightT at hr; simp at hr; exact ⟨hr.1, by omega⟩
  have HTK : Hid (∀ W, Env W → Calls Tryz.prog 6 #[.string S] W (fun e w' => ∃ v, e = .returned (.tuple #[v, .agg #[.int .i64 0, .int .i64 0, .int .i64 0]]) ∧ RowK 35 5 w' W.heap.size v (toksV [] [(tk0, 0)]) ∧ Below W.heap.size W w')) := Lib.hid (fun W e => by
    have h := (ptoks_any S W e (by omega)).mono (fun e w' h => h.out)
    have e2 : prT k s n = [] := by rw [h0, hse.1]; rfl
    rw [hnS, e2, runes_nil, outF_fine (L := []) (tokF_end (by simp))] at h
    exact h)
  rw [hS] at HPR HPF
  have HC0 : Hid (some (((toksV [] [(tk0, 0)]).getD 0 []).getD 0 undef) = some (.int .i64 k)) := Lib.hid (by rw [h0]; rfl)
  have HC1 : Hid (some (((toksV [] [(tk0, 0)]).getD 0 []).getD 1 undef) = some (.string s)) := Lib.hid (by rw [hse.1]; rfl)
  have HC2 : Hid (some (((toksV [] [(tk0, 0)]).getD 0 []).getD 2 undef) = some (.int .u64 (n : Int))) := Lib.hid (by rw [hse.2]; rfl)
  have HC3 : Hid (some (((toksV [] [(tk0, 0)]).getD 0 []).getD 3 undef) = some (.int .i64 1)) := Lib.hid rfl
  have HC4 : Hid (some (((toksV [] [(tk0, 0)]).getD 0 []).getD 4 undef) = some (.int .i64 1)) := Lib.hid rfl
  have hkz : (k == 0) = true := by simpa using h0
  clear V0 g0 env hr hS hm hnS hSz hTB hse h0
  go_enter Tryz.func4, Tryz.ntmps4
  go_wp2_with (first | (go_at_call 5; (with_reducible refine (HA.out).mono ?_); rintro e w1 ⟨rfl, g1⟩; have V1 := Lib.hid (HV.out.after g1); have G1 : Hid (Below B w w1) := Lib.hid (HB.out ▸ below_step (HB.out.symm ▸ HG.out) g1); have HE1 := Lib.hid (HE0.out.step g1); have d0 := V1.out.c0; have d1 := V1.out.c1; have d2 := V1.out.c2; have d3 := V1.out.c3; have d4 := V1.out.c4; clear g1) | (go_at_call 9; (with_reducible refine (HPR.out _ HE1.out).mono ?_); rintro e w2 ⟨rfl, g2⟩; have V2 := Lib.hid (V1.out.after g2); have G2 : Hid (Below B w w2) := Lib.hid (HB.out ▸ below_step (HB.out.symm ▸ G1.out) g2); have HE2 := Lib.hid (HE1.out.lo.step g2); clear g2))
  have HX := Lib.hid (show ∀ W, Below w2.heap.size w2 W → Var5 W B (.int .i64 k) (.string s) (.int .u64 (n : Int)) (.int .i64 a) (.int .i64 b) from fun W h => V2.out.after h)
  clear c0 c1 c2 c3 c4 d0 d1 d2 d3 d4
  refine wp_region_mix 11 (LPs k s n a b true S) (fun _ => false) (by kernel_rfl) (by kernel_rfl) LPs.keep (fun _ _ _ h => by cases h) ?_ ?_
  · simp only [List.take_succ_cons, List.take_zero]
    refine (StepsAll.cons ?_ (StepsAll.cons ?_ (StepsAll.cons ?_ (StepsAll.cons ?_ (StepsAll.cons ?_ (StepsAll.cons ?_ (StepsAll.cons ?_ (StepsAll.cons ?_ (StepsAll.cons ?_ (StepsAll.cons ?_ (StepsAll.cons ?_ StepsAll.nil)))))))))))
    · intro u W hb hd
      have c0 := (HX.out W hb).c0
      have c1 := (HX.out W hb).c1
      have c2 := (HX.out W hb).c2
      have c3 := (HX.out W hb).c3
      have c4 := (HX.out W hb).c4
      simp only [putAll, Act.put, List.setIfInBounds_toArray, List.set_cons_succ, List.set_cons_zero, Nat.zero_add, Nat.reduceAdd]
      go_wp2
      first | exact ⟨rfl, Below.refl _ _⟩ | exact ⟨_, rfl, rfl, Below.refl _ _, fun h => by simp at h⟩ | exact ⟨_, rfl, rfl, Below.refl _ _⟩ | exact ⟨rfl, Below.refl _ _, fun h => by simp at h⟩
    · intro u W hb hd
      have e0 : u 0 = .agg #[.int .i64 k, .string s, .int .u64 (n : Int), .int .i64 a, .int .i64 b] := hd.1 rfl (by decide)
      simp only [putAll, Act.put, List.setIfInBounds_toArray, List.set_cons_succ, List.set_cons_zero, Nat.zero_add, Nat.reduceAdd]
      rw [e0]
      go_wp2_with (go_at_call 10; (with_reducible refine (HRR.out _ (HE2.out.step hb)).mono ?_); rintro e W1 ⟨rfl, g⟩)
      first | exact ⟨rfl, g⟩ | exact ⟨_, rfl, rfl, g, fun h => by simp at h⟩ | exact ⟨_, rfl, rfl, g⟩ | exact ⟨rfl, g, fun h => by simp at h⟩
    · intro u W hb hd
      have c0 := (HX.out W hb).c0
      have c1 := (HX.out W hb).c1
      have c2 := (HX.out W hb).c2
      have c3 := (HX.out W hb).c3
      have c4 := (HX.out W hb).c4
      simp only [putAll, Act.put, List.setIfInBounds_toArray, List.set_cons_succ, List.set_cons_zero, Nat.zero_add, Nat.reduceAdd]
      go_wp2
      first | exact ⟨rfl, Below.refl _ _⟩ | exact ⟨_, rfl, rfl, Below.refl _ _, fun h => by simp at h⟩ | exact ⟨_, rfl, rfl, Below.refl _ _⟩ | exact ⟨rfl, Below.refl _ _, fun h => by simp at h⟩
    · intro u W hb hd
      have e0 : u 2 = .agg #[.int .i64 k, .string s, .int .u64 (n : Int), .int .i64 a, .int .i64 b] := hd.1 rfl (by decide)
      simp only [putAll, Act.put, List.setIfInBounds_toArray, List.set_cons_succ, List.set_cons_zero, Nat.zero_add, Nat.reduceAdd]
      rw [e0]
      go_wp2_with (go_at_call 11; (with_reducible refine (HRF.out _).mono ?_); rintro e W1 ⟨rfl, g⟩)
      first | exact ⟨rfl, g⟩ | exact ⟨_, rfl, rfl, g, fun h => by simp at h⟩ | exact ⟨_, rfl, rfl, g⟩ | exact ⟨rfl, g, fun h => by simp at h⟩
    · intro u W hb hd
      have e0 : u 1 = .bool true := hd.1 rfl (by decide)
      have e1 : u 3 = .bool true := hd.2.1 rfl (by decide)
      simp only [putAll, Act.put, List.setIfInBounds_toArray, List.set_cons_succ, List.set_cons_zero, Nat.zero_add, Nat.reduceAdd]
      rw [e0, e1]
      go_wp2
      first | exact ⟨rfl, Below.refl _ _⟩ | exact ⟨_, rfl, rfl, Below.refl _ _, fun h => by simp at h⟩ | exact ⟨_, rfl, rfl, Below.refl _ _⟩ | exact ⟨rfl, Below.refl _ _, fun h => by simp at h⟩
    · intro u W hb hd
      have e0 : u 4 = .bool false := hd.1 rfl (by decide)
      simp only [putAll, Act.put, List.setIfInBounds_toArray, List.set_cons_succ, List.set_cons_zero, Nat.zero_add, Nat.reduceAdd]
      rw [e0]
      go_wp2
      first | exact ⟨rfl, Below.refl _ _⟩ | exact ⟨_, rfl, rfl, Below.refl _ _, fun h => by simp at h⟩ | exact ⟨_, rfl, rfl, Below.refl _ _⟩ | exact ⟨rfl, Below.refl _ _, fun h => by simp at h⟩
    · intro u W hb hd
      have e0 : u 5 = .bool false := hd.1 rfl (by decide)
      simp only [putAll, Act.put, List.setIfInBounds_toArray, List.set_cons_succ, List.set_cons_zero, Nat.zero_add, Nat.reduceAdd]
      rw [e0]
      go_wp2
      first | exact ⟨rfl, Below.refl _ _⟩ | exact ⟨_, rfl, rfl, Below.refl _ _, fun h => by simp at h⟩ | exact ⟨_, rfl, rfl, Below.refl _ _⟩ | exact ⟨rfl, Below.refl _ _, fun h => by simp at h⟩
    · intro u W hb hd
      have e0 : u 5 = .bool false := hd.1 rfl (by decide)
      have c0 := (HX.out W hb).c0
      have c1 := (HX.out W hb).c1
      have c2 := (HX.out W hb).c2
      have c3 := (HX.out W hb).c3
      have c4 := (HX.out W hb).c4
      simp only [putAll, Act.put, List.setIfInBounds_toArray, List.set_cons_succ, List.set_cons_zero, Nat.zero_add, Nat.reduceAdd]
      rw [e0]
      go_wp2
      first | exact ⟨rfl, Below.refl _ _⟩ | exact ⟨_, rfl, rfl, Below.refl _ _, fun h => by simp at h⟩ | exact ⟨_, rfl, rfl, Below.refl _ _⟩ | exact ⟨rfl, Below.refl _ _, fun h => by simp at h⟩
    · intro u W hb hd
      have e0 : u 7 = .agg #[.int .i64 k, .string s, .int .u64 (n : Int), .int .i64 a, .int .i64 b] := hd.1 rfl (by decide)
      have e2 : u 5 = .bool false := hd.2.2.1 rfl (by decide)
      simp only [putAll, Act.put, List.setIfInBounds_toArray, List.set_cons_succ, List.set_cons_zero, Nat.zero_add, Nat.reduceAdd]
      rw [e0, e2]
      go_wp2_with (go_at_call 12; (with_reducible refine (HPF.out _).mono ?_); rintro e W1 ⟨rfl, g⟩)
      first | exact ⟨rfl, g⟩ | exact ⟨_, rfl, rfl, g, fun h => by simp at h⟩ | exact ⟨_, rfl, rfl, g⟩ | exact ⟨rfl, g, fun h => by simp at h⟩
    · intro u W hb hd
      have e0 : u 6 = .string S := hd.1 rfl (by decide)
      have e1 : u 8 = .string S := hd.2.1 rfl (by decide)
      have e2 : u 5 = .bool false := hd.2.2.1 rfl (by decide)
      simp only [putAll, Act.put, List.setIfInBounds_toArray, List.set_cons_succ, List.set_cons_zero, Nat.zero_add, Nat.reduceAdd]
      rw [e0, e1, e2]
      go_wp2
      first | exact ⟨rfl, Below.refl _ _⟩ | exact ⟨_, rfl, rfl, Below.refl _ _, fun h => by simp at h⟩ | exact ⟨_, rfl, rfl, Below.refl _ _⟩ | exact ⟨rfl, Below.refl _ _, fun h => by simp at h⟩
    · intro u W hb hd
      have e0 : u 5 = .bool false := hd.1 rfl (by decide)
      have e1 : u 9 = .bool false := hd.2.1 rfl (by decide)
      simp only [putAll, Act.put, List.setIfInBounds_toArray, List.set_cons_succ, List.set_cons_zero, Nat.zero_add, Nat.reduceAdd]
      rw [e0, e1]
      go_wp2
      first | exact ⟨rfl, Below.refl _ _⟩ | exact ⟨_, rfl, rfl, Below.refl _ _, fun h => by simp at h⟩ | exact ⟨_, rfl, rfl, Below.refl _ _⟩ | exact ⟨rfl, Below.refl _ _, fun h => by simp at h⟩
  · intro u W hb hT _
    have e10 : u 10 = .bool false := hT 10 (by decide)
    have V3 := Lib.hid (HX.out W hb)
    have G3 : Hid (Below B w W) := Lib.hid (HB.out ▸ below_step (HB.out.symm ▸ G2.out) hb)
    have HE3 := Lib.hid (HE2.out.step hb)
    simp only [List.take_succ_cons, List.take_zero, List.drop_succ_cons, List.drop_zero, putAll, Act.put, List.setIfInBounds_toArray, List.set_cons_succ, List.set_cons_zero, Nat.zero_add, Nat.reduceAdd]
    rw [e10]
    clear hb hT e10
    go_wp2_with (first | (go_at_call 6; (with_reducible refine (HTK.out _ HE3.out).mono ?_); rintro e w4 ⟨v4, rfl, r4, g4⟩; have G4 : Hid (Below B w w4) := Lib.hid (HB.out ▸ below_step (HB.out.symm ▸ G3.out) g4); obtain ⟨g, cap, rfl, hg0, hg1, hgc⟩ := r4.form (by decide); have t0 : w4.cell? ⟨g, 0, none⟩ = some (.int .i64 k) := (r4.at 0 0 (by decide) (by decide)).trans HC0.out; have t1 : w4.cell? ⟨g, 1, none⟩ = some (.string s) := (r4.at 0 1 (by decide) (by decide)).trans HC1.out; have t2 : w4.cell? ⟨g, 2, none⟩ = some (.int .u64 (n : Int)) := (r4.at 0 2 (by decide) (by decide)).trans HC2.out; have t3 : w4.cell? ⟨g, 3, none⟩ = some (.int .i64 1) := (r4.at 0 3 (by decide) (by decide)).trans HC3.out; have t4 : w4.cell? ⟨g, 4, none⟩ = some (.int .i64 1) := (r4.at 0 4 (by decide) (by decide)).trans HC4.out; have TT : Hid (∀ W, Below w4.heap.size w4 W → W.cell? ⟨g, 0, none⟩ = some (.int .i64 k) ∧ W.cell? ⟨g, 1, none⟩ = some (.string s) ∧ W.cell? ⟨g, 2, none⟩ = some (.int .u64 (n : Int)) ∧ W.cell? ⟨g, 3, none⟩ = some (.int .i64 1) ∧ W.cell? ⟨g, 4, none⟩ = some (.int .i64 1)) := Lib.hid (fun W h => ⟨(h.cell (p := ⟨g, 0, none⟩) hg1).trans t0, (h.cell (p := ⟨g, 1, none⟩) hg1).trans t1, (h.cell (p := ⟨g, 2, none⟩) hg1).trans t2, (h.cell (p := ⟨g, 3, none⟩) hg1).trans t3, (h.cell (p := ⟨g, 4, none⟩) hg1).trans t4⟩); have HGG := Lib.hid hg0; have HG1 := Lib.hid hg1; clear t0 t1 t2 t3 t4 hg0 hg1 hgc; obtain ⟨f4, U5, U6, fm4⟩ := fault_made w4 0 0 0; have hf4 := fm4.g0; have ha4 := fm4.a2; have hs4 := fm4.s3; have p0 := fm4.v2.c0; have p1 := fm4.v2.c1; have p2 := fm4.v2.c2; have q0 := fm4.v2.q0; have q1 := fm4.v2.q1; have q2 := fm4.v2.q2; have F6 := Lib.hid fm4.v3; have V6 := Lib.hid (V3.out.after (below_step g4 fm4.bel)); have G6 : Hid (Below B w U6) := Lib.hid (HB.out ▸ below_step (HB.out.symm ▸ G4.out) fm4.bel); have FB := Lib.hid fm4.bel; have HFN : Hid (¬ B = f4) := Lib.hid (by rw [← hf4]; exact Nat.ne_of_lt (V3.out.after g4).s); have m0 := V6.out.c0; have m1 := V6.out.c1; have m2 := V6.out.c2; have m3 := V6.out.c3; have m4 := V6.out.c4; clear r4 g4 fm4) | (go_at_call 11; (with_reducible refine (HRF.out _).mono ?_); rintro e w7 ⟨rfl, g7⟩; clear hf4 ha4 hs4 p0 p1 p2 q0 q1 q2 m0 m1 m2 m3 m4; have G7 : Hid (Below B w w7) := Lib.hid (HB.out ▸ below_step (HB.out.symm ▸ G6.out) g7); have V7 := Lib.hid (V6.out.after g7); have F7 := Lib.hid (F6.out.after g7); have FB7 := Lib.hid (below_step FB.out g7); have hgn1 : ¬ B = g := (by have := V3.out.s; have := HGG.out; omega); have hgn2 : ¬ g = B := (fun e => hgn1 e.symm); have hfn1 : ¬ B = f4 := HFN.out; have hfn2 : ¬ f4 = B := (fun e => hfn1 e.symm); obtain ⟨W8, hW8⟩ : ∃ W, (w7.setCell ⟨B, 3, none⟩ (.int .i64 1)).setCell ⟨B, 4, none⟩ (.int .i64 1) = W := ⟨_, rfl⟩; have V8 : Hid (Var5 W8 B (.int .i64 k) (.string s) (.int .u64 (n : Int)) (.int .i64 1) (.int .i64 1)) := Lib.hid (by rw [← hW8]; exact V7.out.put34 _ _); have F8 : Hid (Var3 W8 f4 (.int .i64 0) (.int .i64 0) (.int .i64 0)) := Lib.hid (by rw [← hW8]; exact F7.out.hold (by rw [sset_else _ _ _ _ _ hfn2, sset_else _ _ _ _ _ hfn2]) (by simp)); have eg8 : W8.heap[g]? = w7.heap[g]? := (by rw [← hW8, sset_else _ _ _ _ _ hgn2, sset_else _ _ _ _ _ hgn2]); have G8 : Hid (Below B w W8) := Lib.hid (by rw [← hW8]; exact (G7.out.setCell (Nat.le_refl B) _).setCell (Nat.le_refl B) _); obtain ⟨t0, t1, t2, t3, t4⟩ := TT.out w7 FB7.out; have u0 := (World.cell?_of_block (a := ⟨g, 0, none⟩) eg8).trans t0; have u1 := (World.cell?_of_block (a := ⟨g, 1, none⟩) eg8).trans t1; have u2 := (World.cell?_of_block (a := ⟨g, 2, none⟩) eg8).trans t2; have u3 := (World.cell?_of_block (a := ⟨g, 3, none⟩) eg8).trans t3; have u4 := (World.cell?_of_block (a := ⟨g, 4, none⟩) eg8).trans t4; have s0 := V8.out.c0; have s1 := V8.out.c1; have s2 := V8.out.c2; have s3 := V8.out.c3; have s4 := V8.out.c4; have x0 := F8.out.c0; have x1 := F8.out.c1; have x2 := F8.out.c2; clear t0 t1 t2 t3 t4 eg8; have k0 := V7.out.c0; have k1 := V7.out.c1; have k2 := V7.out.c2; have k3 := V7.out.c3; have k4 := V7.out.c4; have kq := V7.out.q; have j0 := F7.out.c0; have j1 := F7.out.c1; have j2 := F7.out.c2; clear g7))
    rw [show (toksV [] [(tk0, 0)]).length = 1 from rfl]
    clear hkz hW8 k0 k1 k2 k3 k4 kq j0 j1 j2 hgn1 hgn2 hfn1 hfn2
    go_quiet (fail)
    go_wp2
    go_ret
    exact ⟨rfl, HB.out ▸ Go.below_drewN G8.out _⟩
/-- The end's token in a variable of its own. -/
structure EndMade (w : World) (g : Nat) (X : Int) (W2 W3 : World) : Prop where
  g0 : w.heap.size = g
  a2 : w.alloc (.cells #[.int .i64 0, .string ⟨#[]⟩, .int .u64 0, .int .i64 0, .int .i64 0] 35) = W2
  s3 : (((((W2.setCell ⟨g, 0, none⟩ (.int .i64 0)).setCell ⟨g, 1, none⟩ (.string ⟨#[]⟩)).setCell ⟨g, 2, none⟩ (.int .u64 0)).setCell ⟨g, 3, none⟩ (.int .i64 1)).setCell ⟨g, 4, none⟩ (.int .i64 X)) = W3
  v2 : Var5 W2 g (.int .i64 0) (.string ⟨#[]⟩) (.int .u64 0) (.int .i64 0) (.int .i64 0)
  v3 : Var5 W3 g (.int .i64 0) (.string ⟨#[]⟩) (.int .u64 0) (.int .i64 1) (.int .i64 X)
  bel : Below w.heap.size w W3
theorem end_made (w : World) (X : Int) : ∃ g W2 W3, EndMade w g X W2 W3 := by
  obtain ⟨g, hg⟩ : ∃ g, w.heap.size = g := ⟨_, rfl⟩
  obtain ⟨W2, hW2⟩ : ∃ W, w.alloc (.cells #[.int .i64 0, .string ⟨#[]⟩, .int .u64 0, .int .i64 0, .int .i64 0] 35) = W := ⟨_, rfl⟩
  have b2 : Below w.heap.size w W2 := by rw [← hW2]; exact (Below.refl _ _).alloc (Nat.le_refl _) _
  have V2 : Var5 W2 g (.int .i64 0) (.string ⟨#[]⟩) (.int .u64 0) (.int .i64 0) (.int .i64 0) := by rw [← hW2]; exact Var5.fresh _ _ _ _ _ _ _ _ hg.symm
  exact ⟨g, W2, _, hg, hW2, rfl, V2, V2.put _ _ _ _ _, below_put5 b2 (by omega) _ _ _ _ _⟩
set_option maxRecDepth 100000 in
set_option maxHeartbeats 16000000 in
theorem scnp_yes (k : Int) (s : ByteArray) (n : Nat) (a b : Int) (w : World) (env : EnvQ w) (hm : s.size ≤ 2000) (hn : n ≤ 18446744073709551615) (hr : RightT k s (n : Int)) (h0 : k ≠ 0) :
    Calls Tryz.prog 4 #[.agg #[.int .i64 k, .string s, .int .u64 (n : Int), .int .i64 a, .int .i64 b]] w fun e w' => e = .returned (.bool true) ∧ Below w.heap.size w w' := by
  obtain ⟨B, hB⟩ : ∃ B, w.heap.size = B := ⟨_, rfl⟩
  obtain ⟨W0, hW0⟩ : ∃ W, w.alloc (.cells #[.int .i64 k, .string s, .int .u64 (n : Int), .int .i64 a, .int .i64 b] 35) = W := ⟨_, rfl⟩
  have V0 : Var5 W0 B (.int .i64 k) (.string s) (.int .u64 (n : Int)) (.int .i64 a) (.int .i64 b) := by rw [← hW0]; exact Var5.fresh _ _ _ _ _ _ _ _ hB.symm
  have g0 : Below w.heap.size w W0 := by rw [← hW0]; exact (Below.refl _ _).alloc (Nat.le_refl _) _
  have HE0 := Lib.hid (env.step g0)
  have HA := Lib.hid (scn_awake W0 HE0.out.lo)
  have HG : Hid (Below B w W0) := Lib.hid (by rw [← hB]; exact g0)
  have HB := Lib.hid hB
  have HV := Lib.hid V0
  have c0 := V0.c0; have c1 := V0.c1; have c2 := V0.c2; have c3 := V0.c3; have c4 := V0.c4
  have hsz : ¬ (2000 : Int) < (s.size : Int) := by omega
  have HPR := Lib.hid (fun W (e : EnvQ W) => ptok_any k s n a b W e (by omega) hn hr)
  have HPF : Hid (∀ W, Calls Tryz.prog 12 #[.agg #[.int .i64 k, .string s, .int .u64 (n : Int), .int .i64 a, .int .i64 b]] W fun e w' => e = .returned (.string (strOfNums (prT k s n))) ∧ Below W.heap.size W w') := Lib.hid (fun W => by
    by_cases h4 : k = 4
    · have hr2 := hr
      subst h4
      have hse : s = ⟨#[]⟩ := by unfold RightT at hr2; simp at hr2; exact hr2
      subst hse
      exact sprint_fac n a b W hn hr
    · exact sprint_most k s n a b W (by omega) hn h4 hr)
  have HRR : Hid (∀ W, Env W → Calls Tryz.prog 10 #[.agg #[.int .i64 k, .string s, .int .u64 (n : Int), .int .i64 a, .int .i64 b]] W fun e w' => e = .returned (.bool true) ∧ Below W.heap.size W w') := Lib.hid (fun W e => (pright_any k s n a b W e (by omega)).mono (by
    rintro e w' ⟨q, rfl, hq, h⟩
    rw [hq.mpr hr]
    exact ⟨rfl, h⟩))
  have HRF : Hid (∀ W, Calls Tryz.prog 11 #[.agg #[.int .i64 k, .string s, .int .u64 (n : Int), .int .i64 a, .int .i64 b]] W fun e w' => e = .returned (.bool true) ∧ Below W.heap.size W w') := Lib.hid (fun W => (sright_any k s n a b W (by omega)).mono (by
    rintro e w' ⟨q, rfl, hq, h⟩
    rw [hq.mpr hr]
    exact ⟨rfl, h⟩))
  obtain ⟨S, hS⟩ : ∃ S : ByteArray, strOfNums (prT k s n) = S := ⟨_, rfl⟩
  have hnS : nums S = prT k s n := by rw [← hS]; exact nums_strOfNums _ (print_byte hr)
  have hSz : S.size ≤ 2000 := by rw [← nums_length, hnS]; exact print_short hr hn hm
  have hTB := text_back hr
  obtain ⟨l, hl⟩ : ∃ l, runesOf (prT k s n) = l := ⟨_, rfl⟩
  have hpt := print_toks hr hn h0
  have hpl := print_line hr
  rw [hl] at hpt hpl
  have hsf := spot_flat hpl l.length (Nat.le_refl _)
  have hki := kind_in hr
  have hkn : ((k.toNat : Nat) : Int) = k := by omega
  obtain ⟨LL, hLL⟩ : ∃ L, ([((⟨k.toNat, txT k s, n⟩ : TkV), 0), (tk0, l.length)] : List (TkV × Nat)) = L := ⟨_, rfl⟩
  have HTK : Hid (∀ W, Env W → Calls Tryz.prog 6 #[.string S] W (fun e w' => ∃ v, e = .returned (.tuple #[v, .agg #[.int .i64 0, .int .i64 0, .int .i64 0]]) ∧ RowK 35 5 w' W.heap.size v (toksV l LL) ∧ Below W.heap.size W w')) := Lib.hid (fun W e => by
    have h := (ptoks_any S W e (by omega)).mono (fun e w' h => h.out)
    rw [hnS, hl, hpt, hLL] at h
    exact h)
  have HRU : Hid (∀ W, Calls Tryz.prog 13 #[.string S] W (fun e w' => ∃ v, e = .returned v ∧ Ints .i32 w' v l ∧ Below W.heap.size W w' ∧ True)) := Lib.hid (fun W => (rrunes_any S W (by omega)).mono (by
    rintro e w' ⟨v, rfl, hi, hb, _⟩
    rw [hnS, hl] at hi
    exact ⟨v, rfl, hi, hb, trivial⟩))
  rw [hS] at HPR HPF
  have hLn : l.length ≤ 2000 := by have := runes_le (prT k s n); rw [hl] at this; have := print_short hr hn hm; omega
  obtain ⟨N, hN⟩ : ∃ N, l.length = N := ⟨_, rfl⟩
  have hwN : IntKind.i64.wrap (1 + (N : Int)) = 1 + (N : Int) := by rw [IntKind.wrap_i64]; omega
  rw [hN] at hsf
  have HLN := Lib.hid hN
  have HLL : Hid ((toksV l LL).length = 2) := Lib.hid (by rw [toksV_len, ← hLL]; rfl)
  have HD : Hid (1 < (toksV l LL).length) := Lib.hid (by rw [HLL.out]; decide)
  have e0 : (toksV l LL).getD 0 [] = tkC l ((⟨k.toNat, txT k s, n⟩ : TkV), 0) := by rw [← hLL]; rfl
  have e1 : (toksV l LL).getD 1 [] = tkC l (tk0, l.length) := by rw [← hLL]; rfl
  have HC0 : Hid (some (((toksV l LL).getD 0 []).getD 0 undef) = some (.int .i64 k)) := Lib.hid (by rw [e0]; show some (Value.int .i64 ((k.toNat : Nat) : Int)) = _; rw [hkn])
  have HC1 : Hid (some (((toksV l LL).getD 0 []).getD 1 undef) = some (.string s)) := Lib.hid (by rw [e0]; show some (Value.string (strOfNums (txT k s))) = _; rw [hTB])
  have HC2 : Hid (some (((toksV l LL).getD 0 []).getD 2 undef) = some (.int .u64 (n : Int))) := Lib.hid (by rw [e0]; rfl)
  have HC3 : Hid (some (((toksV l LL).getD 0 []).getD 3 undef) = some (.int .i64 1)) := Lib.hid (by rw [e0]; rfl)
  have HC4 : Hid (some (((toksV l LL).getD 0 []).getD 4 undef) = some (.int .i64 1)) := Lib.hid (by rw [e0]; rfl)
  have HC5 : Hid (some (((toksV l LL).getD 1 []).getD 0 undef) = some (.int .i64 0)) := Lib.hid (by rw [e1]; rfl)
  have HC6 : Hid (some (((toksV l LL).getD 1 []).getD 1 undef) = some (.string ⟨#[]⟩)) := Lib.hid (by rw [e1]; rfl)
  have HC7 : Hid (some (((toksV l LL).getD 1 []).getD 2 undef) = some (.int .u64 0)) := Lib.hid (by rw [e1]; rfl)
  have HC8 : Hid (some (((toksV l LL).getD 1 []).getD 3 undef) = some (.int .i64 1)) := Lib.hid (by rw [e1]; show some (Value.int .i64 (spotAt l l.length).1) = _; rw [hN, hsf])
  have HC9 : Hid (some (((toksV l LL).getD 1 []).getD 4 undef) = some (.int .i64 (1 + (N : Int)))) := Lib.hid (by rw [e1]; show some (Value.int .i64 (spotAt l l.length).2) = _; rw [hN, hsf])
  have hkz : (k == 0) = false := by simpa using h0
  clear V0 g0 env hr hS hm hnS hSz hTB h0 hn hpt hpl hsf hki hkn hLn hl hLL hN e0 e1
  go_enter Tryz.func4, Tryz.ntmps4
  go_wp2_with (first | (go_at_call 5; (with_reducible refine (HA.out).mono ?_); rintro e w1 ⟨rfl, g1⟩; have V1 := Lib.hid (HV.out.after g1); have G1 : Hid (Below B w w1) := Lib.hid (HB.out ▸ below_step (HB.out.symm ▸ HG.out) g1); have HE1 := Lib.hid (HE0.out.step g1); have d0 := V1.out.c0; have d1 := V1.out.c1; have d2 := V1.out.c2; have d3 := V1.out.c3; have d4 := V1.out.c4; clear g1) | (go_at_call 9; (with_reducible refine (HPR.out _ HE1.out).mono ?_); rintro e w2 ⟨rfl, g2⟩; have V2 := Lib.hid (V1.out.after g2); have G2 : Hid (Below B w w2) := Lib.hid (HB.out ▸ below_step (HB.out.symm ▸ G1.out) g2); have HE2 := Lib.hid (HE1.out.lo.step g2); clear g2))
  have HX := Lib.hid (show ∀ W, Below w2.heap.size w2 W → Var5 W B (.int .i64 k) (.string s) (.int .u64 (n : Int)) (.int .i64 a) (.int .i64 b) from fun W h => V2.out.after h)
  clear c0 c1 c2 c3 c4 d0 d1 d2 d3 d4
  refine wp_region_mix 11 (LPs k s n a b true S) (fun _ => false) (by kernel_rfl) (by kernel_rfl) LPs.keep (fun _ _ _ h => by cases h) ?_ ?_
  · simp only [List.take_succ_cons, List.take_zero]
    refine (StepsAll.cons ?_ (StepsAll.cons ?_ (StepsAll.cons ?_ (StepsAll.cons ?_ (StepsAll.cons ?_ (StepsAll.cons ?_ (StepsAll.cons ?_ (StepsAll.cons ?_ (StepsAll.cons ?_ (StepsAll.cons ?_ (StepsAll.cons ?_ StepsAll.nil)))))))))))
    · intro u W hb hd
      have c0 := (HX.out W hb).c0
      have c1 := (HX.out W hb).c1
      have c2 := (HX.out W hb).c2
      have c3 := (HX.out W hb).c3
      have c4 := (HX.out W hb).c4
      simp only [putAll, Act.put, List.setIfInBounds_toArray, List.set_cons_succ, List.set_cons_zero, Nat.zero_add, Nat.reduceAdd]
      go_wp2
      first | exact ⟨rfl, Below.refl _ _⟩ | exact ⟨_, rfl, rfl, Below.refl _ _, fun h => by simp at h⟩ | exact ⟨_, rfl, rfl, Below.refl _ _⟩ | exact ⟨rfl, Below.refl _ _, fun h => by simp at h⟩
    · intro u W hb hd
      have e0 : u 0 = .agg #[.int .i64 k, .string s, .int .u64 (n : Int), .int .i64 a, .int .i64 b] := hd.1 rfl (by decide)
      simp only [putAll, Act.put, List.setIfInBounds_toArray, List.set_cons_succ, List.set_cons_zero, Nat.zero_add, Nat.reduceAdd]
      rw [e0]
      go_wp2_with (go_at_call 10; (with_reducible refine (HRR.out _ (HE2.out.step hb)).mono ?_); rintro e W1 ⟨rfl, g⟩)
      first | exact ⟨rfl, g⟩ | exact ⟨_, rfl, rfl, g, fun h => by simp at h⟩ | exact ⟨_, rfl, rfl, g⟩ | exact ⟨rfl, g, fun h => by simp at h⟩
    · intro u W hb hd
      have c0 := (HX.out W hb).c0
      have c1 := (HX.out W hb).c1
      have c2 := (HX.out W hb).c2
      have c3 := (HX.out W hb).c3
      have c4 := (HX.out W hb).c4
      simp only [putAll, Act.put, List.setIfInBounds_toArray, List.set_cons_succ, List.set_cons_zero, Nat.zero_add, Nat.reduceAdd]
      go_wp2
      first | exact ⟨rfl, Below.refl _ _⟩ | exact ⟨_, rfl, rfl, Below.refl _ _, fun h => by simp at h⟩ | exact ⟨_, rfl, rfl, Below.refl _ _⟩ | exact ⟨rfl, Below.refl _ _, fun h => by simp at h⟩
    · intro u W hb hd
      have e0 : u 2 = .agg #[.int .i64 k, .string s, .int .u64 (n : Int), .int .i64 a, .int .i64 b] := hd.1 rfl (by decide)
      simp only [putAll, Act.put, List.setIfInBounds_toArray, List.set_cons_succ, List.set_cons_zero, Nat.zero_add, Nat.reduceAdd]
      rw [e0]
      go_wp2_with (go_at_call 11; (with_reducible refine (HRF.out _).mono ?_); rintro e W1 ⟨rfl, g⟩)
      first | exact ⟨rfl, g⟩ | exact ⟨_, rfl, rfl, g, fun h => by simp at h⟩ | exact ⟨_, rfl, rfl, g⟩ | exact ⟨rfl, g, fun h => by simp at h⟩
    · intro u W hb hd
      have e0 : u 1 = .bool true := hd.1 rfl (by decide)
      have e1 : u 3 = .bool true := hd.2.1 rfl (by decide)
      simp only [putAll, Act.put, List.setIfInBounds_toArray, List.set_cons_succ, List.set_cons_zero, Nat.zero_add, Nat.reduceAdd]
      rw [e0, e1]
      go_wp2
      first | exact ⟨rfl, Below.refl _ _⟩ | exact ⟨_, rfl, rfl, Below.refl _ _, fun h => by simp at h⟩ | exact ⟨_, rfl, rfl, Below.refl _ _⟩ | exact ⟨rfl, Below.refl _ _, fun h => by simp at h⟩
    · intro u W hb hd
      have e0 : u 4 = .bool false := hd.1 rfl (by decide)
      simp only [putAll, Act.put, List.setIfInBounds_toArray, List.set_cons_succ, List.set_cons_zero, Nat.zero_add, Nat.reduceAdd]
      rw [e0]
      go_wp2
      first | exact ⟨rfl, Below.refl _ _⟩ | exact ⟨_, rfl, rfl, Below.refl _ _, fun h => by simp at h⟩ | exact ⟨_, rfl, rfl, Below.refl _ _⟩ | exact ⟨rfl, Below.refl _ _, fun h => by simp at h⟩
    · intro u W hb hd
      have e0 : u 5 = .bool false := hd.1 rfl (by decide)
      simp only [putAll, Act.put, List.setIfInBounds_toArray, List.set_cons_succ, List.set_cons_zero, Nat.zero_add, Nat.reduceAdd]
      rw [e0]
      go_wp2
      first | exact ⟨rfl, Below.refl _ _⟩ | exact ⟨_, rfl, rfl, Below.refl _ _, fun h => by simp at h⟩ | exact ⟨_, rfl, rfl, Below.refl _ _⟩ | exact ⟨rfl, Below.refl _ _, fun h => by simp at h⟩
    · intro u W hb hd
      have e0 : u 5 = .bool false := hd.1 rfl (by decide)
      have c0 := (HX.out W hb).c0
      have c1 := (HX.out W hb).c1
      have c2 := (HX.out W hb).c2
      have c3 := (HX.out W hb).c3
      have c4 := (HX.out W hb).c4
      simp only [putAll, Act.put, List.setIfInBounds_toArray, List.set_cons_succ, List.set_cons_zero, Nat.zero_add, Nat.reduceAdd]
      rw [e0]
      go_wp2
      first | exact ⟨rfl, Below.refl _ _⟩ | exact ⟨_, rfl, rfl, Below.refl _ _, fun h => by simp at h⟩ | exact ⟨_, rfl, rfl, Below.refl _ _⟩ | exact ⟨rfl, Below.refl _ _, fun h => by simp at h⟩
    · intro u W hb hd
      have e0 : u 7 = .agg #[.int .i64 k, .string s, .int .u64 (n : Int), .int .i64 a, .int .i64 b] := hd.1 rfl (by decide)
      have e2 : u 5 = .bool false := hd.2.2.1 rfl (by decide)
      simp only [putAll, Act.put, List.setIfInBounds_toArray, List.set_cons_succ, List.set_cons_zero, Nat.zero_add, Nat.reduceAdd]
      rw [e0, e2]
      go_wp2_with (go_at_call 12; (with_reducible refine (HPF.out _).mono ?_); rintro e W1 ⟨rfl, g⟩)
      first | exact ⟨rfl, g⟩ | exact ⟨_, rfl, rfl, g, fun h => by simp at h⟩ | exact ⟨_, rfl, rfl, g⟩ | exact ⟨rfl, g, fun h => by simp at h⟩
    · intro u W hb hd
      have e0 : u 6 = .string S := hd.1 rfl (by decide)
      have e1 : u 8 = .string S := hd.2.1 rfl (by decide)
      have e2 : u 5 = .bool false := hd.2.2.1 rfl (by decide)
      simp only [putAll, Act.put, List.setIfInBounds_toArray, List.set_cons_succ, List.set_cons_zero, Nat.zero_add, Nat.reduceAdd]
      rw [e0, e1, e2]
      go_wp2
      first | exact ⟨rfl, Below.refl _ _⟩ | exact ⟨_, rfl, rfl, Below.refl _ _, fun h => by simp at h⟩ | exact ⟨_, rfl, rfl, Below.refl _ _⟩ | exact ⟨rfl, Below.refl _ _, fun h => by simp at h⟩
    · intro u W hb hd
      have e0 : u 5 = .bool false := hd.1 rfl (by decide)
      have e1 : u 9 = .bool false := hd.2.1 rfl (by decide)
      simp only [putAll, Act.put, List.setIfInBounds_toArray, List.set_cons_succ, List.set_cons_zero, Nat.zero_add, Nat.reduceAdd]
      rw [e0, e1]
      go_wp2
      first | exact ⟨rfl, Below.refl _ _⟩ | exact ⟨_, rfl, rfl, Below.refl _ _, fun h => by simp at h⟩ | exact ⟨_, rfl, rfl, Below.refl _ _⟩ | exact ⟨rfl, Below.refl _ _, fun h => by simp at h⟩
  · intro u W hb hT _
    have e10 : u 10 = .bool false := hT 10 (by decide)
    have V3 := Lib.hid (HX.out W hb)
    have G3 : Hid (Below B w W) := Lib.hid (HB.out ▸ below_step (HB.out.symm ▸ G2.out) hb)
    have HE3 := Lib.hid (HE2.out.step hb)
    simp only [List.take_succ_cons, List.take_zero, List.drop_succ_cons, List.drop_zero, putAll, Act.put, List.setIfInBounds_toArray, List.set_cons_succ, List.set_cons_zero, Nat.zero_add, Nat.reduceAdd]
    rw [e10]
    clear hb hT e10
    go_wp2_with (first | (go_at_call 6; (with_reducible refine (HTK.out _ HE3.out).mono ?_); rintro e w4 ⟨v4, rfl, r4, g4⟩; have G4 : Hid (Below B w w4) := Lib.hid (HB.out ▸ below_step (HB.out.symm ▸ G3.out) g4); obtain ⟨g, cap, rfl, hg0, hg1, hgc⟩ := r4.form (by rw [HLL.out]; decide); have t0 : w4.cell? ⟨g, 0, none⟩ = some (.int .i64 k) := (r4.at 0 0 (by rw [HLL.out]; decide) (by decide)).trans HC0.out; have t1 : w4.cell? ⟨g, 1, none⟩ = some (.string s) := (r4.at 0 1 (by rw [HLL.out]; decide) (by decide)).trans HC1.out; have t2 : w4.cell? ⟨g, 2, none⟩ = some (.int .u64 (n : Int)) := (r4.at 0 2 (by rw [HLL.out]; decide) (by decide)).trans HC2.out; have t3 : w4.cell? ⟨g, 3, none⟩ = some (.int .i64 1) := (r4.at 0 3 (by rw [HLL.out]; decide) (by decide)).trans HC3.out; have t4 : w4.cell? ⟨g, 4, none⟩ = some (.int .i64 1) := (r4.at 0 4 (by rw [HLL.out]; decide) (by decide)).trans HC4.out; have t5 : w4.cell? ⟨g, 5, none⟩ = some (.int .i64 0) := (r4.at 1 0 (by rw [HLL.out]; decide) (by decide)).trans HC5.out; have t6 : w4.cell? ⟨g, 6, none⟩ = some (.string ⟨#[]⟩) := (r4.at 1 1 (by rw [HLL.out]; decide) (by decide)).trans HC6.out; have t7 : w4.cell? ⟨g, 7, none⟩ = some (.int .u64 0) := (r4.at 1 2 (by rw [HLL.out]; decide) (by decide)).trans HC7.out; have t8 : w4.cell? ⟨g, 8, none⟩ = some (.int .i64 1) := (r4.at 1 3 (by rw [HLL.out]; decide) (by decide)).trans HC8.out; have t9 : w4.cell? ⟨g, 9, none⟩ = some (.int .i64 (1 + (N : Int))) := (r4.at 1 4 (by rw [HLL.out]; decide) (by decide)).trans HC9.out; have TT : Hid (∀ W, Below w4.heap.size w4 W → W.cell? ⟨g, 0, none⟩ = some (.int .i64 k) ∧ W.cell? ⟨g, 1, none⟩ = some (.string s) ∧ W.cell? ⟨g, 2, none⟩ = some (.int .u64 (n : Int)) ∧ W.cell? ⟨g, 3, none⟩ = some (.int .i64 1) ∧ W.cell? ⟨g, 4, none⟩ = some (.int .i64 1) ∧ W.cell? ⟨g, 5, none⟩ = some (.int .i64 0) ∧ W.cell? ⟨g, 6, none⟩ = some (.string ⟨#[]⟩) ∧ W.cell? ⟨g, 7, none⟩ = some (.int .u64 0) ∧ W.cell? ⟨g, 8, none⟩ = some (.int .i64 1) ∧ W.cell? ⟨g, 9, none⟩ = some (.int .i64 (1 + (N : Int)))) := Lib.hid (fun W h => ⟨(h.cell (p := ⟨g, 0, none⟩) hg1).trans t0, (h.cell (p := ⟨g, 1, none⟩) hg1).trans t1, (h.cell (p := ⟨g, 2, none⟩) hg1).trans t2, (h.cell (p := ⟨g, 3, none⟩) hg1).trans t3, (h.cell (p := ⟨g, 4, none⟩) hg1).trans t4, (h.cell (p := ⟨g, 5, none⟩) hg1).trans t5, (h.cell (p := ⟨g, 6, none⟩) hg1).trans t6, (h.cell (p := ⟨g, 7, none⟩) hg1).trans t7, (h.cell (p := ⟨g, 8, none⟩) hg1).trans t8, (h.cell (p := ⟨g, 9, none⟩) hg1).trans t9⟩); have HGG := Lib.hid hg0; have HG1 := Lib.hid hg1; clear t0 t1 t2 t3 t4 t5 t6 t7 t8 t9 hg0 hg1 hgc; obtain ⟨f4, U5, U6, fm4⟩ := fault_made w4 0 0 0; have hf4 := fm4.g0; have ha4 := fm4.a2; have hs4 := fm4.s3; have p0 := fm4.v2.c0; have p1 := fm4.v2.c1; have p2 := fm4.v2.c2; have q0 := fm4.v2.q0; have q1 := fm4.v2.q1; have q2 := fm4.v2.q2; have F6 := Lib.hid fm4.v3; have V6 := Lib.hid (V3.out.after (below_step g4 fm4.bel)); have G6 : Hid (Below B w U6) := Lib.hid (HB.out ▸ below_step (HB.out.symm ▸ G4.out) fm4.bel); have FB := Lib.hid fm4.bel; have HFN : Hid (¬ B = f4) := Lib.hid (by rw [← hf4]; exact Nat.ne_of_lt (V3.out.after g4).s); have m0 := V6.out.c0; have m1 := V6.out.c1; have m2 := V6.out.c2; have m3 := V6.out.c3; have m4 := V6.out.c4; clear r4 g4 fm4) | (go_at_call 11; (with_reducible refine (HRF.out _).mono ?_); rintro e w7 ⟨rfl, g7⟩; clear hf4 ha4 hs4 p0 p1 p2 q0 q1 q2 m0 m1 m2 m3 m4; have G7 : Hid (Below B w w7) := Lib.hid (HB.out ▸ below_step (HB.out.symm ▸ G6.out) g7); have V7 := Lib.hid (V6.out.after g7); have F7 := Lib.hid (F6.out.after g7); have FB7 := Lib.hid (below_step FB.out g7); have hgn1 : ¬ B = g := (by have := V3.out.s; have := HGG.out; omega); have hgn2 : ¬ g = B := (fun e => hgn1 e.symm); have hfn1 : ¬ B = f4 := HFN.out; have hfn2 : ¬ f4 = B := (fun e => hfn1 e.symm); obtain ⟨W8, hW8⟩ : ∃ W, (w7.setCell ⟨B, 3, none⟩ (.int .i64 1)).setCell ⟨B, 4, none⟩ (.int .i64 1) = W := ⟨_, rfl⟩; have V8 : Hid (Var5 W8 B (.int .i64 k) (.string s) (.int .u64 (n : Int)) (.int .i64 1) (.int .i64 1)) := Lib.hid (by rw [← hW8]; exact V7.out.put34 _ _); have F8 : Hid (Var3 W8 f4 (.int .i64 0) (.int .i64 0) (.int .i64 0)) := Lib.hid (by rw [← hW8]; exact F7.out.hold (by rw [sset_else _ _ _ _ _ hfn2, sset_else _ _ _ _ _ hfn2]) (by simp)); have eg8 : W8.heap[g]? = w7.heap[g]? := (by rw [← hW8, sset_else _ _ _ _ _ hgn2, sset_else _ _ _ _ _ hgn2]); have G8 : Hid (Below B w W8) := Lib.hid (by rw [← hW8]; exact (G7.out.setCell (Nat.le_refl B) _).setCell (Nat.le_refl B) _); obtain ⟨t0, t1, t2, t3, t4, t5, t6, t7, t8, t9⟩ := TT.out w7 FB7.out; have u0 := (World.cell?_of_block (a := ⟨g, 0, none⟩) eg8).trans t0; have u1 := (World.cell?_of_block (a := ⟨g, 1, none⟩) eg8).trans t1; have u2 := (World.cell?_of_block (a := ⟨g, 2, none⟩) eg8).trans t2; have u3 := (World.cell?_of_block (a := ⟨g, 3, none⟩) eg8).trans t3; have u4 := (World.cell?_of_block (a := ⟨g, 4, none⟩) eg8).trans t4; have u5 := (World.cell?_of_block (a := ⟨g, 5, none⟩) eg8).trans t5; have u6 := (World.cell?_of_block (a := ⟨g, 6, none⟩) eg8).trans t6; have u7 := (World.cell?_of_block (a := ⟨g, 7, none⟩) eg8).trans t7; have u8 := (World.cell?_of_block (a := ⟨g, 8, none⟩) eg8).trans t8; have u9 := (World.cell?_of_block (a := ⟨g, 9, none⟩) eg8).trans t9; have HG8 : Hid (g < W8.heap.size) := Lib.hid (by rw [← hW8]; have := HG1.out; have := FB7.out.size; simp; omega); have s0 := V8.out.c0; have s1 := V8.out.c1; have s2 := V8.out.c2; have s3 := V8.out.c3; have s4 := V8.out.c4; have x0 := F8.out.c0; have x1 := F8.out.c1; have x2 := F8.out.c2; clear t0 t1 t2 t3 t4 t5 t6 t7 t8 t9 eg8; have k0 := V7.out.c0; have k1 := V7.out.c1; have k2 := V7.out.c2; have k3 := V7.out.c3; have k4 := V7.out.c4; have kq := V7.out.q; have j0 := F7.out.c0; have j1 := F7.out.c1; have j2 := F7.out.c2; clear g7) | (go_at_call 13; (with_reducible refine (HRU.out W8).mono ?_); rintro e w9 ⟨v9, rfl, i9, g9, _⟩; obtain ⟨bb, bo, bc, rfl, _, _, _⟩ := i9; rw [HLN.out]; obtain ⟨en, W10, W11, em⟩ := end_made w9 (1 + (N : Int)); have hen := em.g0; have ha10 := em.a2; have hs11 := em.s3; have y0 := em.v2.c0; have y1 := em.v2.c1; have y2 := em.v2.c2; have y3 := em.v2.c3; have y4 := em.v2.c4; have yq := em.v2.q; have B11 := below_step g9 em.bel; have G11 : Hid (Below B w W11) := Lib.hid (HB.out ▸ below_step (HB.out.symm ▸ G8.out) B11); have V11 := V8.out.after B11; have F11 := F8.out.after B11; have z0 := V11.c0; have z1 := V11.c1; have z2 := V11.c2; have z3 := V11.c3; have z4 := V11.c4; have l0 := F11.c0; have l1 := F11.c1; have l2 := F11.c2; have hg8 : g < W8.heap.size := HG8.out; have n0 := (B11.cell (p := ⟨g, 0, none⟩) hg8).trans u0; have n1 := (B11.cell (p := ⟨g, 1, none⟩) hg8).trans u1; have n2 := (B11.cell (p := ⟨g, 2, none⟩) hg8).trans u2; have n3 := (B11.cell (p := ⟨g, 3, none⟩) hg8).trans u3; have n4 := (B11.cell (p := ⟨g, 4, none⟩) hg8).trans u4; have n5 := (B11.cell (p := ⟨g, 5, none⟩) hg8).trans u5; have n6 := (B11.cell (p := ⟨g, 6, none⟩) hg8).trans u6; have n7 := (B11.cell (p := ⟨g, 7, none⟩) hg8).trans u7; have n8 := (B11.cell (p := ⟨g, 8, none⟩) hg8).trans u8; have n9 := (B11.cell (p := ⟨g, 9, none⟩) hg8).trans u9; have E11 := em.v3; have r0 := E11.c0; have r1 := E11.c1; have r2 := E11.c2; have r3 := E11.c3; have r4 := E11.c4; clear g9 B11 V11 F11 E11 em hg8 s0 s1 s2 s3 s4 x0 x1 x2 u0 u1 u2 u3 u4 u5 u6 u7 u8 u9))
    rw [HLL.out]
    clear hkz hW8 k0 k1 k2 k3 k4 kq j0 j1 j2 hgn1 hgn2 hfn1 hfn2 hen ha10 hs11 y0 y1 y2 y3 y4 yq hwN
    go_quiet (fail)
    go_wp2
    go_ret
    exact ⟨rfl, HB.out ▸ Go.below_drewN G11.out _⟩
set_option maxRecDepth 100000 in
set_option maxHeartbeats 4000000 in
theorem scnp_long (k : Int) (s : ByteArray) (n : Nat) (a b : Int) (w : World) (env : EnvQ w) (hm : 2000 < s.size) :
    Calls Tryz.prog 4 #[.agg #[.int .i64 k, .string s, .int .u64 (n : Int), .int .i64 a, .int .i64 b]] w fun e w' => e = .returned (.bool true) ∧ Below w.heap.size w w' := by
  obtain ⟨B, hB⟩ : ∃ B, w.heap.size = B := ⟨_, rfl⟩
  obtain ⟨W0, hW0⟩ : ∃ W, w.alloc (.cells #[.int .i64 k, .string s, .int .u64 (n : Int), .int .i64 a, .int .i64 b] 35) = W := ⟨_, rfl⟩
  have V0 : Var5 W0 B (.int .i64 k) (.string s) (.int .u64 (n : Int)) (.int .i64 a) (.int .i64 b) := by rw [← hW0]; exact Var5.fresh _ _ _ _ _ _ _ _ hB.symm
  have g0 : Below w.heap.size w W0 := by rw [← hW0]; exact (Below.refl _ _).alloc (Nat.le_refl _) _
  have HE0 := Lib.hid (env.step g0)
  have HA := Lib.hid (scn_awake W0 HE0.out.lo)
  have HG : Hid (Below B w W0) := Lib.hid (by rw [← hB]; exact g0)
  have HB := Lib.hid hB
  have HV := Lib.hid V0
  have c0 := V0.c0; have c1 := V0.c1; have c2 := V0.c2; have c3 := V0.c3; have c4 := V0.c4
  have hsz : (2000 : Int) < (s.size : Int) := by omega
  clear V0 g0 env hm
  go_enter Tryz.func4, Tryz.ntmps4
  go_wp2_with (go_at_call 5; (with_reducible refine (HA.out).mono ?_); rintro e w1 ⟨rfl, g1⟩; have V1 := Lib.hid (HV.out.after g1); have G1 : Hid (Below B w w1) := Lib.hid (HB.out ▸ below_step (HB.out.symm ▸ HG.out) g1); have HE1 := Lib.hid (HE0.out.step g1); have d0 := V1.out.c0; have d1 := V1.out.c1; have d2 := V1.out.c2; have d3 := V1.out.c3; have d4 := V1.out.c4; clear g1)
  go_ret
  exact ⟨rfl, HB.out ▸ G1.out⟩
theorem scnprints_walk (k : Int) (s : ByteArray) (n a b : Int) (w : World) (env : EnvQ w) (n0 : 0 ≤ n ∧ n ≤ 18446744073709551615) :
    Calls Tryz.prog 4 #[.agg #[.int .i64 k, .string s, .int .u64 n, .int .i64 a, .int .i64 b]] w fun e w' => e = .returned (.bool true) ∧ Below w.heap.size w w' := by
  obtain ⟨N, rfl⟩ : ∃ N : Nat, n = N := ⟨n.toNat, by omega⟩
  by_cases hm : 2000 < s.size
  · exact scnp_long k s N a b w env hm
  · by_cases hr : RightT k s (N : Int)
    · by_cases h0 : k = 0
      · exact scnp_zero k s N a b w env (by omega) (by omega) hr h0
      · exact scnp_yes k s N a b w env (by omega) (by omega) hr h0
    · exact scnp_no k s N a b w env (by omega) hr

end Go.Proofs.YthainohkneociaaGreatDoor
