/-
  The sum of bytes, bit by bit and four bits at a time; frames: plain arithmetic. No program in sight.
-/
import Derived.Test.YtiephcjdbndjaaaDoorRead
namespace Go.Proofs.YtiephcjdbndjaaaDoor

/-- The polynomial. -/
def polyN : Nat := 2197175160
/-- The register behind one bit of the bytes. -/
def bitC (c t : Nat) : Nat := if c % 2 = t % 2 then c / 2 else (c / 2) ^^^ polyN
/-- Behind some bits of a byte, the lowest first. -/
def bitsC (c x : Nat) : Nat → Nat
  | 0 => c
  | k + 1 => bitC (bitsC c x k) (x / 2 ^ k)
def byteC (c x : Nat) : Nat := bitsC c x 8
/-- Behind bytes. -/
def regL (c : Nat) (l : List Int) : Nat := l.foldl (fun c z => byteC c z.toNat) c
def onL (sum : Nat) (l : List Int) : Nat := 4294967295 - regL (4294967295 - sum) l
def sumL (l : List Int) : Nat := onL 0 l

theorem xor_lt32 {a b : Nat} (ha : a < 4294967296) (hb : b < 4294967296) : a ^^^ b < 4294967296 := Nat.xor_lt_two_pow (n := 32) ha hb
theorem bitC_lt {c t : Nat} (h : c < 4294967296) : bitC c t < 4294967296 := by
  unfold bitC
  split
  · omega
  · exact xor_lt32 (by omega) (by decide)
theorem bitsC_lt {c x : Nat} (h : c < 4294967296) (k : Nat) : bitsC c x k < 4294967296 := by
  induction k with
  | zero => exact h
  | succ k ih => exact bitC_lt ih
theorem byteC_lt {c x : Nat} (h : c < 4294967296) : byteC c x < 4294967296 := bitsC_lt h 8
theorem regL_lt {c : Nat} (h : c < 4294967296) (l : List Int) : regL c l < 4294967296 := by
  induction l generalizing c with
  | nil => exact h
  | cons z l ih => exact ih (byteC_lt h)
theorem regL_append (c : Nat) (a b : List Int) : regL c (a ++ b) = regL (regL c a) b := List.foldl_append
theorem regL_snoc (c : Nat) (a : List Int) (z : Int) : regL c (a ++ [z]) = byteC (regL c a) z.toNat := by rw [regL_append]; rfl
theorem sumL_lt (l : List Int) : sumL l < 4294967296 := by unfold sumL onL; omega
theorem onL_lt (s : Nat) (l : List Int) : onL s l < 4294967296 := by unfold onL; omega
/-- In two pieces. -/
theorem on_sum (a b : List Int) : onL (sumL a) b = sumL (a ++ b) := by
  have h := regL_lt (c := 4294967295) (by decide) a
  have e : 4294967295 - sumL a = regL 4294967295 a := by unfold sumL onL; rw [Nat.sub_zero]; omega
  unfold onL
  rw [e, ← regL_append]
  unfold sumL onL
  rw [Nat.sub_zero]

/-! ### A byte is turned in first, and then eight bits fall out -/
/-- A bit falls out. -/
def shC (c : Nat) : Nat := if c % 2 = 0 then c / 2 else (c / 2) ^^^ polyN
def shsC (c : Nat) : Nat → Nat
  | 0 => c
  | k + 1 => shC (shsC c k)
theorem xor_half (a b : Nat) : (a ^^^ b) / 2 = (a / 2) ^^^ (b / 2) := by
  apply Nat.eq_of_testBit_eq
  intro i
  rw [Nat.testBit_div_two, Nat.testBit_xor, Nat.testBit_xor, Nat.testBit_div_two, Nat.testBit_div_two]
theorem xor_par (a b : Nat) : (a ^^^ b) % 2 = (a % 2 + b % 2) % 2 := by
  rcases Nat.mod_two_eq_zero_or_one a with ha | ha <;> rcases Nat.mod_two_eq_zero_or_one b with hb | hb <;>
    · have h := Nat.xor_mod_two_pow (a := a) (b := b) (n := 1)
      simp only [Nat.pow_one] at h
      rw [h, ha, hb]; rfl
/-- What is turned in above the lowest bit only moves down. -/
theorem sh_xor (c y : Nat) : shC (c ^^^ (2 * y)) = shC c ^^^ y := by
  unfold shC
  have h1 : (c ^^^ 2 * y) % 2 = c % 2 := by rw [xor_par]; omega
  have h2 : (c ^^^ 2 * y) / 2 = (c / 2) ^^^ y := by rw [xor_half]; congr 1; omega
  rw [h1, h2]
  split
  · rfl
  · rw [Nat.xor_assoc, Nat.xor_comm y polyN, ← Nat.xor_assoc]
theorem shs_xor (c y k : Nat) : shsC (c ^^^ (2 ^ k * y)) k = shsC c k ^^^ y := by
  induction k generalizing y with
  | zero => simp [shsC]
  | succ k ih =>
    simp only [shsC]
    rw [show 2 ^ (k + 1) * y = 2 ^ k * (2 * y) by rw [Nat.pow_succ]; rw [Nat.mul_assoc], ih, sh_xor]
/-- The lowest bit, turned in or held against what falls out. -/
theorem sh_bit (c t : Nat) : shC (c ^^^ (t % 2)) = bitC c t := by
  unfold shC bitC
  have h1 : (c ^^^ t % 2) % 2 = (c % 2 + t % 2) % 2 := by rw [xor_par]; omega
  have h2 : (c ^^^ t % 2) / 2 = c / 2 := by rw [xor_half, show t % 2 / 2 = 0 by omega, Nat.xor_zero]
  rw [h1, h2]
  by_cases h : c % 2 = t % 2
  · rw [if_pos h, if_pos (by omega)]
  · rw [if_neg h, if_neg (by omega)]
theorem even_xor (n : Nat) : n = (n % 2) ^^^ (2 * (n / 2)) := by
  apply Nat.eq_of_testBit_eq
  intro i
  rw [Nat.testBit_xor]
  cases i with
  | zero => simp [Nat.testBit_zero]
  | succ i =>
    rw [Nat.testBit_succ, Nat.testBit_succ, Nat.testBit_succ, show n % 2 / 2 = 0 by omega, show 2 * (n / 2) / 2 = n / 2 by omega]
    simp
theorem bits_shs (c x k : Nat) : shsC (c ^^^ x) k = bitsC c x k ^^^ (x / 2 ^ k) := by
  induction k with
  | zero => simp [shsC, bitsC]
  | succ k ih =>
    simp only [shsC, bitsC]
    have e : bitsC c x k ^^^ (x / 2 ^ k) = (bitsC c x k ^^^ ((x / 2 ^ k) % 2)) ^^^ (2 * (x / 2 ^ (k + 1))) := by
      rw [Nat.xor_assoc]
      congr 1
      have := even_xor (x / 2 ^ k)
      rw [Nat.div_div_eq_div_mul, ← Nat.pow_succ] at this
      exact this
    rw [ih, e, sh_xor, sh_bit]
/-- A byte, turned in at once. -/
theorem byte_shs {c x : Nat} (hx : x < 256) : byteC c x = shsC (c ^^^ x) 8 := by
  rw [bits_shs, show x / 2 ^ 8 = 0 by omega, Nat.xor_zero]; rfl
theorem shs_add (c j k : Nat) : shsC c (j + k) = shsC (shsC c j) k := by
  induction k with
  | zero => rfl
  | succ k ih => rw [← Nat.add_assoc]; simp only [shsC]; rw [ih]
theorem nib_xor (n : Nat) : n = (n % 16) ^^^ (2 ^ 4 * (n / 16)) := by
  apply Nat.eq_of_testBit_eq
  intro i
  rw [Nat.testBit_xor, show n % 16 = n % 2 ^ 4 by rfl, Nat.testBit_mod_two_pow, Nat.testBit_two_pow_mul, show n / 16 = n / 2 ^ 4 by rfl, Nat.testBit_div_two_pow]
  by_cases h : i < 4
  · have h4 : ¬ 4 ≤ i := by omega
    simp [h, h4]
  · have h4 : 4 ≤ i := by omega
    simp [h, h4]
/-- Four bits at once: what the lowest four come to, turned into what is left. -/
theorem shs_four (c : Nat) : shsC c 4 = shsC (c % 16) 4 ^^^ (c / 16) := by
  have := shs_xor (c % 16) (c / 16) 4
  rw [← nib_xor] at this
  exact this

/-! ### Frames -/
def fourL (n : Nat) : List Int := [((n / 16777216 % 256 : Nat) : Int), ((n / 65536 % 256 : Nat) : Int), ((n / 256 % 256 : Nat) : Int), ((n % 256 : Nat) : Int)]
def fourN (a b c d : Int) : Nat := (16777216 * a + 65536 * b + 256 * c + d).toNat
def frameL (l : List Int) : List Int := [245] ++ (fourL l.length ++ (fourL (sumL l) ++ (l ++ [95])))
theorem fourL_len (n : Nat) : (fourL n).length = 4 := rfl
theorem frameL_len (l : List Int) : (frameL l).length = l.length + 10 := by
  unfold frameL; simp only [List.length_append, fourL_len, List.length_cons, List.length_nil]; omega
theorem fourL_byte (n : Nat) : ∀ z ∈ fourL n, 0 ≤ z ∧ z ≤ 255 := by
  intro z hz
  unfold fourL at hz
  simp only [List.mem_cons, List.not_mem_nil, or_false] at hz
  omega
theorem frameL_byte {l : List Int} (h : ∀ z ∈ l, 0 ≤ z ∧ z ≤ 255) : ∀ z ∈ frameL l, 0 ≤ z ∧ z ≤ 255 := by
  intro z hz
  unfold frameL at hz
  simp only [List.mem_append, List.mem_cons, List.not_mem_nil, or_false] at hz
  rcases hz with hz | hz | hz | hz | hz
  · omega
  · exact fourL_byte _ z hz
  · exact fourL_byte _ z hz
  · exact h z hz
  · omega
/-- How many bytes are said to be in a frame at the front. -/
def saidN (B : List Int) : Nat := fourN (B.getD 1 0) (B.getD 2 0) (B.getD 3 0) (B.getD 4 0)
/-- The bytes of the frame at the front, if one stands there. -/
def openL (B : List Int) : Option (List Int) :=
  if 10 ≤ B.length ∧ saidN B + 10 ≤ B.length ∧ frameL ((B.drop 9).take (saidN B)) = B.take (saidN B + 10) then some ((B.drop 9).take (saidN B)) else none
theorem said_frame {l : List Int} (h : l.length < 4294967296) (r : List Int) : saidN (frameL l ++ r) = l.length := by
  unfold saidN frameL fourL fourN
  simp only [List.cons_append, List.nil_append, List.getD_cons_succ, List.getD_cons_zero]
  omega
theorem frame_drop (l r : List Int) : (frameL l ++ r).drop 9 = l ++ ([95] ++ r) := by
  unfold frameL fourL
  simp
/-- What is framed is opened, whatever stands behind. -/
theorem open_frame {l : List Int} (h : l.length < 4294967296) (r : List Int) : openL (frameL l ++ r) = some l := by
  have hs := said_frame h r
  have ht : ((frameL l ++ r).drop 9).take l.length = l := by rw [frame_drop, List.take_left]
  unfold openL
  rw [hs, ht, if_pos]
  refine ⟨by rw [List.length_append, frameL_len]; omega, by rw [List.length_append, frameL_len]; omega, ?_⟩
  rw [← frameL_len, List.take_left]
theorem open_some {B x : List Int} (h : openL B = some x) : 10 ≤ B.length ∧ x.length = saidN B ∧ saidN B + 10 ≤ B.length ∧ x = (B.drop 9).take (saidN B) ∧ frameL x = B.take (x.length + 10) := by
  unfold openL at h
  split at h
  · rename_i hc
    obtain ⟨h1, h2, h3⟩ := hc
    injection h with h
    have hl : x.length = saidN B := by rw [← h, List.length_take, List.length_drop]; omega
    exact ⟨h1, hl, h2, h.symm, by rw [hl, ← h]; exact h3⟩
  · cases h
theorem open_len {B x : List Int} (h : openL B = some x) : x.length + 10 ≤ B.length := by
  obtain ⟨_, h2, h3, _⟩ := open_some h
  omega
/-- The frames at the front, one behind the other. -/
def allL (B : List Int) : List (List Int) × Nat :=
  match h : openL B with
  | none => ([], 0)
  | some x => (x :: (allL (B.drop (x.length + 10))).1, x.length + 10 + (allL (B.drop (x.length + 10))).2)
termination_by B.length
decreasing_by
  all_goals (have := open_len h; rw [List.length_drop]; omega)
theorem allL_none {B : List Int} (h : openL B = none) : allL B = ([], 0) := by
  rw [allL]; split
  · rfl
  · rename_i x hx; rw [h] at hx; cases hx
theorem allL_some {B x : List Int} (h : openL B = some x) : allL B = (x :: (allL (B.drop (x.length + 10))).1, x.length + 10 + (allL (B.drop (x.length + 10))).2) := by
  rw [allL]; split
  · rename_i hx; rw [h] at hx; cases hx
  · rename_i y hy; rw [h] at hy; injection hy with hy; subst hy; rfl
theorem allL_le (B : List Int) : (allL B).2 ≤ B.length := by
  induction hn : B.length using Nat.strongRecOn generalizing B with
  | _ n ih =>
    subst hn
    cases h : openL B with
    | none => rw [allL_none h]; exact Nat.zero_le _
    | some x =>
      have hl := open_len h
      rw [allL_some h]
      have := ih (B.drop (x.length + 10)).length (by rw [List.length_drop]; omega) _ rfl
      rw [List.length_drop] at this
      show x.length + 10 + _ ≤ _
      omega
/-- What doesn't begin as a frame does, or doesn't end as one, is none. -/
theorem open_first {B : List Int} (h : B.getD 0 0 ≠ 245) : openL B = none := by
  cases e : openL B with
  | none => rfl
  | some x =>
    obtain ⟨h1, h2, h3, h4, h5⟩ := open_some e
    exfalso
    apply h
    have := congrArg (·.getD 0 0) h5
    simp only [frameL] at this
    rw [List.getD_eq_getElem?_getD, List.getD_eq_getElem?_getD, List.getElem?_take_of_lt (by omega)] at this
    rw [List.getD_eq_getElem?_getD, ← this]
    rfl
theorem open_last {B : List Int} (h : B.getD (saidN B + 9) 0 ≠ 95) : openL B = none := by
  cases e : openL B with
  | none => rfl
  | some x =>
    obtain ⟨h1, h2, h3, h4, h5⟩ := open_some e
    exfalso
    apply h
    have hl : (frameL x).getD (x.length + 9) 0 = 95 := by
      have e1 : frameL x = ([245] ++ (fourL x.length ++ (fourL (sumL x) ++ x))) ++ [95] := by unfold frameL; simp
      have e2 : ([245] ++ (fourL x.length ++ (fourL (sumL x) ++ x)) : List Int).length = x.length + 9 := by simp only [List.length_append, fourL_len, List.length_cons, List.length_nil]; omega
      rw [e1, List.getD_eq_getElem?_getD, List.getElem?_append_right (by omega), e2, Nat.sub_self]; rfl
    rw [h5, List.getD_eq_getElem?_getD, List.getElem?_take_of_lt (by omega), ← List.getD_eq_getElem?_getD, h2] at hl
    exact hl
/-- No beginning of a frame, filled up with bytes 0, is one, but all of it. -/
theorem open_torn {l : List Int} (hl : l.length < 4294967296) {k m : Nat} (hk : k < l.length + 10) : openL ((frameL l).take k ++ List.replicate m 0) = none := by
  have hlen : ((frameL l).take k).length = k := by rw [List.length_take, frameL_len]; omega
  have hz : ∀ i, k ≤ i → ((frameL l).take k ++ List.replicate m 0).getD i 0 = 0 := fun i hi => by
    rw [List.getD_eq_getElem?_getD, List.getElem?_append_right (by omega)]
    by_cases h : i - ((frameL l).take k).length < m
    · rw [List.getElem?_replicate, if_pos h]; rfl
    · rw [List.getElem?_replicate, if_neg h]; rfl
  have hin : ∀ i, i < k → ((frameL l).take k ++ List.replicate m 0).getD i 0 = (frameL l).getD i 0 := fun i hi => by
    rw [List.getD_eq_getElem?_getD, List.getElem?_append_left (by omega), List.getElem?_take_of_lt hi, ← List.getD_eq_getElem?_getD]
  apply open_last
  rw [hz _ ?_]
  · decide
  · by_cases h5 : 5 ≤ k
    · have hs : saidN ((frameL l).take k ++ List.replicate m 0) = l.length := by
        have h1 := said_frame hl []
        rw [List.append_nil] at h1
        unfold saidN at h1 ⊢
        rw [hin 1 (by omega), hin 2 (by omega), hin 3 (by omega), hin 4 (by omega)]
        exact h1
      rw [hs]; omega
    · omega

end Go.Proofs.YtiephcjdbndjaaaDoor
