/-
  Lists of bits, the lowest first, and the numbers that they are: plain arithmetic. No program in sight.
-/
namespace Go.Proofs.Ytnndpainnoebgaa

/-- Below 2^64, and 2^128. -/
def W64 (n : Nat) : Prop := n < 18446744073709551616
def W128 (n : Nat) : Prop := n < 340282366920938463463374607431768211456
/-- The number of two halves. -/
def wide (h l : Nat) : Nat := h * 18446744073709551616 + l
theorem W64.int {n : Nat} (h : W64 n) : (n : Int) ≤ 18446744073709551615 := by unfold W64 at h; omega
theorem W64.of {n : Nat} (h : (n : Int) ≤ 18446744073709551615) : W64 n := by unfold W64; omega
theorem wide_lt {h l : Nat} (hh : W64 h) (hl : W64 l) : W128 (wide h l) := by unfold W64 at *; unfold W128 wide; omega

/-- One bit's number. -/
def b2n (b : Bool) : Nat := if b then 1 else 0
/-- The number of a list of bits, the lowest first. -/
def val : List Bool → Nat
  | [] => 0
  | b :: l => b2n b + 2 * val l
/-- A bit, if there is one. -/
def bitN (l : List Bool) (i : Nat) : Nat := b2n (l.getD i false)
/-- The number of the lowest bits. -/
def lo (l : List Bool) (k : Nat) : Nat := val (l.take k)
/-- The number of all bits from a place on. -/
def hi (l : List Bool) (k : Nat) : Nat := val (l.drop k)

theorem b2n_le (b : Bool) : b2n b ≤ 1 := by cases b <;> simp [b2n]
theorem bitN_le (l : List Bool) (i : Nat) : bitN l i ≤ 1 := b2n_le _
theorem b2n_decide (n : Nat) (h : n ≤ 1) : b2n (decide (n = 1)) = n := by
  have : n = 0 ∨ n = 1 := by omega
  rcases this with rfl | rfl <;> simp [b2n]
theorem val_append (l : List Bool) (b : Bool) : val (l ++ [b]) = val l + 2 ^ l.length * b2n b := by
  induction l with
  | nil => simp [val]
  | cons x l ih => simp only [List.cons_append, val, ih, List.length_cons, Nat.pow_succ]; grind
theorem val_false (l : List Bool) : val (false :: l) = 2 * val l := by simp [val, b2n]
theorem val_lt (l : List Bool) : val l < 2 ^ l.length := by
  induction l with
  | nil => simp [val]
  | cons x l ih => have := b2n_le x; simp only [val, List.length_cons, Nat.pow_succ]; omega
theorem bitN_beyond (l : List Bool) (i : Nat) (h : l.length ≤ i) : bitN l i = 0 := by
  unfold bitN
  rw [List.getD_eq_getElem?_getD, List.getElem?_eq_none h]; rfl
theorem lo_zero (l : List Bool) : lo l 0 = 0 := by simp [lo, val]
theorem lo_all (l : List Bool) (k : Nat) (h : l.length ≤ k) : lo l k = val l := by rw [lo, List.take_of_length_le h]
theorem lo_succ (l : List Bool) (k : Nat) : lo l (k + 1) = lo l k + 2 ^ k * bitN l k := by
  by_cases h : k < l.length
  · unfold lo bitN
    rw [List.take_succ_eq_append_getElem h, val_append, List.length_take, Nat.min_eq_left (by omega), List.getD_eq_getElem?_getD, List.getElem?_eq_getElem h]; rfl
  · rw [lo_all l k (by omega), lo_all l (k + 1) (by omega), bitN_beyond l k (by omega)]; simp
theorem lo_lt (l : List Bool) (k : Nat) : lo l k < 2 ^ k := by
  have h := val_lt (l.take k)
  have : 2 ^ (l.take k).length ≤ 2 ^ k := Nat.pow_le_pow_right (by omega) (by rw [List.length_take]; omega)
  unfold lo; omega
theorem hi_beyond (l : List Bool) (k : Nat) (h : l.length ≤ k) : hi l k = 0 := by rw [hi, List.drop_of_length_le h]; rfl
theorem hi_zero (l : List Bool) : hi l 0 = val l := by simp [hi]
theorem hi_step (l : List Bool) (k : Nat) : hi l k = bitN l k + 2 * hi l (k + 1) := by
  by_cases h : k < l.length
  · unfold hi bitN
    rw [List.drop_eq_getElem_cons h, List.getD_eq_getElem?_getD, List.getElem?_eq_getElem h]; rfl
  · rw [hi_beyond l k (by omega), hi_beyond l (k + 1) (by omega), bitN_beyond l k (by omega)]
theorem val_split (l : List Bool) (k : Nat) : val l = lo l k + 2 ^ k * hi l k := by
  induction k with
  | zero => simp [lo_zero, hi_zero]
  | succ k ih => rw [ih, lo_succ, hi_step l k, Nat.pow_succ]; grind

/-- Which one is greater: -1, 0, 1. -/
def cmpI (x y : Nat) : Int := if x < y then -1 else if y < x then 1 else 0
theorem cmpI_lt {x y : Nat} (h : x < y) : cmpI x y = -1 := by simp [cmpI, h]
theorem cmpI_gt {x y : Nat} (h : y < x) : cmpI x y = 1 := by unfold cmpI; rw [if_neg (by omega), if_pos h]
theorem cmpI_eq {x y : Nat} (h : x = y) : cmpI x y = 0 := by subst h; simp [cmpI]
theorem cmpI_neg (x y : Nat) : cmpI y x = -cmpI x y := by
  unfold cmpI; split <;> split <;> omega

/-- The highest bit that is unlike decides. -/
theorem cmp_found (a b : List Bool) (k : Nat) (h : hi a (k + 1) = hi b (k + 1)) (hne : bitN a k ≠ bitN b k) : ((bitN a k : Int) - (bitN b k : Int)) = cmpI (val a) (val b) := by
  have h1 := val_split a k
  have h2 := val_split b k
  have h3 := hi_step a k
  have h4 := hi_step b k
  have h5 := lo_lt a k
  have h6 := lo_lt b k
  have h7 := bitN_le a k
  have h8 := bitN_le b k
  by_cases c : bitN a k = 1
  · have e : hi a k = hi b k + 1 := by omega
    rw [e, Nat.mul_add] at h1
    rw [cmpI_gt (by omega)]; omega
  · have e : hi b k = hi a k + 1 := by omega
    rw [e, Nat.mul_add] at h2
    rw [cmpI_lt (by omega)]; omega

/-- One place of a sum. -/
theorem plus_step (la lb v c x y s k : Nat) (h : v + 2 ^ k * c = la + lb) (hs : s = x + y + c) :
    (v + 2 ^ k * (s % 2)) + 2 ^ (k + 1) * (s / 2) = (la + 2 ^ k * x) + (lb + 2 ^ k * y) := by
  have e : s = s % 2 + 2 * (s / 2) := by omega
  have e2 : 2 ^ k * s = 2 ^ k * (s % 2) + 2 ^ (k + 1) * (s / 2) := by
    rw [Nat.pow_succ]
    have : 2 ^ k * s = 2 ^ k * (s % 2 + 2 * (s / 2)) := by rw [← e]
    rw [this]; grind
  have e3 : 2 ^ k * s = 2 ^ k * x + 2 ^ k * y + 2 ^ k * c := by rw [hs]; grind
  omega

/-- One place of a number of 128 bits. -/
theorem mod_step (N : Nat) (k : Nat) : N % 2 ^ (k + 1) = N % 2 ^ k + 2 ^ k * (N / 2 ^ k % 2) := by
  rw [Nat.pow_succ, Nat.mod_mul]
/-- The list is the number's lowest places. -/
def LowOf (x : List Bool) (N : Nat) : Prop := val x = N % 2 ^ x.length
theorem LowOf.nil (N : Nat) : LowOf [] N := by simp [LowOf, val]; omega
theorem LowOf.next {x : List Bool} {N : Nat} (h : LowOf x N) {b : Bool} (hb : b2n b = N / 2 ^ x.length % 2) : LowOf (x ++ [b]) N := by
  unfold LowOf at *
  rw [val_append, List.length_append, List.length_singleton, mod_step, h, hb]
theorem LowOf.all {x : List Bool} {N : Nat} (h : LowOf x N) (hl : x.length = 128) (hN : W128 N) : val x = N := by
  unfold LowOf at h; unfold W128 at hN
  rw [h, hl]; exact Nat.mod_eq_of_lt hN
theorem place_lo (h l k : Nat) (hk : k < 64) : l / 2 ^ k % 2 = wide h l / 2 ^ k % 2 := by
  unfold wide
  have e : h * 18446744073709551616 + l = l + 2 ^ k * (2 * (h * 2 ^ (63 - k))) := by
    have : 2 ^ k * (2 * 2 ^ (63 - k)) = 18446744073709551616 := by
      rw [← Nat.pow_succ', ← Nat.pow_add, show k + (63 - k + 1) = 64 by omega]
    rw [← this]; grind
  rw [e, Nat.add_mul_div_left _ _ (Nat.two_pow_pos k)]
  omega
theorem place_hi (h l k : Nat) (hl : W64 l) (hk : 64 ≤ k) : h / 2 ^ (k - 64) % 2 = wide h l / 2 ^ k % 2 := by
  unfold wide; unfold W64 at hl
  have e : 2 ^ k = 18446744073709551616 * 2 ^ (k - 64) := by
    rw [show (18446744073709551616 : Nat) = 2 ^ 64 from rfl, ← Nat.pow_add, show 64 + (k - 64) = k by omega]
  rw [e, ← Nat.div_div_eq_div_mul]
  have : (h * 18446744073709551616 + l) / 18446744073709551616 = h := by omega
  rw [this]

end Go.Proofs.Ytnndpainnoebgaa
