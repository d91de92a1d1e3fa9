/-
  Package wire's reader: what it is; a number at the front; what is left of it, what is taken, and what spoils it: walked.
-/
import Derived.Test.YtejelednnacnaaaGreatDoorPkWirD
import Derived.Test.YtejelednnacnaaaGreatDoorPkBase
import Derived.Laws.BitsAllLaws
import Derived.OwnWalk
namespace Go.Proofs.YtejelednnacnaaaGreatDoor
open Go.RowKit

theorem and16_all : ∀ k : Fin 256, (k.val &&& 16) = if k.val / 16 % 2 = 1 then 16 else 0 := by decide +kernel
theorem not16_all : ∀ k : Fin 256, (k.val &&& 239) = if k.val / 16 % 2 = 1 then k.val - 16 else k.val := by decide +kernel
theorem and16 (k : Nat) (h : k < 256) : bits .and .u8 (k : Int) 16 = if (k : Int) / 16 % 2 = 1 then 16 else 0 := by
  have h1 := u8_and_nat k 16 h (by decide)
  have h2 := and16_all ⟨k, h⟩
  have e : ((16 : Nat) : Int) = 16 := rfl
  rw [e] at h1
  rw [h1]
  simp only at h2
  by_cases hs : k / 16 % 2 = 1
  · rw [h2, if_pos hs, if_pos (by omega)]; rfl
  · rw [h2, if_neg hs, if_neg (by omega)]; rfl
theorem not16 (k : Nat) (h : k < 256) : bits .andNot .u8 (k : Int) 16 = if (k : Int) / 16 % 2 = 1 then (k : Int) - 16 else k := by
  have h1 := u8_andNot_nat k 16 h (by decide)
  have h2 := not16_all ⟨k, h⟩
  have e : ((16 : Nat) : Int) = 16 := rfl
  rw [e] at h1
  rw [h1]
  simp only at h2
  by_cases hs : k / 16 % 2 = 1
  · rw [h2, if_pos hs, if_pos (by omega)]; omega
  · rw [h2, if_neg hs, if_neg (by omega)]
theorem or_byte (a z : Nat) (ha : a < 72057594037927936) (hz : z < 256) : bits .or .u64 ((256 * a : Nat) : Int) (z : Int) = ((256 * a + z : Nat) : Int) := by
  rw [u64_or_nat (256 * a) z (by omega) (by omega)]
  have := Nat.two_pow_add_eq_or_of_lt (i := 8) (b := z) (by omega) a
  simp only [show (2 : Nat) ^ 8 = 256 from rfl] at this
  rw [this]

/-- What front hands back. -/
def GivesFt (R : List Int) (e : Ending) : Prop := (∃ b n q, frontT R = some (b, n, q) ∧ e = .returned (.tuple #[.bool b, .int .u64 (n : Nat), .int .i64 ((R.length - q.length : Nat) : Int)])) ∨ (frontT R = none ∧ e = .returned (.tuple #[.bool false, .int .u64 0, .int .i64 0]))
theorem GivesFt.none {R : List Int} (h : frontT R = none) : GivesFt R (.returned (.tuple #[.bool false, .int .u64 0, .int .i64 0])) := Or.inr ⟨h, rfl⟩
theorem GivesFt.some {R q : List Int} {b : Bool} {n : Nat} {m : Int} (h : frontT R = some (b, n, q)) (hm : m = ((R.length - q.length : Nat) : Int)) : GivesFt R (.returned (.tuple #[.bool b, .int .u64 (n : Nat), .int .i64 m])) := Or.inl ⟨b, n, q, h, by rw [hm]⟩

set_option maxRecDepth 100000 in
set_option maxHeartbeats 4000000 in
theorem front_any (R : List Int) (w : World) (hb : ∀ z ∈ R, 0 ≤ z ∧ z ≤ 255) (hl : R.length ≤ 1000000) :
    Calls Tryz.prog 89 #[.string (strOfNums R)] w fun e w' => GivesFt R e ∧ w' = w := by
  cases R with
  | nil =>
    have e0 : strOfNums [] = ⟨#[]⟩ := rfl
    rw [e0]
    go_enter Tryz.func89, Tryz.ntmps89
    go_wp2
    go_ret3
    exact ⟨GivesFt.none rfl, rfl⟩
  | cons k r =>
    obtain ⟨k0, k1⟩ := hb k (by simp)
    have hbr : Hid (∀ z ∈ r, 0 ≤ z ∧ z ≤ 255) := fun z hz => hb z (by simp [hz])
    have hbk := Lib.hid hb
    obtain ⟨K, rfl⟩ : ∃ K : Nat, k = K := ⟨k.toNat, by omega⟩
    obtain ⟨c, hc⟩ : ∃ c : Nat, (if (K : Int) / 16 % 2 = 1 then (K : Int) - 16 else K) = (c : Int) := ⟨(if (K : Int) / 16 % 2 = 1 then (K : Int) - 16 else K).toNat, by split <;> omega⟩
    obtain ⟨b, hbd⟩ : ∃ b, decide ((K : Int) / 16 % 2 = 1) = b := ⟨_, rfl⟩
    obtain ⟨m, hm, hmb⟩ : ∃ m : Int, bits .and .u8 (K : Int) 16 = m ∧ (m != 0) = b := by
      refine ⟨_, rfl, ?_⟩
      rw [and16 K (by omega), ← hbd]
      by_cases hs : (K : Int) / 16 % 2 = 1
      · rw [if_pos hs, decide_eq_true hs]; rfl
      · rw [if_neg hs, decide_eq_false hs]; rfl
    have hn : bits .andNot .u8 (K : Int) 16 = (c : Int) := by rw [not16 K (by omega), hc]
    have hsz : (strOfNums ((K : Int) :: r)).size = r.length + 1 := wstr_size _
    have hs0 : 0 < (strOfNums ((K : Int) :: r)).size := by omega
    have hx0 : ((strOfNums ((K : Int) :: r))[0].toNat : Int) = K := wstr_at hb 0 hs0
    have hat : ∀ i (h : i + 1 < (strOfNums ((K : Int) :: r)).size), ((strOfNums ((K : Int) :: r))[i + 1].toNat : Int) = r.getD i 0 := fun i h => wstr_at hb (i + 1) h
    obtain ⟨e1, e2⟩ := wstr_some (l := (K : Int) :: r) (by simp)
    have hrl : r.length ≤ 1000000 := by simp at hl; omega
    have hT := Lib.hid (hc)
    have hD := Lib.hid hbd
    have h16 : Hid (c = 0 → b = true → K = 16) := by
      rintro rfl rfl
      have hs : (K : Int) / 16 % 2 = 1 := by simpa using hbd
      rw [if_pos hs] at hc; omega
    have hcK : c ≤ K := by split at hc <;> omega
    have hb0 : Hid (b = false → K = c) := by
      rintro rfl
      have hs : ¬ (K : Int) / 16 % 2 = 1 := by simpa using hbd
      rw [if_neg hs] at hc; omega
    have h16c : Hid (K = 16 → c = 0 ∧ b = true) := by
      rintro rfl
      refine ⟨?_, ?_⟩
      · rw [if_pos (by decide)] at hc; omega
      · rw [← hbd]; rfl
    clear hc hbd hb hl
    generalize hS : strOfNums ((K : Int) :: r) = s at hsz hs0 hx0 hat e1 e2 ⊢
    clear hS
    have HAT := Lib.hid hat
    clear hat
    by_cases h8 : 8 < c
    · have hno : Hid (frontT ((K : Int) :: r) = none) := frontT_none (by rw [hT.out]; exact takeK_big r (by omega))
      have h8i : (8 : Int) < (c : Int) := by omega
      go_enter Tryz.func89, Tryz.ntmps89
      go_wp2
      go_ret3
      exact ⟨GivesFt.none hno.out, rfl⟩
    have h8i : ¬ (8 : Int) < (c : Int) := by omega
    have h8n : c ≤ 8 := by omega
    clear h8
    by_cases hr : c ≤ r.length
    case neg =>
      have hno : Hid (frontT ((K : Int) :: r) = none) := frontT_none (by rw [hT.out]; unfold takeK; rw [if_pos (Or.inr (Or.inl (by omega)))])
      have hri : (s.size : Int) ≤ (c : Int) := by omega
      clear hr
      go_enter Tryz.func89, Tryz.ntmps89
      go_wp2
      go_ret3
      exact ⟨GivesFt.none hno.out, rfl⟩
    case pos =>
      have hri : ¬ (s.size : Int) ≤ (c : Int) := by omega
      by_cases hc0 : c = 0
      · subst hc0
        cases b with
        | true =>
          have hno : Hid (frontT ((K : Int) :: r) = none) := by rw [h16.out rfl rfl]; exact frontT_16 r
          go_enter Tryz.func89, Tryz.ntmps89
          go_wp2
          go_ret3
          exact ⟨GivesFt.none hno.out, rfl⟩
        | false =>
          have hK0 : Hid (K = 0) := hb0.out rfl
          have hfin : Hid (frontT ((K : Int) :: r) = some (false, 0, r)) := by
            have h1 := frontT_some (k := (K : Int)) (r := r) (n := 0) (q := r) (by rw [hT.out]; exact takeK_fit (k := 0) (n := 0) (by omega) (by omega) (fun h => by omega) rfl) (by rw [hK0.out]; decide)
            rw [hD.out] at h1
            exact h1
          clear hr h16 hb0 h16c
          go_enter Tryz.func89, Tryz.ntmps89
          go_wp2
          go_loop [3, 40] (fun v3 v40 => v3 = .int .u64 0 ∧ v40 = .int .i64 0) (fun _ _ => 0)
          case atStart => exact ⟨rfl, rfl⟩
          case round =>
            obtain ⟨rfl, rfl⟩ := hrel
            go_wp2
            go_ret3
            exact ⟨GivesFt.some (n := 0) hfin.out (by rw [List.length_cons]; omega), rfl⟩
      · have hs1 : 0 + 1 < s.size := by omega
        obtain ⟨z, hz, hzz⟩ : ∃ z, ((s[0 + 1]'hs1).toNat : Int) = z ∧ Hid (r.getD 0 0 = z) := ⟨_, HAT.out 0 hs1, rfl⟩
        have hs2 : 1 < s.size := hs1
        have hx1 : ((s[1]'hs2).toNat : Int) = z := hz
        clear hz hs1
        have hcpos : 0 < (c : Int) := by omega
        have hc0i : ((c : Int) == 0) = false := by simpa using hc0
        by_cases hz0 : z = 0
        · subst hz0
          have hno : Hid (frontT ((K : Int) :: r) = none) := frontT_none (by rw [hT.out]; unfold takeK; rw [if_pos (Or.inr (Or.inr ⟨hcpos, hzz.out⟩))])
          go_enter Tryz.func89, Tryz.ntmps89
          go_wp2
          go_ret3
          exact ⟨GivesFt.none hno.out, rfl⟩
        · have hz0i : (z == 0) = false := by simpa using hz0
          have hfin : Hid (frontT ((K : Int) :: r) = some (b, valB (r.take c), r.drop c)) := by
            have h1 := frontT_some (k := (K : Int)) (r := r) (n := valB (r.take c)) (q := r.drop c) (by rw [hT.out]; exact takeK_fit h8n hr (fun _ h => hz0 (by rw [← hzz.out]; exact h)) rfl) (fun h => hc0 (h16c.out (by omega)).1)
            rw [hD.out] at h1
            exact h1
          have hlen : Hid (1 + c = ((K : Int) :: r).length - (r.drop c).length) := by unfold Hid; rw [List.length_cons, List.length_drop]; omega
          have hVB : Hid (∀ i, i ≤ r.length → valB (r.take i) < 256 ^ i) := fun i hi => valB_lt r hbr.out i hi
          have hrH := Lib.hid hr
          clear h16 hb0 h16c hz0 hc0 hbk hT hD hzz
          go_enter Tryz.func89, Tryz.ntmps89
          go_wp2
          go_loop [3, 40] (fun v3 v40 => ∃ i : Nat, v3 = .int .u64 (valB (r.take i) : Nat) ∧ v40 = .int .i64 (i : Int) ∧ i ≤ c) (fun _ v40 => c - (intOf v40).toNat)
          case atStart => exact ⟨0, rfl, rfl, Nat.zero_le _⟩
          case round =>
            obtain ⟨i, rfl, rfl, hi⟩ := hrel
            by_cases hic : i < c
            · have hi1 : i + 1 < s.size := by omega
              have hy := HAT.out i hi1
              have hyb := (s[i + 1]'hi1).toNat_lt
              obtain ⟨y, hyd⟩ : ∃ y : Nat, (s[i + 1]'hi1).toNat = y := ⟨_, rfl⟩
              rw [hyd] at hy hyb
              obtain ⟨a, ha⟩ : ∃ a, valB (r.take i) = a := ⟨_, rfl⟩
              have ha1 : a < 72057594037927936 := by
                have h1 := hVB.out i (by omega)
                have h2 : (256 : Nat) ^ i ≤ 256 ^ 7 := Nat.pow_le_pow_right (by decide) (by omega)
                rw [ha] at h1
                have e7 : (256 : Nat) ^ 7 = 72057594037927936 := by decide
                omega
              have hnx : Hid (valB (r.take (i + 1)) = 256 * a + y) := by
                unfold Hid
                rw [valB_step r i (by have := hrH.out; omega), ha, ← hy, Int.toNat_natCast]
              have hrun : ∀ wx : World, (Instr.index 9 (.string s) (.int .i64 (1 + (i : Int)))).run Tryz.prog wx = .ok (.int .u8 (y : Int)) wx := fun wx => by
                rw [run_index_string wx _ s .i64 (1 + (i : Int)) Tryz.underlying9, dif_pos ⟨by omega, by omega⟩]
                have e : (1 + (i : Int)).toNat = i + 1 := by omega
                simp only [e, hyd]
              have hsh : IntKind.u64.wrap ((a : Int) * 256) = ((256 * a : Nat) : Int) := by rw [IntKind.wrap_u64]; omega
              have hyw : IntKind.u64.wrap (y : Int) = (y : Int) := by rw [IntKind.wrap_u64]; omega
              have hor : Hid (bits .or .u64 (256 * (a : Int)) (y : Int) = ((256 * a + y : Nat) : Int)) := by
                have e : 256 * (a : Int) = ((256 * a : Nat) : Int) := by omega
                unfold Hid; rw [e]; exact or_byte a y ha1 (by omega)
              have hadd : IntKind.i64.wrap (1 + (i : Int)) = 1 + (i : Int) := by rw [IntKind.wrap_i64]; omega
              have hici : (i : Int) < (c : Int) := by omega
              rw [ha]
              clear ha hyd hy hcpos hx1 hs2
              go_wp2
              go_round
              case rel => exact ⟨i + 1, by rw [hnx.out, hor.out], by go_num, by omega⟩
              case measure => simp [intOf]; omega
            · obtain rfl : i = c := by omega
              go_wp2
              go_ret3
              exact ⟨GivesFt.some hfin.out (by rw [← hlen.out]; omega), rfl⟩

/-- A reader in block r, that leans on blocks below hi alone: what it has left, or that it is bad. -/
structure RdrIs (W : World) (hi r : Nat) (st : Option (List Int)) : Prop where
  lt : r < hi ∧ hi ≤ W.heap.size
  v : Var2 W r (.string (strOfNums (st.getD []))) (.bool st.isNone)
  ok : ∀ z ∈ st.getD [], 0 ≤ z ∧ z ≤ 255
  len : (st.getD []).length ≤ 1000000
theorem RdrIs.kept {W W' : World} {hi r : Nat} {st : Option (List Int)} (h : RdrIs W hi r st) (hk : ∀ i, i < hi → W'.heap[i]? = W.heap[i]?) (hs : W.heap.size ≤ W'.heap.size) : RdrIs W' hi r st := by
  have hb := hk r h.lt.1
  obtain ⟨c0, c1, q0, q1, s⟩ := h.v
  exact ⟨⟨h.lt.1, Nat.le_trans h.lt.2 hs⟩, ⟨by rw [World.cell?_of_block hb, c0], by rw [World.cell?_of_block hb, c1], by rw [World.frozen?_of_block hb, q0], by rw [World.frozen?_of_block hb, q1], Nat.lt_of_lt_of_le s hs⟩, h.ok, h.len⟩
/-- What a reader's call hands back. -/
def GivesT (hi r : Nat) (v : Value) (st : Option (List Int)) (w : World) (e : Ending) (w' : World) : Prop := e = .returned v ∧ RdrIs w' hi r st ∧ OnlyB r w w'
theorem OnlyB.refl (r : Nat) (w : World) : OnlyB r w w := ⟨Below.refl _ _, Nat.le_refl _, fun _ _ _ => rfl⟩
theorem OnlyB.trans {r : Nat} {a b c : World} (h : OnlyB r a b) (g : OnlyB r b c) : OnlyB r a c := ⟨h.bel.trans g.bel, Nat.le_trans h.size g.size, fun i hi hne => (g.keep i (Nat.lt_of_lt_of_le hi h.size) hne).trans (h.keep i hi hne)⟩
theorem OnlyB.set {r : Nat} {a b : World} (h : OnlyB r a b) (i : Nat) (v : Value) : OnlyB r a (b.setCell ⟨r, i, none⟩ v) :=
  ⟨h.bel.setCell (Nat.le_refl _) v, by simpa using h.size, fun j hj hne => (Below.heap_setCell b ⟨r, i, none⟩ v j hne).trans (h.keep j hj hne)⟩

theorem Var2.put0 {W : World} {p : Nat} {x y : Value} (k : Var2 W p x y) (x' : Value) : Var2 (W.setCell ⟨p, 0, none⟩ x') p x' y := by
  obtain ⟨c0, c1, q0, q1, s⟩ := k
  refine ⟨?_, ?_, ?_, ?_, ?_⟩ <;> simp [go_sem, *]
theorem rest_any (hi r : Nat) (st : Option (List Int)) (w : World) (h : RdrIs w hi r st) : Calls Tryz.prog 90 #[.pointer (some ⟨r, 0, none⟩)] w fun e w' => e = .returned (.string (strOfNums (st.getD []))) ∧ w' = w := by
  obtain ⟨c0, c1, q0, q1, s⟩ := h.v
  clear h
  generalize strOfNums (st.getD []) = t at c0 ⊢
  go_enter Tryz.func90, Tryz.ntmps90
  go_wp2
  go_ret
  exact ⟨rfl, rfl⟩
theorem rest_nil (w : World) : Calls Tryz.prog 90 #[.pointer none] w fun e w' => e = .returned (.string ⟨#[]⟩) ∧ w' = w := by
  go_enter Tryz.func90, Tryz.ntmps90
  go_wp2
  go_ret
  exact ⟨rfl, rfl⟩
theorem spoil_any (hi r : Nat) (st : Option (List Int)) (w : World) (h : RdrIs w hi r st) : Calls Tryz.prog 91 #[.pointer (some ⟨r, 0, none⟩)] w (GivesT hi r (.tuple #[]) none w) := by
  have HR := Lib.hid h
  obtain ⟨c0, c1, q0, q1, s⟩ := h.v
  clear h
  go_enter Tryz.func91, Tryz.ntmps91
  go_wp2
  go_end0
  refine ⟨rfl, ⟨⟨HR.out.lt.1, by simpa using HR.out.lt.2⟩, HR.out.v.put (.string ⟨#[]⟩) (.bool true), (by intro z hz; cases hz), by simp⟩, ((OnlyB.refl r w).set 0 _).set 1 _⟩
theorem spoil_nil (w : World) : Calls Tryz.prog 91 #[.pointer none] w fun e w' => e = .returned (.tuple #[]) ∧ w' = w := by
  go_enter Tryz.func91, Tryz.ntmps91
  go_wp2
  go_end0
  exact ⟨rfl, rfl⟩
theorem take_any (hi r : Nat) (st : Option (List Int)) (n : Nat) (w : World) (h : RdrIs w hi r st) (hn : n ≤ (st.getD []).length) :
    Calls Tryz.prog 92 #[.pointer (some ⟨r, 0, none⟩), .int .i64 (n : Int)] w (GivesT hi r (.string (strOfNums ((st.getD []).take n))) (st.map (·.drop n)) w) := by
  have HR := Lib.hid h
  have hsz : (strOfNums (st.getD [])).size = (st.getD []).length := wstr_size _
  have ht := wstr_take (st.getD []) h.ok n
  have hd := wstr_drop (st.getD []) h.ok n
  have hlen := h.len
  have HE : Hid ((st.map (·.drop n)).getD [] = (st.getD []).drop n ∧ (st.map (·.drop n)).isNone = st.isNone) := by cases st <;> simp [Hid]
  obtain ⟨c0, c1, q0, q1, s⟩ := h.v
  clear h
  have hnl : n ≤ (strOfNums (st.getD [])).size := by omega
  generalize hS : strOfNums (st.getD []) = t at c0 ht hd hsz hnl
  have HT := Lib.hid ht
  have HD := Lib.hid hd
  clear ht hd hS
  go_enter Tryz.func92, Tryz.ntmps92
  go_wp2
  go_ret
  refine ⟨by rw [← HT.out]; rfl, ⟨⟨HR.out.lt.1, by simpa using HR.out.lt.2⟩, ?_, ?_, ?_⟩, (OnlyB.refl r w).set 0 _⟩
  · rw [HE.out.1, HE.out.2, ← HD.out, hsz]
    exact HR.out.v.put0 _
  · rw [HE.out.1]; exact fun z hz => HR.out.ok z (List.mem_of_mem_drop hz)
  · rw [HE.out.1, List.length_drop]; have := HR.out.len; omega

end Go.Proofs.YtejelednnacnaaaGreatDoor
