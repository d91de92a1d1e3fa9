/-
  A right tree is light; the chapter's small example: plain.
-/
import Derived.Test.YtmgimkokmlcllaaGreatDoorPkLayf
import Derived.Test.YtmgimkokmlcllaaGreatDoorPkLaya
import Derived.Test.YtmgimkokmlcllaaGreatDoorPkTrel
import Derived.Test.YtmgimkokmlcllaaGreatDoorPkPlain
import Derived.Test.YtmgimkokmlcllaaGreatDoorPkLayg
namespace Go.Proofs.YtmgimkokmlcllaaGreatDoor

theorem runes_size {s : ByteArray} (h : ∀ r ∈ runesOf (nums s), 0 ≤ r) : s.size ≤ 4 * (runesOf (nums s)).length := by
  have hb := (good_back (nums_byte s) h).2
  have hf : ∀ l : List Int, (l.flatMap encL).length ≤ 4 * l.length := fun l => by
    induction l with
    | nil => simp
    | cons z l ih => rw [List.flatMap_cons, List.length_append, List.length_cons]; have := encL_len z; omega
  have := hf (runesOf (nums s))
  rw [hb, nums_length] at this
  exact this
theorem name_size {s : ByteArray} (h : NameL (runesOf (nums s))) : s.size ≤ 2000 := by
  have := runes_size (s := s) (fun r hr => by
    have := name_within h r hr
    unfold withinB letterB digitB at this
    simp at this
    omega)
  have := h.2.1
  omega
theorem word_size {t : Tk3} (h : WordR t) : t.s.size ≤ 2000 := by
  obtain ⟨hl, hh, hr⟩ := h
  have e0 : (⟨#[]⟩ : ByteArray).size = 0 := rfl
  rcases hr with ⟨_, h, _⟩ | ⟨_, h, h2, _⟩ | ⟨_, h⟩ | ⟨_, h, _⟩ | ⟨_, h, _⟩ | ⟨_, h, _⟩
  · exact name_size h
  · have := runes_size (s := t.s) (good_mem h)
    omega
  all_goals (rw [h, e0]; omega)
theorem EachR.light : ∀ {L : List It}, EachR L → NumsR L → LightL L
  | [], _, _ => by simp [LightL]
  | .mk n w k kids a b :: l, h, hn => by
    rw [EachR] at h
    rw [NumsR] at hn
    rw [LightL]
    obtain ⟨h1, h2, h3, h4, h5, h6⟩ := h
    refine ⟨⟨name_size h1, by show w.length ≤ 20; omega, fun t ht => ⟨word_size (h4 t ht), hn.1 t ht⟩⟩, EachR.light h5 hn.2.1, EachR.light h6 hn.2.2⟩

def exA : ByteArray := ⟨#[114, 117, 108, 101, 32, 97, 123, 102, 111, 114, 32, 50, 109, 59, 125]⟩
theorem exA_nums : nums exA = [114, 117, 108, 101, 32, 97, 123, 102, 111, 114, 32, 50, 109, 59, 125] := rfl
theorem tokF_open {l : List Int} {i : Nat} {R : List Int} (h : l.drop i = [123] ++ R) : tokF l i = (tokF l (i + 1)).map (fun L => (⟨7, [], 0⟩, i) :: L) := by
  obtain ⟨h1, h2, _⟩ := drop_len h (by decide)
  have p2 : pieceN (l.drop i) = 1 := by
    rw [h]
    unfold pieceN
    have q : ([123] ++ R).getD 0 0 = 123 := rfl
    rw [q, if_neg (by decide), if_neg (by decide), if_neg (by decide)]
  have g2 : l.getD i 0 = 123 := h2
  have t2 : tokP ((l.drop i).take 1) = (⟨7, [], 0⟩, 0) := by
    rw [h]
    show tokP [123] = _
    unfold tokP
    rw [if_pos (by decide)]
  have s2 := tokF_piece (l := l) (i := i) h1 (by rw [g2]; decide) (by rw [g2]; decide)
  rw [p2, t2, if_pos rfl] at s2
  exact s2
def exAToks : List (TkV × Nat) := [(⟨1, [114, 117, 108, 101], 0⟩, 0), (⟨1, [97], 0⟩, 5), (⟨7, [], 0⟩, 6), (⟨1, [102, 111, 114], 0⟩, 7), (⟨6, [], 120⟩, 11), (⟨9, [], 0⟩, 13), (⟨8, [], 0⟩, 14)]
theorem exA_toks : tokF (runesOf (nums exA)) 0 = .ok exAToks := by
  have hl : runesOf (nums exA) = [114, 117, 108, 101, 32, 97, 123, 102, 111, 114, 32, 50, 109, 59, 125] := by
    rw [exA_nums]
    exact runes_of_ascii (by decide)
  obtain ⟨l, hll⟩ : ∃ l, runesOf (nums exA) = l := ⟨_, rfl⟩
  rw [hll] at hl ⊢
  have n1 : NameL [114, 117, 108, 101] := by unfold NameL; decide
  have n2 : NameL [97] := by unfold NameL; decide
  have n4 : NameL [102, 111, 114] := by unfold NameL; decide
  have r1 := reads_plain (by decide) n1
  have r2 := reads_plain (by decide) n2
  have r5 := reads_plain (by decide) n4
  have r6 := reads_span (n := 120) (by decide)
  have r7 := reads_mark (c := 59) (k := 9) (by decide)
  have r8 := reads_mark (c := 125) (k := 8) (by decide)
  rw [ex_2m] at r6
  have a1 := tokF_reads (l := l) (i := 0) (R := [32, 97, 123, 102, 111, 114, 32, 50, 109, 59, 125]) (by rw [hl]; rfl) r1 (endG_gap (by decide))
  have b1 := tokF_blank (l := l) (i := 4) (z := 32) (R := [97, 123, 102, 111, 114, 32, 50, 109, 59, 125]) (by rw [hl]; rfl) (by decide)
  have a2 := tokF_reads (l := l) (i := 5) (R := [123, 102, 111, 114, 32, 50, 109, 59, 125]) (by rw [hl]; rfl) r2 (endG_gap (by decide))
  have a4 := tokF_open (l := l) (i := 6) (R := [102, 111, 114, 32, 50, 109, 59, 125]) (by rw [hl]; rfl)
  have a5 := tokF_reads (l := l) (i := 7) (R := [32, 50, 109, 59, 125]) (by rw [hl]; rfl) r5 (endG_gap (by decide))
  have b5 := tokF_blank (l := l) (i := 10) (z := 32) (R := [50, 109, 59, 125]) (by rw [hl]; rfl) (by decide)
  have a6 := tokF_reads (l := l) (i := 11) (R := [59, 125]) (by rw [hl]; rfl) r6 (endG_gap (by decide))
  have a7 := tokF_reads (l := l) (i := 13) (R := [125]) (by rw [hl]; rfl) r7 (endG_gap (by decide))
  have a8 := tokF_reads (l := l) (i := 14) (R := []) (by rw [hl]; rfl) r8 endG_nil
  have z := tokF_none (l := l) (i := 15) (by rw [hl]; rfl)
  have e8 : tokF l 14 = .ok [(⟨8, [], 0⟩, 14)] := by rw [a8]; show Except.map _ (tokF l 15) = _; rw [z]; rfl
  have e7 : tokF l 13 = .ok [(⟨9, [], 0⟩, 13), (⟨8, [], 0⟩, 14)] := by rw [a7]; show Except.map _ (tokF l 14) = _; rw [e8]; rfl
  have e6 : tokF l 11 = .ok [(⟨6, [], 120⟩, 11), (⟨9, [], 0⟩, 13), (⟨8, [], 0⟩, 14)] := by rw [a6]; show Except.map _ (tokF l 13) = _; rw [e7]; rfl
  have e5 : tokF l 7 = .ok [(⟨1, [102, 111, 114], 0⟩, 7), (⟨6, [], 120⟩, 11), (⟨9, [], 0⟩, 13), (⟨8, [], 0⟩, 14)] := by rw [a5]; show Except.map _ (tokF l 10) = _; rw [b5, e6]; rfl
  have e4 : tokF l 6 = .ok [(⟨7, [], 0⟩, 6), (⟨1, [102, 111, 114], 0⟩, 7), (⟨6, [], 120⟩, 11), (⟨9, [], 0⟩, 13), (⟨8, [], 0⟩, 14)] := by rw [a4]; show Except.map _ (tokF l 7) = _; rw [e5]; rfl
  have e2 : tokF l 5 = .ok [(⟨1, [97], 0⟩, 5), (⟨7, [], 0⟩, 6), (⟨1, [102, 111, 114], 0⟩, 7), (⟨6, [], 120⟩, 11), (⟨9, [], 0⟩, 13), (⟨8, [], 0⟩, 14)] := by rw [a2]; show Except.map _ (tokF l 6) = _; rw [e4]; rfl
  rw [a1]; show Except.map _ (tokF l 4) = _; rw [b1, e2]; rfl
theorem exA_tree : ∃ L, treR exA = .ok L ∧ RightL L ∧ NumsR L ∧ strOfNums (prtL 1 L) = ⟨#[114, 117, 108, 101, 32, 97, 32, 123, 10, 32, 32, 102, 111, 114, 32, 50, 109, 59, 10, 125, 10]⟩ := by
  have hrr : treR exA = treF (runesOf (nums exA)) := if_pos (by decide)
  have hok := runes_ok (nums_byte exA)
  rw [hrr]
  obtain ⟨l, hl⟩ : ∃ l, runesOf (nums exA) = l := ⟨_, rfl⟩
  have h := exA_toks
  rw [hl] at h hok ⊢
  have ht := treF_fine h
  obtain ⟨p, q, c, d, e, f, a, b, hx⟩ : ∃ a b c d e f g h, trF (exAToks.map (tk3 l) ++ [tk3 l (tk0, l.length)]) [({}, [])] 0 none = .ok [.mk (strOfNums [114, 117, 108, 101]) [{ k := 1, s := strOfNums [97], n := 0, a := a, b := b }] true [.mk (strOfNums [102, 111, 114]) [{ k := 6, s := strOfNums [], n := 120, a := c, b := d }] false [] e f] g h] := ⟨_, _, _, _, _, _, _, _, rfl⟩
  rw [hx] at ht
  obtain ⟨h1, h2⟩ := tre_right hok ht
  refine ⟨_, ht, h1, h2, ?_⟩
  have e1 : prtL 1 [.mk (strOfNums [114, 117, 108, 101]) [{ k := 1, s := strOfNums [97], n := 0, a := p, b := q }] true [.mk (strOfNums [102, 111, 114]) [{ k := 6, s := strOfNums [], n := 120, a := c, b := d }] false [] e f] a b] = [114, 117, 108, 101] ++ ((32 :: [97]) ++ ([32, 123, 10] ++ (([32, 32] ++ ([102, 111, 114] ++ ((32 :: spn 120) ++ [59, 10]))) ++ [125, 10]))) := by
    simp only [prtL, wordsP, prT, indP, List.flatMap_cons, List.flatMap_nil]
    simp
    rfl
  rw [e1, ex_2m]
  rfl

end Go.Proofs.YtmgimkokmlcllaaGreatDoor

/-
  The law's example, walked.
-/
namespace Go.Proofs.YtmgimkokmlcllaaGreatDoor
open Go.RowKit Go.Shelf

set_option maxRecDepth 100000 in
set_option maxHeartbeats 8000000 in
theorem lay_awake (w : World) (env : EnvQ w) : Calls Tryz.prog 6 #[] w fun e w' => e = .returned (.bool true) ∧ Below w.heap.size w w' := by
  obtain ⟨L, hr, hR, hN, hs⟩ := exA_tree
  have hlt := hR.each.light hN
  have HP : Hid (Calls Tryz.prog 12 #[.string ⟨#[114, 117, 108, 101, 32, 97, 123, 102, 111, 114, 32, 50, 109, 59, 125]⟩] w (GivesTre (.ok L) w)) := Lib.hid (by
    rw [← hr]
    exact parse_any exA w env.lo)
  have HPR : Hid (∀ W S v, Below w.heap.size w W → ItemsIs 5 W S v L → (∀ b, S b → b < W.heap.size) → Calls Tryz.prog 8 #[v] W fun e w' => e = .returned (.tuple #[.string ⟨#[114, 117, 108, 101, 32, 97, 32, 123, 10, 32, 32, 102, 111, 114, 32, 50, 109, 59, 10, 125, 10]⟩, .int .i64 0]) ∧ Below W.heap.size W w') := Lib.hid (fun W S v hb hi hS => by
    rw [← hs]
    exact lprint_yes 5 S v L W (env.step hb) hi hS (by have := hR.many; omega) (by have := hR.deep; omega) hlt hN hR)
  clear env hr hs hR hN hlt
  go_enter Tryz.func6, Tryz.ntmps6
  go_wp2_with (go_at_call 12; (with_reducible refine (HP.out).mono ?_))
  rintro e w1 ⟨hb, h⟩
  rcases h with ⟨_, _, _, h, _⟩ | ⟨L2, v, h, rfl, hi⟩
  · cases h
  · injection h with h
    subst h
    obtain ⟨f2, U2, U3, fm2⟩ := fault_var w1 0 0 0
    have hf2 := fm2.g0; have ha2 := fm2.a2; have hs2 := fm2.s3; have k0 := fm2.v2.c0; have k1 := fm2.v2.c1; have k2 := fm2.v2.c2; have q0 := fm2.v2.q0; have q1 := fm2.v2.q1; have q2 := fm2.v2.q2
    have HB3 := Lib.hid (below_step hb fm2.bel)
    have HPX := Lib.hid (HPR.out U3 _ v HB3.out (ItemsIs.keep (w' := U3) hi (fun _ h => h) (fun b hb => fm2.bel.block b hb.2)) (fun b hb => Nat.lt_of_lt_of_le hb.2 fm2.bel.size))
    obtain ⟨b1, c1, rfl⟩ := hi.size
    clear hi hb fm2
    go_wp2_with (go_at_call 8; (with_reducible refine (HPX.out).mono ?_); rintro e w3 ⟨rfl, g3⟩; have G3 := Lib.hid (below_step HB3.out g3); clear g3)
    go_ret
    exact ⟨rfl, G3.out⟩

end Go.Proofs.YtmgimkokmlcllaaGreatDoor
