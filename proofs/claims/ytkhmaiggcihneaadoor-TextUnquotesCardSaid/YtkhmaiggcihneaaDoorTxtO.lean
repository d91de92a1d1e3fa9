/-
  Package text's calls, walked: Quote.
-/
import Derived.Test.YtkhmaiggcihneaaDoorTxtE
import Derived.Test.YtkhmaiggcihneaaDoorTxtJ
import Derived.Test.YtkhmaiggcihneaaDoorBld
import Derived.Test.YtkhmaiggcihneaaDoorTxtK
import Derived.Test.YtkhmaiggcihneaaDoorTxtQ
namespace Go.Proofs.YtkhmaiggcihneaaDoor
open Go.RowKit

theorem str_enc {r : Int} (h : RuneOk r) : Utf8.encode r = strOfNums (encL r) := by
  obtain ⟨h0, h1, h2⟩ := h
  have hv : Utf8.valid r = true := by unfold Utf8.valid; simp; omega
  obtain ⟨n, rfl⟩ : ∃ n : Nat, r = (n : Int) := ⟨r.toNat, by omega⟩
  have e : ∀ a : Nat, UInt8.ofNat a = UInt8.ofNat ((a : Int).toNat) := fun a => by rw [Int.toNat_natCast]
  unfold Utf8.encode encL
  simp only [hv, if_true, Int.toNat_natCast]
  by_cases a : n < 128
  · rw [if_pos a, if_pos (by omega)]; unfold strOfNums; simp
  · by_cases b : n < 2048
    · rw [if_neg a, if_pos b, if_neg (by omega), if_pos (by omega)]
      have e1 : ((192 : Int) + (n : Int) / 64) = ((192 + n / 64 : Nat) : Int) := by omega
      have e2 : ((128 : Int) + (n : Int) % 64) = ((128 + n % 64 : Nat) : Int) := by omega
      rw [e1, e2]; unfold strOfNums
      simp only [List.map_cons, List.map_nil, Int.toNat_natCast]
    · by_cases c : n < 65536
      · rw [if_neg a, if_neg b, if_pos c, if_neg (by omega), if_neg (by omega), if_pos (by omega)]
        have e1 : ((224 : Int) + (n : Int) / 4096) = ((224 + n / 4096 : Nat) : Int) := by omega
        have e2 : ((128 : Int) + (n : Int) / 64 % 64) = ((128 + n / 64 % 64 : Nat) : Int) := by omega
        have e3 : ((128 : Int) + (n : Int) % 64) = ((128 + n % 64 : Nat) : Int) := by omega
        rw [e1, e2, e3]; unfold strOfNums
        simp only [List.map_cons, List.map_nil, Int.toNat_natCast]
      · rw [if_neg a, if_neg b, if_neg c, if_neg (by omega), if_neg (by omega), if_neg (by omega)]
        have e1 : ((240 : Int) + (n : Int) / 262144) = ((240 + n / 262144 : Nat) : Int) := by omega
        have e2 : ((128 : Int) + (n : Int) / 4096 % 64) = ((128 + n / 4096 % 64 : Nat) : Int) := by omega
        have e3 : ((128 : Int) + (n : Int) / 64 % 64) = ((128 + n / 64 % 64 : Nat) : Int) := by omega
        have e4 : ((128 : Int) + (n : Int) % 64) = ((128 + n % 64 : Nat) : Int) := by omega
        rw [e1, e2, e3, e4]; unfold strOfNums
        simp only [List.map_cons, List.map_nil, Int.toNat_natCast]

theorem hexL_bytes (n : Nat) : ∀ z ∈ hexL n, 0 ≤ z ∧ z ≤ 255 := fun z hz => by have := hexL_bd n z hz; omega
theorem quoteR_byte {r : Int} (h : RuneOk r) : ∀ z ∈ quoteR r, 0 ≤ z ∧ z ≤ 255 := by
  intro z hz
  unfold quoteR at hz
  repeat' split at hz
  all_goals try (simp at hz; omega)
  · rename_i hr
    simp only [List.mem_append, List.mem_cons, List.not_mem_nil, or_false] at hz
    rcases hz with (hz | hz) | hz
    · omega
    · exact hexL_bytes _ z hz
    · omega
  · exact encL_byte h.1 h.2.1 z hz

set_option maxRecDepth 100000 in
set_option maxHeartbeats 4000000 in
theorem printed_any (r : Int) (hr : RuneOk r) (w : World) (env : Env w) : Calls Tryd.prog 27 #[.int .i32 r] w fun e w' => e = .returned (.string (strOfNums (quoteR r))) ∧ Below w.heap.size w w' := by
  obtain ⟨q, hq⟩ : ∃ q, plainB r = q := ⟨_, rfl⟩
  have RP := Lib.hid (fun w => tplain_is hq w)
  cases q with
  | true =>
    have henc := str_enc hr
    have hres : Hid (strOfNums (encL r) = strOfNums (quoteR r)) := by
      unfold Hid quoteR
      unfold plainB at hq
      simp only [Bool.and_eq_true, decide_eq_true_eq] at hq
      rw [if_neg (by omega), if_neg (by omega), if_neg (by omega), if_neg (by omega), if_neg (by omega)]
    generalize strOfNums (encL r) = R at henc hres
    clear hq hr env
    go_enter Tryd.func27, Tryd.ntmps27
    go_wp2_with (go_at_call 35; (with_reducible refine (RP.out _).mono ?_); rintro e w1 ⟨rfl, rfl⟩)
    go_ret
    exact ⟨by rw [← hres.out]; rfl, Below.refl _ _⟩
  | false =>
    have hnp : r < 32 ∨ r = 127 ∨ r = 34 ∨ r = 92 := by
      unfold plainB at hq
      simp at hq; omega
    clear hq
    by_cases h10 : r = 10
    · subst h10
      clear hr env hnp
      go_enter Tryd.func27, Tryd.ntmps27
      go_wp2_with (go_at_call 35; (with_reducible refine (RP.out _).mono ?_); rintro e w1 ⟨rfl, rfl⟩)
      go_ret
      exact ⟨rfl, Below.refl _ _⟩
    by_cases h9 : r = 9
    · subst h9
      clear hr env hnp
      go_enter Tryd.func27, Tryd.ntmps27
      go_wp2_with (go_at_call 35; (with_reducible refine (RP.out _).mono ?_); rintro e w1 ⟨rfl, rfl⟩)
      go_ret
      exact ⟨rfl, Below.refl _ _⟩
    by_cases h34 : r = 34
    · subst h34
      clear hr env hnp
      go_enter Tryd.func27, Tryd.ntmps27
      go_wp2_with (go_at_call 35; (with_reducible refine (RP.out _).mono ?_); rintro e w1 ⟨rfl, rfl⟩)
      go_ret
      exact ⟨rfl, Below.refl _ _⟩
    by_cases h92 : r = 92
    · subst h92
      clear hr env hnp
      go_enter Tryd.func27, Tryd.ntmps27
      go_wp2_with (go_at_call 35; (with_reducible refine (RP.out _).mono ?_); rintro e w1 ⟨rfl, rfl⟩)
      go_ret
      exact ⟨rfl, Below.refl _ _⟩
    · have hsm : r < 32 ∨ r = 127 := by omega
      obtain ⟨n, rfl⟩ : ∃ n : Nat, r = (n : Int) := ⟨r.toNat, by have := hr.1; omega⟩
      have HF := Lib.hid (fint16_any n (by omega) w env)
      have hlen := hexL_len n 1 (by omega)
      have hsz : (strOfNums (hexL n)).size ≤ 2 := by rw [strOfNums_size]; exact hlen
      have hres : Hid (⟨#[92, 117, 123]⟩ ++ strOfNums (hexL n) ++ ⟨#[125]⟩ = strOfNums (quoteR (n : Int))) := by
        unfold Hid quoteR
        rw [if_neg h34, if_neg h92, if_neg h10, if_neg h9, if_pos hsm, ← strOfNums_append, ← strOfNums_append, Int.toNat_natCast]
        rfl
      have e10 : ((n : Int) == 10) = false := by simpa using h10
      have e9 : ((n : Int) == 9) = false := by simpa using h9
      have e34 : ((n : Int) == 34) = false := by simpa using h34
      have e92 : ((n : Int) == 92) = false := by simpa using h92
      have hw : IntKind.i64.wrap (n : Int) = (n : Int) := by rw [IntKind.wrap_i64]; omega
      generalize strOfNums (hexL n) = R at HF hsz hres
      have b1 : ¬ 9223372036854775807 < (⟨#[92, 117, 123]⟩ : ByteArray).size + R.size := by
        have : (⟨#[92, 117, 123]⟩ : ByteArray).size = 3 := rfl
        omega
      have b2 : ¬ 9223372036854775807 < ((⟨#[92, 117, 123]⟩ : ByteArray) ++ R).size + (⟨#[125]⟩ : ByteArray).size := by
        have : (⟨#[92, 117, 123]⟩ : ByteArray).size = 3 := rfl
        have : (⟨#[125]⟩ : ByteArray).size = 1 := rfl
        rw [ByteArray.size_append]; omega
      clear h10 h9 h34 h92 hnp hsm hr env hlen
      go_enter Tryd.func27, Tryd.ntmps27
      go_wp2_with (first
        | (go_at_call 35; (with_reducible refine (RP.out _).mono ?_); rintro e w1 ⟨rfl, rfl⟩)
        | (go_at_call 36; (with_reducible refine HF.out.mono ?_); rintro e w1 ⟨rfl, g⟩; have G := Lib.hid g; clear g))
      go_ret
      exact ⟨by rw [← hres.out]; rfl, G.out⟩

theorem BldF.below {B b : Nat} {xs : List Value} {w w' : World} (h : BldF B b xs w) (g : Below w.heap.size w w') : BldF B b xs w' := by
  have key : ∀ p, Lib.BuilderAtF 38 5 B b p xs w → Lib.BuilderAtF 38 5 B b p xs w' := by
    rintro p ⟨hB, v, hb, ho, hn⟩
    refine ⟨hB, v, (g.block _ (Array.getElem?_eq_some_iff.1 hb).1).trans hb, ⟨ho.1, ?_⟩, hn⟩
    rcases ho.2 with hx | ⟨x, cap, cur, fz, hv, hbg, hg, rest⟩
    · exact Or.inl hx
    · exact Or.inr ⟨x, cap, cur, fz, hv, hbg, (g.block _ (Array.getElem?_eq_some_iff.1 hg).1).trans hg, rest⟩
  exact h.elim (fun x => Or.inl (key _ x)) (fun x => Or.inr (key _ x))
theorem BldF.lt {B b : Nat} {xs : List Value} {w : World} (h : BldF B b xs w) : b < w.heap.size := h.elim (fun x => x.lt) (fun x => x.lt)

theorem tquote_bad (s : ByteArray) (w : World) (env : Env w) (hm : s.size ≤ 4294967296) (h : ¬ GoodL (runesOf (nums s))) : Calls Tryd.prog 18 #[.string s] w fun e w' => e = .returned (.tuple #[.string ⟨#[]⟩, .int .i64 5]) ∧ Below w.heap.size w w' := by
  have RG := Lib.hid (tgood_no env hm h)
  clear h env
  go_enter Tryd.func18, Tryd.ntmps18
  go_wp2_with (go_at_call 10; (with_reducible refine RG.out.mono ?_); rintro e w1 ⟨rfl, g⟩; have G := Lib.hid g; clear g)
  go_ret2
  exact ⟨rfl, G.out⟩
theorem tquote_long (s : ByteArray) (w : World) (env : Env w) (hm : s.size ≤ 4294967296) (h : GoodL (runesOf (nums s))) (hl : 120 < (runesOf (nums s)).length) : Calls Tryd.prog 18 #[.string s] w fun e w' => e = .returned (.tuple #[.string ⟨#[]⟩, .int .i64 9]) ∧ Below w.heap.size w w' := by
  have RG := Lib.hid (tgood_yes env hm h)
  have RC := Lib.hid (fun w => tcount_big s w (by omega))
  generalize (runesOf (nums s)).length = n at RC hl
  have hn : (120 : Int) < (n : Int) := by omega
  clear h env hl
  go_enter Tryd.func18, Tryd.ntmps18
  go_wp2_with (first
    | (go_at_call 10; (with_reducible refine RG.out.mono ?_); rintro e w1 ⟨rfl, g⟩; have G := Lib.hid g; clear g)
    | (go_at_call 9; (with_reducible refine (RC.out _).mono ?_); rintro e w2 ⟨rfl, g2⟩; have G2 := Lib.hid (below_step G.out g2); clear g2))
  go_ret2
  exact ⟨rfl, G2.out⟩

set_option maxRecDepth 100000 in
set_option maxHeartbeats 8000000 in
theorem tquote_fine (s : ByteArray) (w : World) (env : Env w) (hm : s.size ≤ 4294967296) (h : GoodL (runesOf (nums s))) (hl : (runesOf (nums s)).length ≤ 120) : Calls Tryd.prog 18 #[.string s] w fun e w' => e = .returned (.tuple #[.string (strOfNums (quoteL (runesOf (nums s)))), .int .i64 0]) ∧ Below w.heap.size w w' := by
  have hlen : Hid ((nums s).length = s.size) := nums_length s
  have HE := Lib.hid env
  have RG := Lib.hid (tgood_yes env hm h)
  have RC := Lib.hid (fun w => tcount_big s w (by omega))
  have HOK := Lib.hid (good_ok h)
  obtain ⟨l, hll⟩ : ∃ l, runesOf (nums s) = l := ⟨_, rfl⟩
  rw [hll] at HOK RC hl ⊢
  have HL := Lib.hid hll
  have H120 := Lib.hid hl
  have hn : ¬ (120 : Int) < (l.length : Int) := by omega
  obtain ⟨B, hB⟩ : ∃ B, w.heap.size = B := ⟨_, rfl⟩
  have HB := Lib.hid hB
  clear h env hl hll hB
  go_enter Tryd.func18, Tryd.ntmps18
  go_wp2_with (first
    | (go_at_call 10; (with_reducible refine RG.out.mono ?_); rintro e w1 ⟨rfl, g⟩; have G := Lib.hid g; clear g)
    | (go_at_call 9; (with_reducible refine (RC.out _).mono ?_); rintro e w2 ⟨rfl, g2⟩; have G2 := Lib.hid (HB.out ▸ below_step G.out g2 : Below B w w2); have S2 := Lib.hid (show B ≤ w2.heap.size by have := G2.out.size; have := HB.out; omega); have NB := Lib.hid (bld_new w2 B w2.heap.size rfl S2.out); have NW := Lib.hid (G2.out.alloc S2.out (.cells #[.pointer none, .slice none 0 0] 38)); have NS := Lib.hid (show B ≤ (w2.alloc (.cells #[.pointer none, .slice none 0 0] 38)).heap.size by have := S2.out; simp; omega); clear g2)
    | (go_at_call 25; (with_reducible refine (wbyte_any B w2.heap.size [] 34 _ NB.out (by decide) NS.out).mono ?_); rintro e w3 ⟨rfl, h3, b3, k3⟩; have H3 := Lib.hid h3; have B3 := Lib.hid (NW.out.trans b3); clear h3 b3 k3))
  obtain ⟨b, hb⟩ : ∃ b, w2.heap.size = b := ⟨_, rfl⟩
  rw [hb] at H3 ⊢
  have hlt := H3.out.lt
  obtain ⟨I, hI⟩ : ∃ I, w3.heap.size = I := ⟨_, rfl⟩
  rw [hI] at hlt ⊢
  have hIb : Hid (I ≠ b) := (by omega : I ≠ b)
  have hBI : Hid (B ≤ I) := by have := B3.out.size; have := HB.out; unfold Hid; omega
  have H4 : Hid (BldF B b (u8s [34]) (w3.iter s 0)) := H3.out.alloc _
  have B4 : Hid (Below B w (w3.iter s 0)) := B3.out.alloc (by rw [hI]; exact hBI.out) _
  have I4 : Hid ((w3.iter s 0).heap[I]? = some (.stringIter s 0)) := by rw [← hI]; exact World.iter_heap w3 s 0
  generalize w3.iter s 0 = w4 at H4 B4 I4 ⊢
  clear hlt hI hb H3 B3 NB NW NS
  go_loopw [] (fun wr => ∃ (pos i : Nat), pos ≤ s.size ∧ rfrom (nums s) pos = l.drop i ∧ i ≤ l.length ∧ BldF B b (u8s ([34] ++ quoteB (l.take i))) wr ∧ wr.heap[I]? = some (.stringIter s pos) ∧ Below B w wr) (fun wr => s.size - wr.iterPos I)
  case atStart => exact ⟨0, 0, Nat.zero_le _, HL.out, Nat.zero_le _, H4.out, I4.out, B4.out⟩
  case round =>
    obtain ⟨pos, i, hp, hr, hil, hS, hk, hb⟩ := hrel
    have HR := Lib.hid hr
    have HB0 := Lib.hid hb
    have HS0 := Lib.hid hS
    clear hr hb hS
    by_cases h1 : pos < s.size
    · obtain ⟨y, hnx, y0, y1, ht⟩ := txt_rune wr I s pos hk h1
      have hR : rfrom (nums s) pos = runeA (nums s) pos :: rfrom (nums s) (pos + widA (nums s) pos) := rfrom_in (by rw [hlen.out]; exact h1)
      obtain ⟨hi0, hz, hr2⟩ := drop_cons (HR.out.symm.trans hR)
      have hmem : l.getD i 0 ∈ l := by rw [List.getD_eq_getElem?_getD, List.getElem?_eq_getElem hi0]; exact List.getElem_mem hi0
      have hzy : l.getD i 0 = y := by
        rcases ht with ⟨e1, _⟩ | ⟨_, e2⟩
        · have := (HOK.out _ hmem).1; rw [hz, e1] at this; omega
        · rw [e2, ← hz]
      have hok : RuneOk y := by rw [← hzy]; exact HOK.out _ hmem
      have HRO := Lib.hid hok
      have HR2 := Lib.hid hr2.symm
      have hwid := Lib.hid (widA_pos (nums s) pos)
      have hwin := Lib.hid (widA_in (zs := nums s) (i := pos) (by rw [hlen.out]; exact h1))
      have HB1 := Lib.hid (Lib.below_iterAt HB0.out hBI.out s (pos + widA (nums s) pos))
      have hk2 := Lib.hid (Lib.iterAt_heap wr I s pos (pos + widA (nums s) pos) hk)
      have hk0 := Lib.hid hk
      have HS := Lib.hid (Lib.IsBuilderF.iterAt HS0.out hk (pos + widA (nums s) pos))
      have hi : Hid (i < l.length) := hi0
      have hbyte := Lib.hid (quoteR_byte hok)
      have hnew : Hid (([34] ++ quoteB (l.take i)) ++ quoteR y = [34] ++ quoteB (l.take (i + 1))) := by unfold Hid; rw [take_snoc hi0, quoteB_snoc, hzy, List.append_assoc]
      have hsz : Hid (([34] ++ quoteB (l.take i)).length + (quoteR y).length ≤ 140737488355328) := by
        have h5 := quoteB_len (l := l.take i) (fun z hz => by have := HOK.out z (List.mem_of_mem_take hz); have h6 := this.1; have h7 := this.2.1; omega)
        have h6 := quoteR_len hok.2.1
        have h7 := H120.out
        rw [List.length_take] at h5
        unfold Hid
        rw [List.length_append]
        simp only [List.length_cons, List.length_nil]
        omega
      generalize [34] ++ quoteB (l.take i) = zs at HS hnew hsz
      clear ht hz hr2 hR hi0 hk hzy hok hmem HS0
      obtain ⟨p2, hp2⟩ : ∃ p, pos + widA (nums s) pos = p := ⟨_, rfl⟩
      rw [hp2] at hnx HB1 hk2 HR2 hwin HS
      have hlt : Hid (pos < p2) := by have := hwid.out; unfold Hid; omega
      have hle : Hid (p2 ≤ s.size) := by have := hwin.out; rw [hlen.out] at this; exact this
      clear hp2 hwid hwin
      generalize wr.iterAt I s p2 = W1 at hnx HB1 hk2 HS
      have HP := Lib.hid (printed_any y HRO.out W1 (HE.out.step (HB.out ▸ HB1.out)))
      go_wp2_with (first
        | (go_at_call 27; (with_reducible refine HP.out.mono ?_); rintro e w5 ⟨rfl, g5⟩; have H5 := Lib.hid (BldF.below HS.out g5); have I5 := Lib.hid ((g5.block I (Array.getElem?_eq_some_iff.1 hk2.out).1).trans hk2.out); have B5 := Lib.hid (HB1.out.trans (g5.mono (by have := HB1.out.size; have := HB.out; omega))); have S5 := Lib.hid (show B ≤ w5.heap.size by have := B5.out.size; have := HB.out; omega); clear g5)
        | (go_at_call 26; (with_reducible refine (wstr_any B b zs (quoteR y) hbyte.out _ H5.out hsz.out S5.out).mono ?_); rintro e w6 ⟨rfl, h6, b6, k6⟩; have H6 := Lib.hid h6; have I6 := Lib.hid (Lib.OthersKept.iter k6 I5.out hIb.out); have B6 := Lib.hid (B5.out.trans b6); clear h6 b6 k6))
      rw [hnew.out] at H6
      go_roundw
      case rel => exact ⟨p2, i + 1, hle.out, HR2.out, hi.out, H6.out, I6.out, B6.out⟩
      case measure => rw [iterPos_of I6.out, iterPos_of hk0.out]; have := hlt.out; have := hle.out; omega
    · have hend : i = l.length := by
        have h5 := HR.out
        rw [rfrom_out (by rw [hlen.out]; exact h1)] at h5
        have h6 := congrArg List.length h5
        rw [List.length_drop] at h6
        simp at h6; omega
      have hnx := fun ty => Lib.run_next_end_at (P := Tryd.prog) wr I s pos ty hk h1
      subst hend
      rw [List.take_length] at HS0
      have hsz : Hid (([34] ++ quoteB l).length + 1 ≤ 140737488355328) := by
        have h5 := quoteB_len (l := l) (fun z hz => by have := HOK.out z hz; have h6 := this.1; have h7 := this.2.1; omega)
        have h7 := H120.out
        unfold Hid
        rw [List.length_append]
        simp only [List.length_cons, List.length_nil]
        omega
      have hbyte : Hid (∀ z ∈ quoteL l, 0 ≤ z ∧ z ≤ 255) := by
        unfold Hid quoteL
        intro z hz
        rcases List.mem_append.mp hz with hz | hz
        · rcases List.mem_append.mp hz with hz | hz
          · obtain rfl : z = 34 := by simpa using hz
            omega
          · obtain ⟨r, hr, hz⟩ := List.mem_flatMap.mp hz
            exact quoteR_byte (HOK.out r hr) z hz
        · obtain rfl : z = 34 := by simpa using hz
          omega
      have HW := Lib.hid (wbyte_any B b ([34] ++ quoteB l) 34 wr HS0.out hsz.out (by have := HB0.out.size; have := HB.out; omega))
      have HT := Lib.hid (fun w' (h : BldF B b (u8s (quoteL l)) w') (g : Below B w w') => bstr_any B b (quoteL l) hbyte.out w' h (by have := g.size; have := HB.out; omega))
      change Hid (Calls _ _ _ _ (fun e w' => e = .returned .nilIface ∧ BldF B b (u8s (quoteL l)) w' ∧ Below B wr w' ∧ Lib.OthersKept 5 (some b) wr w')) at HW
      obtain ⟨zs, hzs⟩ : ∃ zs, quoteL l = zs := ⟨_, rfl⟩
      rw [hzs] at HW HT
      have HZS := Lib.hid hzs
      clear hzs
      clear hk
      go_wp2_with (first
        | (go_at_call 25; (with_reducible refine HW.out.mono ?_); rintro e w5 ⟨rfl, h5, b5, k5⟩; have H5 := Lib.hid h5; have B5 := Lib.hid (HB0.out.trans b5); clear h5 b5 k5)
        | (go_at_call 28; (with_reducible refine (HT.out _ H5.out B5.out).mono ?_); rintro e w6 ⟨rfl, h6, b6, k6⟩; have B6 := Lib.hid (B5.out.trans b6); clear h6 b6 k6))
      go_ret2
      exact ⟨by rw [HZS.out]; rfl, HB.out ▸ B6.out⟩

end Go.Proofs.YtkhmaiggcihneaaDoor
