/-
  Package layout's printer: what it holds (its builder lies at its front), and a line: walked.
-/
import Derived.Test.YtmgimkokmlcllaaGreatDoorPkLaya
import Derived.Test.YtmgimkokmlcllaaGreatDoorPkTxtp
import Derived.Test.YtmgimkokmlcllaaGreatDoorPkTrem
import Derived.Test.YtmgimkokmlcllaaGreatDoorPkMixs
import Derived.Test.YtmgimkokmlcllaaGreatDoorPkEnvs
import Derived.Deep.QuietTactic
import Derived.Test.YtmgimkokmlcllaaGreatDoorPkScnMA
import Derived.Test.YtmgimkokmlcllaaGreatDoorPkTrep
import Derived.Test.YtmgimkokmlcllaaGreatDoorPkLayf
namespace Go.Proofs.YtmgimkokmlcllaaGreatDoor
open Go.RowKit

structure PrF (B b : Nat) (op : Int) (zs : List Int) (w : World) : Prop where
  hB : B ≤ b
  ex : ∃ p v, (p = .pointer none ∨ p = .pointer (some ⟨b, 0, none⟩)) ∧ w.heap[b]? = some (.cells #[p, v, .int .i64 op] 45 (0, 0)) ∧ w.ownsRowF B 5 1 v zs.length (u8s zs) ∧ v.ownBlock ≠ some b
theorem PrF.lt {B b : Nat} {op : Int} {zs : List Int} {w : World} (h : PrF B b op zs w) : b < w.heap.size := by
  obtain ⟨_, p, v, _, hb, _⟩ := h
  exact (Array.getElem?_eq_some_iff.1 hb).1
theorem PrF.open_ {B b : Nat} {op : Int} {zs : List Int} {w : World} (h : PrF B b op zs w) : w.cell? ⟨b, 2, none⟩ = some (.int .i64 op) ∧ ∀ o, w.frozen? ⟨b, o, none⟩ = false := by
  obtain ⟨_, p, v, _, hb, _⟩ := h
  exact ⟨by rw [Lib.cell_of_heap hb]; rfl, fun o => Lib.frozen_of_heap hb o⟩
theorem PrF.put2 {B b : Nat} {op : Int} {zs : List Int} {w : World} (h : PrF B b op zs w) (y : Int) : PrF B b y zs (w.setCell ⟨b, 2, none⟩ (.int .i64 y)) := by
  obtain ⟨hB, p, v, hp, hb, ho, hn⟩ := h
  exact ⟨hB, p, v, hp, by simp [World.setCell, Array.getElem?_modify, hb], own_put ho hn _ _, hn⟩
theorem PrF.new (w : World) (B b : Nat) (hb : b = w.heap.size) (hB : B ≤ b) : PrF B b 0 [] (w.alloc (.cells #[.pointer none, .slice none 0 0, .int .i64 0] 45)) := by
  subst hb
  exact ⟨hB, .pointer none, .slice none 0 0, Or.inl rfl, heap_alloc_new w _, World.ownsRowF_nil _ _ _ _, (by intro h; cases h)⟩
theorem PrF.stay {B b : Nat} {op : Int} {zs : List Int} {w w' : World} (h : PrF B b op zs w) (hs : ∀ k, k < w.heap.size → B ≤ k → (k = b ∨ ∃ cur fz, w.heap[k]? = some (.cells cur 5 fz)) → w'.heap[k]? = w.heap[k]?) : PrF B b op zs w' := by
  have hlt := h.lt
  obtain ⟨hB, p, v, hp, hb, ho, hn⟩ := h
  refine ⟨hB, p, v, hp, (hs b hlt hB (Or.inl rfl)).trans hb, ⟨ho.1, ?_⟩, hn⟩
  rcases ho.2 with hx | ⟨g, cap, cur, fz, hv, hbg, hg, rest⟩
  · exact Or.inl hx
  · exact Or.inr ⟨g, cap, cur, fz, hv, hbg, (hs g (Array.getElem?_eq_some_iff.1 hg).1 hbg (Or.inr ⟨cur, fz, hg⟩)).trans hg, rest⟩
theorem PrF.below {B b : Nat} {op : Int} {zs : List Int} {w w' : World} (h : PrF B b op zs w) (hb : Below w.heap.size w w') : PrF B b op zs w' := h.stay (fun k hk _ _ => hb.block k hk)

set_option maxRecDepth 100000 in
theorem ccp_new (b : Nat) (w : World) (h0 : w.cell? ⟨b, 0, none⟩ = some (.pointer none)) (hsh : w.shape? b = some (45, 3)) (hfz : w.frozen? ⟨b, 0, none⟩ = false) :
    Calls Tryz.prog 90 #[.pointer (some ⟨b, 0, none⟩)] w fun e w' => e = .returned (.tuple #[]) ∧ w' = w.setCell ⟨b, 0, none⟩ (.pointer (some ⟨b, 0, none⟩)) := by
  obtain ⟨j, hj, hjs⟩ := Option.map_eq_some_iff.1 (show (Tryz.prog.info? 43).map (·.size) = some 2 by kernel_rfl)
  go_enter Tryz.func90, Tryz.ntmps90
  go_wp2
  rw [Lib.run_to_unsafe w ⟨b, 0, none⟩ Tryz.underlying40 Tryz.underlying136 hj (by rw [hjs]; decide) hsh (Nat.zero_lt_succ 2)]
  simp only [Result.andThen]
  rw [Oper.upon_value]
  go_wp2
  rw [run_callFunc_extern Tryz.func113 (by kernel_rfl) (by kernel_rfl) (by kernel_rfl) (e := Extern.AbiNoEscape.same) (by kernel_rfl)]
  rw [Lib.run_noEscape]
  simp only [Result.andThen]
  rw [Oper.upon_value]
  go_wp2
  rw [Lib.run_from_unsafe w ⟨b, 0, none⟩ Tryz.underlying136 Tryz.underlying40 hj hsh (by kernel_rfl)]
  simp only [Result.andThen]
  rw [Oper.upon_value]
  go_wp2
  go_end0
  exact ⟨rfl, rfl⟩
theorem ccp_any (B b : Nat) (op : Int) (zs : List Int) (w : World) (h : PrF B b op zs w) :
    Calls Tryz.prog 90 #[.pointer (some ⟨b, 0, none⟩)] w fun e w' => e = .returned (.tuple #[]) ∧ KF B b w w' ∧ B ≤ b ∧
      ∃ v, w'.heap[b]? = some (.cells #[.pointer (some ⟨b, 0, none⟩), v, .int .i64 op] 45 (0, 0)) ∧ w'.ownsRowF B 5 1 v zs.length (u8s zs) ∧ v.ownBlock ≠ some b := by
  obtain ⟨hB, p, v, hp, hb, ho, hn⟩ := h
  rcases hp with rfl | rfl
  · refine (ccp_new b w (by rw [Lib.cell_of_heap hb]; rfl) (by simp [World.shape?, hb]) (Lib.frozen_of_heap hb 0)).mono ?_
    rintro e w' ⟨rfl, rfl⟩
    exact ⟨rfl, (KF.refl B b w).put hB _ _, hB, v, by simp [World.setCell, Array.getElem?_modify, hb], own_put ho hn _ _, hn⟩
  · refine (cc_used b w (by rw [Lib.cell_of_heap hb]; rfl)).mono ?_
    rintro e w' ⟨rfl, rfl⟩
    exact ⟨rfl, KF.refl _ _ _, hB, v, hb, ho, hn⟩
set_option maxHeartbeats 2000000 in
set_option maxRecDepth 100000 in
theorem wbytep_any (B b : Nat) (op : Int) (zs : List Int) (c : Int) (w : World) (h : PrF B b op zs w) (hlen : zs.length + 1 ≤ 140737488355328) (hBw : B ≤ w.heap.size) :
    Calls Tryz.prog 61 #[.pointer (some ⟨b, 0, none⟩), .int .u8 c] w fun e w' => e = .returned .nilIface ∧ PrF B b op (zs ++ [c]) w' ∧ KF B b w w' := by
  obtain ⟨i0, hi, hz0, hz1, hz2⟩ := u8_info
  go_enter Tryz.func61, Tryz.ntmps61
  go_wp2_with (go_at_call 90; refine (ccp_any B b op zs _ h).mono ?_)
  rintro e w1 ⟨rfl, hk1, hB, v, hbk, hown, hne⟩
  have c0 : w1.cell? ⟨b, 0, none⟩ = some (.pointer (some ⟨b, 0, none⟩)) := by rw [Lib.cell_of_heap hbk]; rfl
  have c1 : w1.cell? ⟨b, 1, none⟩ = some v := by rw [Lib.cell_of_heap hbk]; rfl
  have hs1 := hk1.1.size
  go_wp2_with (at_builtin; refine wpList_append_ownF _ rfl _ _ 41 rfl B 5 i0 (.int .u8 0) 1 1 Tryz.underlying41 hi hz0 hz1 hz2 rfl (by decide) _ _ _ rfl (hown.alloc _) ⟨w1.heap.size, 0, none⟩ 1 1 [.int .u8 c] rfl rfl ?c1 ?c2 ?c3 ?c4 ?c5 ?_)
  case c1 =>
    intro j u hj
    match j, hj with
    | 0, hj => simp at hj; subst hj; simp [Addr.add]
  case c2 => intro u hu; simp at hu; subst hu; rfl
  case c3 => unfold maxLen; omega
  case c4 => omega
  case c5 => simp; omega
  intro v' w2 hown' hgrow _
  have hlt : b < w1.heap.size := (Array.getElem?_eq_some_iff.1 hbk).1
  have hb2 : w2.heap[b]? = some (.cells #[.pointer (some ⟨b, 0, none⟩), v, .int .i64 op] 45 (0, 0)) := by
    rw [hgrow.block b (by simp; omega) (fun e => hne e.symm), Lib.alloc_old w1 _ b hlt]
    exact hbk
  have d0 : w2.cell? ⟨b, 0, none⟩ = some (.pointer (some ⟨b, 0, none⟩)) := by rw [Lib.cell_of_heap hb2]; rfl
  have d1 : w2.cell? ⟨b, 1, none⟩ = some v := by rw [Lib.cell_of_heap hb2]; rfl
  have f1 : w2.frozen? ⟨b, 1, none⟩ = false := Lib.frozen_of_heap hb2 1
  have HO := Lib.hid hown'
  obtain ⟨g, cap, rfl⟩ : ∃ g cap, v' = .slice (some ⟨g, 0, none⟩) (zs.length + 1) cap := by
    rcases hown'.2 with ⟨_, h0⟩ | ⟨g, cap, cur, fz, hv, _⟩
    · omega
    · exact ⟨g, cap, hv⟩
  have hne2 := Lib.ownBlock_neF hown' hb2 (by decide)
  clear hown'
  go_wp2
  go_ret
  refine ⟨rfl, ⟨hB, _, _, Or.inr rfl, ?_, ?_, hne2⟩, ?_, ?_⟩
  · simp [World.setCell, Array.getElem?_modify, hb2]
  · have := HO.out
    rw [List.length_append, u8s_append]
    exact own_put this hne2 _ _
  · exact ((hk1.1.alloc (by omega) _).grown hgrow (by simp; omega) (fun k hk => (hown.lt k hk).1)).setCell (p := ⟨b, 1, none⟩) hB _
  · exact ((hk1.2.alloc _).grown hgrow (Lib.ownsRowF_kind (hown.alloc _))).setCell ⟨b, 1, none⟩ rfl _
set_option maxHeartbeats 2000000 in
set_option maxRecDepth 100000 in
theorem wstrp_any (B b : Nat) (op : Int) (zs ys : List Int) (hy : ∀ z ∈ ys, 0 ≤ z ∧ z ≤ 255) (w : World) (h : PrF B b op zs w) (hlen : zs.length + ys.length ≤ 140737488355328) (hBw : B ≤ w.heap.size) :
    Calls Tryz.prog 59 #[.pointer (some ⟨b, 0, none⟩), .string (strOfNums ys)] w fun e w' => e = .returned (.tuple #[.int .i64 ys.length, .nilIface]) ∧ PrF B b op (zs ++ ys) w' ∧ KF B b w w' := by
  obtain ⟨i0, hi, hz0, hz1, hz2⟩ := u8_info
  have hcells := u8s_str hy
  have hsz := str_size ys
  generalize strOfNums ys = s at hcells hsz ⊢
  have HS := Lib.hid hsz
  have HC := Lib.hid hcells
  clear hcells hsz
  go_enter Tryz.func59, Tryz.ntmps59
  go_wp2_with (go_at_call 90; refine (ccp_any B b op zs _ h).mono ?_)
  rintro e w1 ⟨rfl, hk1, hB, v, hbk, hown, hne⟩
  have c0 : w1.cell? ⟨b, 0, none⟩ = some (.pointer (some ⟨b, 0, none⟩)) := by rw [Lib.cell_of_heap hbk]; rfl
  have c1 : w1.cell? ⟨b, 1, none⟩ = some v := by rw [Lib.cell_of_heap hbk]; rfl
  have hs1 := hk1.1.size
  go_wp2_with (at_builtin; refine Lib.wpList_append_own_stringF _ rfl _ _ 41 9 rfl B 5 i0 Tryz.underlying41 Tryz.underlying9 hi hz0 hz1 hz2 _ _ _ rfl hown s rfl ?c3 ?c4 ?c5 ?_)
  case c3 => rw [HS.out]; unfold maxLen; omega
  case c4 => rw [HS.out]; omega
  case c5 => omega
  intro v' w2 hown' hgrow _
  have hlt : b < w1.heap.size := (Array.getElem?_eq_some_iff.1 hbk).1
  have hb2 : w2.heap[b]? = some (.cells #[.pointer (some ⟨b, 0, none⟩), v, .int .i64 op] 45 (0, 0)) := by
    rw [hgrow.block b hlt (fun e => hne e.symm)]
    exact hbk
  have d0 : w2.cell? ⟨b, 0, none⟩ = some (.pointer (some ⟨b, 0, none⟩)) := by rw [Lib.cell_of_heap hb2]; rfl
  have d1 : w2.cell? ⟨b, 1, none⟩ = some v := by rw [Lib.cell_of_heap hb2]; rfl
  have f1 : w2.frozen? ⟨b, 1, none⟩ = false := Lib.frozen_of_heap hb2 1
  have H' := Lib.hid hown'
  have hne2 := Lib.ownBlock_neF hown' hb2 (by decide)
  obtain ⟨ao, n', cap, rfl⟩ : ∃ ao n' cap, v' = .slice ao n' cap := by
    rcases hown'.2 with ⟨hv, _⟩ | ⟨g, cap, cur, fz, hv, _⟩
    · exact ⟨_, _, _, hv⟩
    · exact ⟨_, _, _, hv⟩
  clear hown'
  go_wp2
  go_ret2
  refine ⟨?_, ⟨hB, _, _, Or.inr rfl, ?_, ?_, hne2⟩, ?_, (hk1.2.grown hgrow (Lib.ownsRowF_kind hown)).setCell ⟨b, 1, none⟩ rfl _⟩
  · rw [HS.out]; rfl
  · simp [World.setCell, Array.getElem?_modify, hb2]
  · have := H'.out
    rw [HS.out, HC.out] at this
    rw [List.length_append, u8s_append]
    exact own_put this hne2 _ _
  · exact (hk1.1.grown hgrow (by omega) (fun k hk => (hown.lt k hk).1)).setCell (p := ⟨b, 1, none⟩) hB _

end Go.Proofs.YtmgimkokmlcllaaGreatDoor

/-
  Package layout's printer writes a line: walked.
-/
namespace Go.Proofs.YtmgimkokmlcllaaGreatDoor
open Go.RowKit

theorem ind_any (x : Int) (d : Nat) (w : World) (hx : x = ((d - 1 : Nat) : Int)) (hd : d ≤ 4) :
    Calls Tryz.prog 60 #[.string ⟨#[32, 32]⟩, .int .i64 x] w fun e w' => e = .returned (.string (strOfNums (indP d))) ∧ Below w.heap.size w w' := by
  subst hx
  refine (Tryz.strings_Repeat ⟨#[32, 32]⟩ (d - 1) w (by omega) (by show 2 * (d - 1) ≤ _; omega)).mono ?_
  rintro e w' ⟨rfl, g⟩
  refine ⟨?_, g⟩
  have : d = 0 ∨ d = 1 ∨ d = 2 ∨ d = 3 ∨ d = 4 := by omega
  rcases this with rfl | rfl | rfl | rfl | rfl <;> rfl
def PartsIs (w : World) (v : Value) (ps : List (List Int)) : Prop :=
  ∃ a cap, v = .slice a ps.length cap ∧ ps.length ≤ cap ∧ ∀ i, i < ps.length → ∃ pb off c fz, a = some ⟨pb, off, none⟩ ∧ w.heap[pb]? = some (.cells c 9 fz) ∧ w.cell? ⟨pb, off + i, none⟩ = some (.string (strOfNums (ps.getD i [])))
theorem PartsIs.size {w : World} {v : Value} {ps : List (List Int)} (h : PartsIs w v ps) : ∃ a cap, v = .slice a ps.length cap := by
  obtain ⟨a, cap, e, _⟩ := h; exact ⟨a, cap, e⟩
theorem PartsIs.keep {w w' : World} {v : Value} {ps : List (List Int)} (h : PartsIs w v ps) (hs : ∀ (k : Nat) (c : Array Value) (fz : Nat × Nat), w.heap[k]? = some (Obj.cells c 9 fz) → w'.heap[k]? = w.heap[k]?) : PartsIs w' v ps := by
  obtain ⟨a, cap, rfl, hc, hcell⟩ := h
  refine ⟨a, cap, rfl, hc, fun i hi => ?_⟩
  obtain ⟨pb, off, c, fz, rfl, h1, h2⟩ := hcell i hi
  have e := hs pb c fz h1
  exact ⟨pb, off, c, fz, rfl, e.trans h1, (World.cell?_of_block (a := ⟨pb, off + i, none⟩) e).trans h2⟩
theorem PartsIs.kf {B b : Nat} {w w' : World} {v : Value} {ps : List (List Int)} (h : PartsIs w v ps) (hk : KF B b w w') (hb : ∀ (c : Array Value) (fz : Nat × Nat), w.heap[b]? ≠ some (Obj.cells c 9 fz)) : PartsIs w' v ps :=
  h.keep (fun k c fz e => by
    rw [e]
    exact hk.2 k _ e (fun x => by cases x; exact hb c fz e) (fun c' fz' x => by cases x))
theorem PrF.nostr {B b : Nat} {op : Int} {zs : List Int} {w : World} (h : PrF B b op zs w) : ∀ (c : Array Value) (fz : Nat × Nat), w.heap[b]? ≠ some (Obj.cells c 9 fz) := fun c fz e => by
  obtain ⟨_, p, v, _, hb, _⟩ := h
  rw [hb] at e
  cases e
theorem KF.of {B b : Nat} {w w' : World} (h : Below w.heap.size w w') (hB : B ≤ w.heap.size) : KF B b w w' := ⟨h.mono hB, fun k _ hk _ _ => (h.block k (Array.getElem?_eq_some_iff.1 hk).1).trans hk⟩
theorem flat_take {ps : List (List Int)} {i : Nat} (h : i < ps.length) : (ps.take (i + 1)).flatten = (ps.take i).flatten ++ ps.getD i [] := by
  rw [List.take_add_one, List.getD_eq_getElem?_getD, List.getElem?_eq_getElem h, List.flatten_append]
  simp
theorem flat_take_len (ps : List (List Int)) (i : Nat) : (ps.take i).flatten.length ≤ ps.flatten.length := by
  have e : ps.flatten = (ps.take i).flatten ++ (ps.drop i).flatten := by rw [← List.flatten_append, List.take_append_drop]
  rw [e, List.length_append]; omega
theorem ind_bytes (d : Nat) : ∀ z ∈ indP d, 0 ≤ z ∧ z ≤ 255 := fun z hz => by
  have := List.eq_of_mem_replicate hz; omega
theorem ind_len (d : Nat) : (indP d).length = 2 * (d - 1) := by unfold indP; simp

set_option maxRecDepth 100000 in
set_option maxHeartbeats 8000000 in
theorem lline_any (B b : Nat) (op : Int) (zs : List Int) (d : Nat) (v : Value) (ps : List (List Int)) (w : World) (h : PrF B b op zs w) (hp : PartsIs w v ps) (hd1 : 1 ≤ d) (hd4 : d ≤ 4) (hby : ∀ p ∈ ps, ∀ z ∈ p, 0 ≤ z ∧ z ≤ 255) (hlen : zs.length + ps.flatten.length ≤ 100000000000) (hps : ps.length ≤ 1000000) (hBw : B ≤ w.heap.size) :
    Calls Tryz.prog 38 #[.pointer (some ⟨b, 0, none⟩), .int .i64 (d : Int), v] w fun e w' => e = .returned (.tuple #[]) ∧ PrF B b op (zs ++ (indP d ++ (ps.flatten ++ [10]))) w' ∧ KF B b w w' := by
  obtain ⟨a, cap, rfl⟩ := hp.size
  obtain ⟨n, hn⟩ : ∃ n, ps.length = n := ⟨_, rfl⟩
  obtain ⟨d1, hd⟩ : ∃ x, d - 1 = x := ⟨_, rfl⟩
  have hw1 : IntKind.i64.wrap ((d : Int) - 1) = (d1 : Int) := by rw [IntKind.wrap_i64]; omega
  have hI := ind_any (d1 : Int) d
  obtain ⟨I, hI2⟩ : ∃ I, strOfNums (indP d) = I := ⟨_, rfl⟩
  rw [hI2] at hI
  have HI := Lib.hid (fun W => hI W (by rw [hd]) hd4)
  have HI2 := Lib.hid hI2
  have HN := Lib.hid hn
  have HH := Lib.hid h
  have HP := Lib.hid hp
  have HBY := Lib.hid hby
  have HLEN := Lib.hid hlen
  have hil : (indP d).length ≤ 6 := by rw [ind_len]; omega
  have HIL := Lib.hid hil
  have HWI : Hid (∀ W, Below w.heap.size w W → Calls Tryz.prog 59 #[.pointer (some ⟨b, 0, none⟩), .string I] W fun e w' => e = .returned (.tuple #[.int .i64 (indP d).length, .nilIface]) ∧ PrF B b op (zs ++ indP d) w' ∧ KF B b W w') := Lib.hid (fun W hb => by
    have := wstrp_any B b op zs (indP d) (ind_bytes d) W (h.below hb) (by omega) (by have := hb.size; omega)
    rw [hI2] at this
    exact this)
  rw [hn] at hps ⊢
  clear h hp hby hlen hn hI hI2 hd
  go_enter Tryz.func38, Tryz.ntmps38
  go_wp2
  refine wp_region_mix 6 (TLst [.pointer (some ⟨b, 0, none⟩), .pointer (some ⟨b, 0, none⟩), .pointer (some ⟨b, 0, none⟩), .int .i64 (d : Int), .int .i64 (d1 : Int), .string I]) (fun _ => false) (by kernel_rfl) (by kernel_rfl) (fun _ _ _ _ h _ => h) (fun _ _ _ h => by cases h) ?_ ?_
  · simp only [List.take_succ_cons, List.take_zero]
    refine (StepsAll.cons ?_ (StepsAll.cons ?_ (StepsAll.cons ?_ (StepsAll.cons ?_ (StepsAll.cons ?_ (StepsAll.cons ?_ StepsAll.nil))))))
    · intro u W hb hd
      simp only [putAll, Act.put, List.setIfInBounds_toArray, List.set_cons_succ, List.set_cons_zero, Nat.zero_add, Nat.reduceAdd]
      go_wp2
      first | exact ⟨rfl, Below.refl _ _⟩ | exact ⟨_, rfl, rfl, Below.refl _ _, fun h => by simp at h⟩ | exact ⟨_, rfl, rfl, Below.refl _ _⟩ | exact ⟨rfl, Below.refl _ _, fun h => by simp at h⟩
    · intro u W hb hd
      have e0 : u 0 = .pointer (some ⟨b, 0, none⟩) := hd.1 rfl (by decide)
      simp only [putAll, Act.put, List.setIfInBounds_toArray, List.set_cons_succ, List.set_cons_zero, Nat.zero_add, Nat.reduceAdd]
      rw [e0]
      go_wp2
      first | exact ⟨rfl, Below.refl _ _⟩ | exact ⟨_, rfl, rfl, Below.refl _ _, fun h => by simp at h⟩ | exact ⟨_, rfl, rfl, Below.refl _ _⟩ | exact ⟨rfl, Below.refl _ _, fun h => by simp at h⟩
    · intro u W hb hd
      have e0 : u 1 = .pointer (some ⟨b, 0, none⟩) := hd.1 rfl (by decide)
      simp only [putAll, Act.put, List.setIfInBounds_toArray, List.set_cons_succ, List.set_cons_zero, Nat.zero_add, Nat.reduceAdd]
      rw [e0]
      go_wp2
      first | exact ⟨rfl, Below.refl _ _⟩ | exact ⟨_, rfl, rfl, Below.refl _ _, fun h => by simp at h⟩ | exact ⟨_, rfl, rfl, Below.refl _ _⟩ | exact ⟨rfl, Below.refl _ _, fun h => by simp at h⟩
    · intro u W hb hd
      simp only [putAll, Act.put, List.setIfInBounds_toArray, List.set_cons_succ, List.set_cons_zero, Nat.zero_add, Nat.reduceAdd]
      go_wp2
      first | exact ⟨rfl, Below.refl _ _⟩ | exact ⟨_, rfl, rfl, Below.refl _ _, fun h => by simp at h⟩ | exact ⟨_, rfl, rfl, Below.refl _ _⟩ | exact ⟨rfl, Below.refl _ _, fun h => by simp at h⟩
    · intro u W hb hd
      have e0 : u 3 = .int .i64 (d : Int) := hd.1 rfl (by decide)
      simp only [putAll, Act.put, List.setIfInBounds_toArray, List.set_cons_succ, List.set_cons_zero, Nat.zero_add, Nat.reduceAdd]
      rw [e0]
      go_wp2
      first | exact ⟨rfl, Below.refl _ _⟩ | exact ⟨_, rfl, rfl, Below.refl _ _, fun h => by simp at h⟩ | exact ⟨_, rfl, rfl, Below.refl _ _⟩ | exact ⟨rfl, Below.refl _ _, fun h => by simp at h⟩
    · intro u W hb hd
      have e0 : u 4 = .int .i64 (d1 : Int) := hd.1 rfl (by decide)
      simp only [putAll, Act.put, List.setIfInBounds_toArray, List.set_cons_succ, List.set_cons_zero, Nat.zero_add, Nat.reduceAdd]
      rw [e0]
      go_wp2_with (go_at_call 60; (with_reducible refine (HI.out _).mono ?_); rintro e w5 ⟨rfl, g5⟩)
      first | exact ⟨rfl, g5⟩ | exact ⟨_, rfl, g5⟩ | exact ⟨_, rfl, rfl, g5⟩ | exact ⟨_, rfl, rfl, g5, fun h => by simp at h⟩
  · intro u W hb hT _
    have e0 : u 0 = .pointer (some ⟨b, 0, none⟩) := hT 0 (by decide)
    have e1 : u 1 = .pointer (some ⟨b, 0, none⟩) := hT 1 (by decide)
    have e2 : u 2 = .pointer (some ⟨b, 0, none⟩) := hT 2 (by decide)
    have e3 : u 3 = .int .i64 (d : Int) := hT 3 (by decide)
    have e4 : u 4 = .int .i64 (d1 : Int) := hT 4 (by decide)
    have e5 : u 5 = .string I := hT 5 (by decide)
    have HBW := Lib.hid hb
    clear hb hT
    simp only [List.take_succ_cons, List.take_zero, List.drop_succ_cons, List.drop_zero, putAll, Act.put, List.setIfInBounds_toArray, List.set_cons_succ, List.set_cons_zero, Nat.zero_add, Nat.reduceAdd]
    rw [e0, e1, e2, e3, e4, e5]
    clear e0 e1 e2 e3 e4 e5
    go_wp2_with (go_at_call 59; (with_reducible refine (HWI.out _ HBW.out).mono ?_); rintro e w6 ⟨rfl, p6, k6⟩; have P6 := Lib.hid p6; have K6 := Lib.hid ((KF.of (b := b) HBW.out hBw).trans k6); clear p6 k6)
    go_loopw [17] (fun v17 wr => ∃ i : Nat, i ≤ n ∧ v17 = .int .i64 (i : Int) ∧ PrF B b op (zs ++ indP d ++ (ps.take i).flatten) wr ∧ KF B b w wr) (fun v17 _ => n - (intOf v17).toNat)
    case atStart => exact ⟨0, Nat.zero_le _, rfl, by simpa using P6.out, K6.out⟩
    case round =>
      obtain ⟨i, hi, rfl, hpr, hkr⟩ := hrel
      have HKR := Lib.hid hkr
      have HPR := Lib.hid hpr
      by_cases hin : i < n
      · have hpp := HP.out.kf hkr HH.out.nostr
        obtain ⟨a', cap', he, hc, hcell⟩ := hpp
        injection he with e1 e2 e3
        subst e1
        obtain ⟨pb, off, c, fz, rfl, h1, h2⟩ := hcell i (by rw [HN.out]; exact hin)
        have hmem : ps.getD i [] ∈ ps := by
          rw [List.getD_eq_getElem?_getD, List.getElem?_eq_getElem (by rw [HN.out]; exact hin)]
          exact List.getElem_mem _
        have hfl := flat_take (ps := ps) (i := i) (by rw [HN.out]; exact hin)
        have hfl2 := flat_take_len ps (i + 1)
        rw [hfl, List.length_append] at hfl2
        have hlen := HLEN.out
        have hil := HIL.out
        have HWS := Lib.hid (wstrp_any B b op (zs ++ indP d ++ (ps.take i).flatten) (ps.getD i []) (HBY.out _ hmem) wr hpr (by simp only [List.length_append]; omega) (by have := hkr.1.size; omega))
        have HFL := Lib.hid hfl
        obtain ⟨X, hX⟩ : ∃ X, strOfNums (ps.getD i []) = X := ⟨_, rfl⟩
        rw [hX] at h2 HWS
        have hi1 : IntKind.i64.wrap ((i : Int) + 1) = ((i + 1 : Nat) : Int) := by rw [IntKind.wrap_i64]; omega
        clear hcell hpr hkr hmem hfl hfl2 hlen hil hX h1 e3
        go_wp2_with (go_at_call 59; (with_reducible refine (HWS.out).mono ?_); rintro e w7 ⟨rfl, p7, k7⟩; have P7 := Lib.hid p7; have K7 := Lib.hid (HKR.out.trans k7); clear p7 k7)
        go_roundw
        case rel => exact ⟨i + 1, by omega, by go_num, by rw [HFL.out, ← List.append_assoc]; exact P7.out, K7.out⟩
        case measure => simp [intOf]; omega
      · have en : n = i := by omega
        subst en
        have hfl : (ps.take n).flatten = ps.flatten := by rw [← HN.out, List.take_length]
        rw [hfl] at hpr
        have hlen := HLEN.out
        have hil := HIL.out
        have HWB := Lib.hid (wbytep_any B b op (zs ++ indP d ++ ps.flatten) 10 wr hpr (by simp only [List.length_append]; omega) (by have := hkr.1.size; omega))
        clear hpr hkr hfl hlen hil
        go_wp2_with (go_at_call 61; (with_reducible refine (HWB.out).mono ?_); rintro e w7 ⟨rfl, p7, k7⟩; have P7 := Lib.hid p7; have K7 := Lib.hid (HKR.out.trans k7); clear p7 k7)
        go_end0
        exact ⟨rfl, by have := P7.out; simpa using this, K7.out⟩

end Go.Proofs.YtmgimkokmlcllaaGreatDoor

/-
  Package layout's printer shuts blocks, and writes an item: walked.
-/
namespace Go.Proofs.YtmgimkokmlcllaaGreatDoor
open Go.RowKit

def shutP : Nat → Nat → List Int
  | 0, _ => []
  | o + 1, d => if d ≤ o + 1 then indP (o + 1) ++ ([125, 10] ++ shutP o d) else []
theorem shutP_no {o d : Nat} (h : o < d) : shutP o d = [] := by
  cases o with
  | zero => rfl
  | succ o => rw [shutP, if_neg (by omega)]
theorem shutP_yes {o d : Nat} (h1 : 1 ≤ o) (h : d ≤ o) : shutP o d = indP o ++ ([125, 10] ++ shutP (o - 1) d) := by
  obtain ⟨n, rfl⟩ : ∃ n, o = n + 1 := ⟨o - 1, by omega⟩
  rw [shutP, if_pos h]; rfl
theorem shutP_len : ∀ (o d : Nat), o ≤ 4 → (shutP o d).length ≤ 10 * o
  | 0, d, _ => by simp [shutP]
  | o + 1, d, h => by
    rw [shutP]
    split
    · have := shutP_len o d (by omega)
      simp only [List.length_append, ind_len, List.length_cons, List.length_nil]
      omega
    · simp
def openOf (b : Nat) (w : World) : Nat := match w.cell? ⟨b, 2, none⟩ with
  | some (.int _ x) => x.toNat
  | _ => 0
theorem PrF.openOf {B b : Nat} {o : Nat} {zs : List Int} {w : World} (h : PrF B b (o : Int) zs w) : openOf b w = o := by
  unfold Proofs.YtmgimkokmlcllaaGreatDoor.openOf
  rw [h.open_.1]
  simp
theorem lit_parts (w : World) (s : List Int) (S : ByteArray) (hS : strOfNums s = S) : PartsIs (w.alloc (.cells #[.string S] 9)) (.slice (some ⟨w.heap.size, 0, none⟩) 1 1) [s] := by
  subst hS
  refine ⟨_, 1, rfl, Nat.le_refl _, fun i hi => ?_⟩
  obtain rfl : i = 0 := by simp at hi; omega
  exact ⟨w.heap.size, 0, _, _, rfl, heap_alloc_new w _, by simp⟩

set_option maxRecDepth 100000 in
set_option maxHeartbeats 8000000 in
theorem lshut_any (B b : Nat) (o0 : Nat) (zs : List Int) (d : Nat) (w : World) (h : PrF B b (o0 : Int) zs w) (hd1 : 1 ≤ d) (ho : o0 ≤ 4) (hlen : zs.length ≤ 10000000000) (hBw : B ≤ w.heap.size) :
    Calls Tryz.prog 23 #[.pointer (some ⟨b, 0, none⟩), .int .i64 (d : Int)] w fun e w' => e = .returned (.tuple #[]) ∧ PrF B b ((min o0 (d - 1) : Nat) : Int) (zs ++ shutP o0 d) w' ∧ KF B b w w' := by
  have HH := Lib.hid h
  have HLEN := Lib.hid hlen
  have HB := Lib.hid hBw
  clear h hlen hBw
  go_enter Tryz.func23, Tryz.ntmps23
  go_wp2
  go_loopw [4] (fun _ wr => ∃ (o : Nat) (X : List Int), o ≤ o0 ∧ (o = o0 ∨ d ≤ o + 1) ∧ PrF B b (o : Int) (zs ++ X) wr ∧ KF B b w wr ∧ X ++ shutP o d = shutP o0 d) (fun _ wr => openOf b wr)
  case atStart => exact ⟨o0, [], Nat.le_refl _, Or.inl rfl, by rw [List.append_nil]; exact HH.out, KF.refl _ _ _, rfl⟩
  case round =>
    obtain ⟨o, X, ho1, ho2, hpr, hkr, hX⟩ := hrel
    have HPR := Lib.hid hpr
    have HKR := Lib.hid hkr
    have HX := Lib.hid hX
    obtain ⟨c2, q2⟩ := hpr.open_
    have z2 := q2 2
    by_cases hdo : d ≤ o
    · have hdo' : (d : Int) ≤ (o : Int) := by omega
      have hXl : X.length ≤ 40 := by
        have h1 := congrArg List.length hX
        have h2 := shutP_len o0 d ho
        rw [List.length_append] at h1
        omega
      have hlen := HLEN.out
      have hB := HB.out
      obtain ⟨W1, hW1⟩ : ∃ W1, wr.alloc (.cells #[.string ⟨#[125]⟩] 9) = W1 := ⟨_, rfl⟩
      have g1 : Below wr.heap.size wr W1 := by rw [← hW1]; exact (Below.refl _ _).alloc (Nat.le_refl _) _
      have hL := lline_any B b (o : Int) (zs ++ X) o (.slice (some ⟨wr.heap.size, 0, none⟩) 1 1) [[125]] W1 (hpr.below g1) (by rw [← hW1]; exact lit_parts wr [125] _ rfl) (by omega) (by omega) (by intro p hp z hz; rw [List.mem_singleton.mp hp] at hz; rw [List.mem_singleton.mp hz]; omega)
        (by simp only [List.length_append, List.flatten_cons, List.flatten_nil, List.length_cons, List.length_nil]; omega) (by decide) (by have := hkr.1.size; have := g1.size; omega)
      have HL := Lib.hid hL
      have HK1 := Lib.hid (KF.of (B := B) (b := b) g1 (by have := hkr.1.size; omega))
      have hw : IntKind.i64.wrap ((o : Int) - 1) = ((o - 1 : Nat) : Int) := by rw [IntKind.wrap_i64]; omega
      have e1 : (W1.cell? ⟨b, 2, none⟩) = some (.int .i64 (o : Int)) := (hpr.below g1).open_.1
      clear hL g1 hpr hkr hX hXl hlen hB q2
      go_wp2_with (go_at_call 38; (with_reducible refine (HL.out).mono ?_); rintro e w2 ⟨rfl, p2, k2⟩; have P2 := Lib.hid p2; have K2 := Lib.hid ((HKR.out.trans HK1.out).trans k2); have x2 := p2.open_.1; have y2 := p2.open_.2 2; clear p2 k2)
      have hB := P2.out.hB
      go_roundw
      case rel => exact ⟨o - 1, X ++ (indP o ++ [125, 10]), by omega, by omega, by have := P2.out.put2 ((o - 1 : Nat) : Int); simpa using this, K2.out.put hB _ _, by rw [← HX.out, shutP_yes (o := o) (by omega) hdo]; simp⟩
      case measure =>
        have h1 := HPR.out.openOf
        have h2 := (P2.out.put2 ((o - 1 : Nat) : Int)).openOf
        rw [h1, h2]
        omega
    · have hdo' : ¬ (d : Int) ≤ (o : Int) := by omega
      have hom : min o0 (d - 1) = o := by omega
      have HOM := Lib.hid hom
      have hXX : X = shutP o0 d := by
        have := HX.out
        rw [shutP_no (by omega), List.append_nil] at this
        exact this
      subst hXX
      clear hpr hkr hX q2 hom
      go_wp2
      go_end0
      exact ⟨rfl, by rw [HOM.out]; exact HPR.out, HKR.out⟩

end Go.Proofs.YtmgimkokmlcllaaGreatDoor

/-
  Package layout's printer writes an item: walked.
-/
namespace Go.Proofs.YtmgimkokmlcllaaGreatDoor
open Go.RowKit

def headL (d : Nat) (nm : ByteArray) (wd : List Tk3) (bk : Bool) : List Int := indP d ++ (nums nm ++ (wordsP wd ++ (if bk then [32, 123, 10] else [59, 10])))
def strC (p : List Int) : List Value := [.string (strOfNums p)]
theorem strC_one (ps : List (List Int)) : ∀ u ∈ ps.map strC, ∀ x ∈ u, x.oneCell' = true := fun u hu x hx => by
  obtain ⟨p, _, rfl⟩ := List.mem_map.mp hu
  rw [List.mem_singleton.mp hx]; rfl
theorem info_str : (Tryz.prog.info? 9).map (fun i => (i.zero, i.size, i.bytes)) = some (some (.string ⟨#[]⟩), 1, 16) := by kernel_rfl
def partsW (nm : ByteArray) (wd : List Tk3) (i : Nat) : List (List Int) := nums nm :: (wd.take i).flatMap fun t => [[32], prT t.k t.s t.n.toNat]
theorem partsW_next {nm : ByteArray} {wd : List Tk3} {i : Nat} (h : i < wd.length) : partsW nm wd (i + 1) = partsW nm wd i ++ [[32], prT (wd.getD i {}).k (wd.getD i {}).s (wd.getD i {}).n.toNat] := by
  unfold partsW
  rw [List.take_add_one, List.getD_eq_getElem?_getD, List.getElem?_eq_getElem h, List.flatMap_append]
  simp
theorem partsW_len (nm : ByteArray) (wd : List Tk3) : ∀ i, i ≤ wd.length → (partsW nm wd i).length = 1 + 2 * i
  | 0, _ => by simp [partsW]
  | i + 1, h => by rw [partsW_next (by omega), List.length_append, partsW_len nm wd i (by omega)]; simp; omega
theorem partsW_flat (nm : ByteArray) (wd : List Tk3) : (partsW nm wd wd.length).flatten = nums nm ++ wordsP wd := by
  unfold partsW wordsP
  rw [List.take_length, List.flatten_cons]
  congr 1
  induction wd with
  | nil => rfl
  | cons t wd ih => simp [List.flatMap_cons, ih]
theorem row_parts {w : World} {base : Nat} {v : Value} {ps : List (List Int)} (h : RowK 9 1 w base v (ps.map strC)) : PartsIs w v ps := by
  obtain ⟨a, cap, hv⟩ := h.size
  rw [List.length_map] at hv
  rcases h.own.2 with ⟨rfl, h0⟩ | ⟨g, cap2, cur, rfl, hb, hg, hn, _⟩
  · rw [List.length_map] at h0
    exact ⟨none, 0, by rw [h0], by omega, fun i hi => by omega⟩
  · rw [List.length_map] at hn h
    refine ⟨some ⟨g, 0, none⟩, cap2, by rw [List.length_map], hn, fun i hi => ?_⟩
    have hc := h.at i 0 (by rw [List.length_map]; exact hi) (by decide)
    have e : (ps.map strC).getD i [] = strC (ps.getD i []) := by
      rw [List.getD_eq_getElem?_getD, List.getElem?_map, List.getElem?_eq_getElem hi, List.getD_eq_getElem?_getD, List.getElem?_eq_getElem hi]; rfl
    rw [e] at hc
    replace hc : w.cell? ⟨g, i * 1 + 0, none⟩ = some (.string (strOfNums (ps.getD i []))) := hc
    refine ⟨g, 0, cur, _, rfl, hg, ?_⟩
    have e2 : i * 1 + 0 = 0 + i := by omega
    rw [e2] at hc
    exact hc
theorem row_one (w : World) (base : Nat) (hb : base ≤ w.heap.size) (s : List Int) (S : ByteArray) (hS : strOfNums s = S) : RowK 9 1 (w.alloc (.cells #[.string S] 9)) base (.slice (some ⟨w.heap.size, 0, none⟩) 1 1) ([s].map strC) := by
  subst hS
  refine ⟨⟨by simp [strC], .inr ⟨w.heap.size, 1, #[.string (strOfNums s)], rfl, hb, heap_alloc_new w _, Nat.le_refl _, by decide, rfl, rfl⟩⟩, fun u hu => ?_, strC_one [s]⟩
  rw [List.mem_singleton.mp hu]; rfl
theorem cells_two (w : World) (s p : List Int) (S X : ByteArray) (hS : strOfNums s = S) (hX : strOfNums p = X) : CellsAt 1 (w.alloc (.cells #[.string S, .string X] 9)) (some ⟨w.heap.size, 0, none⟩) ([s, p].map strC) := by
  subst hS hX
  refine ⟨fun u hu => ?_, fun i hi => ⟨w.heap.size, 0, rfl, fun j hj => ?_⟩⟩
  · obtain ⟨q, _, rfl⟩ := List.mem_map.mp hu; rfl
  · obtain rfl : j = 0 := by omega
    simp at hi
    have : i = 0 ∨ i = 1 := by omega
    rcases this with rfl | rfl <;> simp [strC]
theorem cells_one (w : World) (s : List Int) (S : ByteArray) (hS : strOfNums s = S) : CellsAt 1 (w.alloc (.cells #[.string S] 9)) (some ⟨w.heap.size, 0, none⟩) ([s].map strC) := by
  subst hS
  refine ⟨fun u hu => ?_, fun i hi => ⟨w.heap.size, 0, rfl, fun j hj => ?_⟩⟩
  · obtain ⟨q, _, rfl⟩ := List.mem_map.mp hu; rfl
  · obtain rfl : j = 0 := by omega
    simp at hi
    obtain rfl : i = 0 := by omega
    simp [strC]
theorem fresh5 (V : World) (x0 x1 x2 x3 x4 : Value) : ∃ W0 W1, V.alloc (.cells #[.int .i64 0, .string ⟨#[]⟩, .int .u64 0, .int .i64 0, .int .i64 0] 59) = W0 ∧ put5 W0 V.heap.size x0 x1 x2 x3 x4 = W1 ∧
    Var5 W0 V.heap.size (.int .i64 0) (.string ⟨#[]⟩) (.int .u64 0) (.int .i64 0) (.int .i64 0) ∧ Var5 W1 V.heap.size x0 x1 x2 x3 x4 ∧ Below V.heap.size V W1 :=
  ⟨_, _, rfl, rfl, Var5.fresh _ _ _ _ _ _ _ _ rfl, (Var5.fresh _ _ _ _ _ _ _ _ rfl).put _ _ _ _ _, below_put5 ((Below.refl _ _).alloc (Nat.le_refl _) _) (Nat.le_refl _) _ _ _ _ _⟩
theorem WordsIs.below {w w' : World} {S : Nat → Prop} {v : Value} {l : List Tk3} (h : WordsIs w S v l) (hb : Below w.heap.size w w') : WordsIs w' S v l := by
  obtain ⟨a, c, e, hc, hcell⟩ := h
  refine ⟨a, c, e, hc, fun i hi => ?_⟩
  obtain ⟨b, off, rfl, hs, q0, q1, q2, q3, q4⟩ := hcell i hi
  have hlt := World.block_lt_of_cell? _ _ q0
  exact ⟨b, off, rfl, hs, (hb.cell (p := ⟨b, off + i * 5, none⟩) hlt).trans q0, (hb.cell (p := ⟨b, off + i * 5 + 1, none⟩) hlt).trans q1, (hb.cell (p := ⟨b, off + i * 5 + 2, none⟩) hlt).trans q2, (hb.cell (p := ⟨b, off + i * 5 + 3, none⟩) hlt).trans q3, (hb.cell (p := ⟨b, off + i * 5 + 4, none⟩) hlt).trans q4⟩
theorem words_short : ∀ (wd : List Tk3), (∀ t ∈ wd, WordR t) → (∀ t ∈ wd, t.s.size ≤ 2000 ∧ 0 ≤ t.n ∧ t.n ≤ 18446744073709551615) → (wordsP wd).length ≤ 2001 * wd.length
  | [], _, _ => by simp [wordsP]
  | t :: wd, h, hl => by
    have h1 := h t (List.mem_cons_self ..)
    have h2 := hl t (List.mem_cons_self ..)
    have hp := print_short (k := t.k) (s := t.s) (n := t.n.toNat) (by rw [nat_n h2.2.1]; exact h1.right) (by omega) h2.1
    have ih := words_short wd (fun x hx => h x (List.mem_cons_of_mem _ hx)) (fun x hx => hl x (List.mem_cons_of_mem _ hx))
    have e : wordsP (t :: wd) = 32 :: (prT t.k t.s t.n.toNat ++ wordsP wd) := by simp [wordsP]
    rw [e]
    simp only [List.length_cons, List.length_append]
    omega
theorem words_bytes {wd : List Tk3} (h : ∀ t ∈ wd, WordR t) (hl : ∀ t ∈ wd, 0 ≤ t.n) (nm : ByteArray) (i : Nat) : ∀ p ∈ partsW nm wd i, ∀ z ∈ p, 0 ≤ z ∧ z ≤ 255 := fun p hp z hz => by
  unfold partsW at hp
  rcases List.mem_cons.mp hp with rfl | hp
  · exact nums_byte nm z hz
  · obtain ⟨t, ht, hp⟩ := List.mem_flatMap.mp hp
    have ht2 := List.mem_of_mem_take ht
    simp only [List.mem_cons, List.not_mem_nil, or_false] at hp
    rcases hp with rfl | rfl
    · rw [List.mem_singleton.mp hz]; omega
    · exact print_byte (by rw [nat_n (hl t ht2)]; exact (h t ht2).right) z hz

set_option maxRecDepth 100000 in
set_option maxHeartbeats 16000000 in
theorem lpitem_any (S : Nat → Prop) (B b : Nat) (op : Int) (zs : List Int) (d : Nat) (nm : ByteArray) (wd : List Tk3) (bk : Bool) (kv : Value) (pa pb : Int) (wv : Value) (w : World) (env : EnvQ w) (h : PrF B b op zs w) (hw : WordsIs w S wv wd) (hd1 : 1 ≤ d) (hd4 : d ≤ 4)
    (hwr : ∀ t ∈ wd, WordR t) (hwl : wd.length ≤ 6) (hl : LightX (.mk nm wd bk [] pa pb)) (hlen : zs.length ≤ 10000000000) (hBw : B ≤ w.heap.size) :
    Calls Tryz.prog 24 #[.pointer (some ⟨b, 0, none⟩), .int .i64 (d : Int), .agg #[.string nm, wv, .bool bk, kv, .int .i64 pa, .int .i64 pb]] w fun e w' => e = .returned (.tuple #[]) ∧ PrF B b (if bk then (d : Int) else op) (zs ++ headL d nm wd bk) w' ∧ KF B b w w' := by
  obtain ⟨wa, wc, rfl⟩ := hw.size
  obtain ⟨n, hn⟩ : ∃ n, wd.length = n := ⟨_, rfl⟩
  obtain ⟨W0, hW0⟩ : ∃ W, w.alloc (.cells #[.string nm, .slice wa n wc, .bool bk, kv, .int .i64 pa, .int .i64 pb] 51) = W := ⟨_, rfl⟩
  have V0 : Var6 W0 w.heap.size (.string nm) (.slice wa n wc) (.bool bk) kv (.int .i64 pa) (.int .i64 pb) := by rw [← hW0]; exact Var6.fresh _ _ _ _ _ _ _ _ _ rfl
  have g0 : Below w.heap.size w W0 := by rw [← hW0]; exact (Below.refl _ _).alloc (Nat.le_refl _) _
  obtain ⟨W1, hW1⟩ : ∃ W, W0.alloc (.cells #[.string nm] 9) = W := ⟨_, rfl⟩
  have g1 : Below w.heap.size w W1 := by rw [← hW1]; exact g0.alloc g0.size _
  have hR0 : RowK 9 1 W1 (w.heap.size + 1) (.slice (some ⟨W0.heap.size, 0, none⟩) 1 1) ((partsW nm wd 0).map strC) := by
    rw [← hW1]
    have := row_one W0 (w.heap.size + 1) (by rw [← hW0]; simp) (nums nm) nm (strOfNums_nums nm)
    simpa [partsW] using this
  have V1 : Var6 W1 w.heap.size (.string nm) (.slice wa n wc) (.bool bk) kv (.int .i64 pa) (.int .i64 pb) := by rw [← hW1]; exact V0.after ((Below.refl _ _).alloc (Nat.le_refl _) _)
  have HV1 := Lib.hid V1
  have HR0 := Lib.hid hR0
  have HG1 := Lib.hid g1
  have HE := Lib.hid env
  have HP := Lib.hid h
  have HWD := Lib.hid hw
  have HWR := Lib.hid hwr
  have HL := Lib.hid hl
  have HLEN := Lib.hid hlen
  have HB := Lib.hid hBw
  have HN := Lib.hid hn
  obtain ⟨c0, c1, c2, _, _, _, _, _⟩ := V0
  obtain ⟨d0, d1, d2, _, _, _, _, _⟩ := V1
  rw [hn] at hwl ⊢
  clear h hw env hwr hl hlen hBw hn g0 g1 hR0
  go_enter Tryz.func24, Tryz.ntmps24
  go_wp2
  go_loopw [6, 15] (fun v6 v15 wr => ∃ (i : Nat) (va : Option Addr) (vl vc : Nat), i ≤ n ∧ v6 = .slice va vl vc ∧ v15 = .int .i64 (i : Int) ∧ RowK 9 1 wr (w.heap.size + 1) (.slice va vl vc) ((partsW nm wd i).map strC) ∧ Below w.heap.size w wr ∧ wr.heap[w.heap.size]? = W1.heap[w.heap.size]? ∧ w.heap.size < wr.heap.size) (fun _ v15 _ => n - (intOf v15).toNat)
  case atStart => exact ⟨0, _, _, _, Nat.zero_le _, rfl, rfl, HR0.out, HG1.out, rfl, HV1.out.s⟩
  case round =>
    obtain ⟨i, va, vl, vc, hi, rfl, rfl, hrow, hb, hx, hxs⟩ := hrel
    have HRO := Lib.hid hrow
    have HBR := Lib.hid hb
    have HX := Lib.hid hx
    have HXS := Lib.hid hxs
    by_cases hin : i < n
    · have hwi := HWD.out.below hb
      obtain ⟨a', cap', he, hc, hcell⟩ := hwi
      injection he with e1 e2 e3
      subst e1
      obtain ⟨b1, o1, rfl, s1, f0, f1, f2, f3, f4⟩ := hcell i (by rw [HN.out]; exact hin)
      have hmem : wd.getD i {} ∈ wd := by
        rw [List.getD_eq_getElem?_getD, List.getElem?_eq_getElem (by rw [HN.out]; exact hin)]
        exact List.getElem_mem _
      have hlx := HL.out.2.2 _ hmem
      have hwx := HWR.out _ hmem
      have hnx := partsW_next (nm := nm) (wd := wd) (i := i) (by rw [HN.out]; exact hin)
      have hln := partsW_len nm wd i (by rw [HN.out]; omega)
      obtain ⟨⟨k, s, m0, x, y⟩, ht⟩ : ∃ t, wd.getD i {} = t := ⟨_, rfl⟩
      rw [ht] at f0 f1 f2 f3 f4 hlx hwx hnx
      simp only at f0 f1 f2 f3 f4 hlx hnx
      obtain ⟨m, rfl⟩ : ∃ m : Nat, m0 = (m : Int) := ⟨m0.toNat, by omega⟩
      rw [Int.toNat_natCast] at hnx
      have hwright := hwx.right
      simp only at hwright
      obtain ⟨W2, W3, hW2, hW3, v2, v3, g3⟩ := fresh5 wr (.int .i64 k) (.string s) (.int .u64 (m : Int)) (.int .i64 x) (.int .i64 y)
      have G3 := Lib.hid (hb.trans (g3.mono hb.size))
      have HPT := ptok_any k s m x y W3 (HE.out.step G3.out) (by omega) (by omega) hwright
      obtain ⟨X, hX⟩ : ∃ X, strOfNums (prT k s m) = X := ⟨_, rfl⟩
      rw [hX] at HPT
      have HPT2 := Lib.hid HPT
      have HAP : Hid (∀ w5, Below W3.heap.size W3 w5 → RowK 9 1 (w5.alloc (.cells #[.string ⟨#[32]⟩, .string X] 9)) (w.heap.size + 1) (.slice va vl vc) ((partsW nm wd i).map strC) ∧ CellsAt 1 (w5.alloc (.cells #[.string ⟨#[32]⟩, .string X] 9)) (some ⟨w5.heap.size, 0, none⟩) ([[32], prT k s m].map strC) ∧ w.heap.size + 1 ≤ (w5.alloc (.cells #[.string ⟨#[32]⟩, .string X] 9)).heap.size ∧
          Below w.heap.size w (w5.alloc (.cells #[.string ⟨#[32]⟩, .string X] 9)) ∧ (w5.alloc (.cells #[.string ⟨#[32]⟩, .string X] 9)).heap[w.heap.size]? = W1.heap[w.heap.size]?) := Lib.hid (fun w5 g5 => by
        have g35 := g3.trans (g5.mono g3.size)
        have g6 : Below wr.heap.size wr (w5.alloc (.cells #[.string ⟨#[32]⟩, .string X] 9)) := g35.alloc g35.size _
        exact ⟨hrow.below g6, cells_two w5 [32] (prT k s m) _ _ rfl hX, by have := g6.size; omega, hb.trans (g6.mono hb.size), (g6.block _ hxs).trans hx⟩)
      have HNX : Hid ((partsW nm wd (i + 1)).map strC = (partsW nm wd i).map strC ++ [[32], prT k s m].map strC) := Lib.hid (by rw [hnx, List.map_append])
      have HLN : Hid (((partsW nm wd i).map strC).length + ([[32], prT k s m].map strC).length ≤ 1000000) := Lib.hid (by rw [List.length_map, hln]; simp; omega)
      have hi1 : IntKind.i64.wrap ((i : Int) + 1) = ((i + 1 : Nat) : Int) := by rw [IntKind.wrap_i64]; omega
      obtain ⟨q, hq⟩ : ∃ q, wr.heap.size = q := ⟨_, rfl⟩
      rw [hq] at v2 v3 hW3
      obtain ⟨y0, y1, y2, y3, y4, yq, ys⟩ := v2
      obtain ⟨t0, t1, t2, t3, t4, _, _⟩ := v3
      have z0 := yq 0
      have z1 := yq 1
      have z2 := yq 2
      have z3 := yq 3
      have z4 := yq 4
      unfold put5 at hW3
      clear hcell e2 e3 hc hmem hlx hwx hnx hln ht hwright g3 HPT hrow hb hx hxs hX yq ys s1
      go_wp2_with (first
        | (go_at_call 39; (with_reducible refine (HPT2.out).mono ?_); rintro e w5 ⟨rfl, g5⟩; have HA := Lib.hid (HAP.out w5 g5); clear g5)
        | (at_builtin; (refine wp_rowKs (T := 73) (t := 9) (sz := 1) rfl _ _ rfl Tryz.underlying73 info_str rfl (by decide) (by decide) (w.heap.size + 1) _ _ rfl HA.out.1 (some ⟨w5.heap.size, 0, none⟩) 2 2 ([[32], prT k s m].map strC) rfl rfl HA.out.2.1 (strC_one _) (by have := HLN.out; simpa using this) HA.out.2.2.1 ?_)))
      intro v' w6 hrow6 ho6 _
      have HB6 := Lib.hid (HA.out.2.2.2.1.trans (ho6.bel.mono (Nat.le_succ _)))
      have HX6 := Lib.hid ((ho6.bel.block w.heap.size (Nat.lt_succ_self _)).trans HA.out.2.2.2.2)
      have HS6 := Lib.hid (Nat.lt_of_lt_of_le (Nat.lt_of_succ_le HA.out.2.2.1) ho6.size)
      have HROW6 := Lib.hid hrow6
      obtain ⟨va2, vc2, rfl⟩ := hrow6.size
      obtain ⟨vl2, hvl⟩ : ∃ n, (List.map strC (partsW nm wd i) ++ [strC [32], strC (prT k s m)]).length = n := ⟨_, rfl⟩
      rw [hvl] at HROW6
      rw [hvl]
      clear hrow6 ho6 hvl
      go_wp2
      go_roundw
      case rel => exact ⟨i + 1, va2, vl2, vc2, by omega, rfl, by go_num, by rw [HNX.out]; exact HROW6.out, HB6.out, HX6.out, HS6.out⟩
      case measure => simp [intOf]; omega
    · have en : n = i := by omega
      subst en
      have x2 := (World.cell?_of_block (a := ⟨w.heap.size, 2, none⟩) hx).trans HV1.out.c2
      have HLP := Lib.hid (partsW_len nm wd n (by rw [HN.out]; omega))
      have HLN2 : Hid (((partsW nm wd n).map strC).length + 1 ≤ 1000000) := Lib.hid (by rw [List.length_map, HLP.out]; omega)
      have HWSH : Hid ((wordsP wd).length ≤ 12006) := Lib.hid (by
        have := words_short wd HWR.out HL.out.2.2
        have := HN.out
        omega)
      have hp := HP.out
      clear hrow hb hx hxs
      cases bk with
      | false =>
        obtain ⟨W5, hW5⟩ : ∃ W5, wr.alloc (.cells #[.string ⟨#[59]⟩] 9) = W5 := ⟨_, rfl⟩
        have g5 : Below wr.heap.size wr W5 := by rw [← hW5]; exact (Below.refl _ _).alloc (Nat.le_refl _) _
        have HROW5 := Lib.hid (HRO.out.below g5)
        have HCE : Hid (CellsAt 1 W5 (some ⟨wr.heap.size, 0, none⟩) ([[59]].map strC)) := Lib.hid (by rw [← hW5]; exact cells_one wr [59] _ rfl)
        have HSZ : Hid (w.heap.size + 1 ≤ W5.heap.size) := Lib.hid (by have := g5.size; have := HXS.out; omega)
        have HB5 := Lib.hid (HBR.out.trans (g5.mono HBR.out.size))
        have hfl : (partsW nm wd n ++ [[59]]).flatten = nums nm ++ (wordsP wd ++ [59]) := by
          rw [List.flatten_append, ← HN.out, partsW_flat]; simp
        have HFL := Lib.hid hfl
        clear g5 hfl
        go_wp2_with (at_builtin; (refine wp_rowKs (T := 73) (t := 9) (sz := 1) rfl _ _ rfl Tryz.underlying73 info_str rfl (by decide) (by decide) (w.heap.size + 1) _ _ rfl HROW5.out (some ⟨wr.heap.size, 0, none⟩) 1 1 ([[59]].map strC) rfl rfl HCE.out (strC_one _) HLN2.out HSZ.out ?_))
        intro v' w7 hrow7 ho7 _
        have HB7 := Lib.hid (HB5.out.trans (ho7.bel.mono (Nat.le_succ _)))
        have hrow8 : RowK 9 1 w7 (w.heap.size + 1) v' ((partsW nm wd n ++ [[59]]).map strC) := by rw [List.map_append]; exact hrow7
        obtain ⟨va2, vc2, hv2⟩ := hrow8.size
        obtain ⟨vl2, hvl⟩ : ∃ n2, ((partsW nm wd n ++ [[59]]).map strC).length = n2 := ⟨_, rfl⟩
        rw [hvl] at hv2
        have hlen := HLEN.out
        have hws := HWSH.out
        have hnl := HL.out.1
        have HLI := Lib.hid (lline_any B b op zs d v' (partsW nm wd n ++ [[59]]) w7 (HP.out.below (HB7.out)) (row_parts hrow8) hd1 hd4 (fun p hp z hz => by
            rcases List.mem_append.mp hp with hp | hp
            · exact words_bytes HWR.out (fun t ht => (HL.out.2.2 t ht).2.1) nm n p hp z hz
            · rw [List.mem_singleton.mp hp] at hz
              simp only [List.mem_cons, List.not_mem_nil, or_false] at hz
              omega) (by rw [HFL.out]; simp only [It.name] at hnl; simp only [List.length_append, nums_length, List.length_cons, List.length_nil]; omega) (by rw [List.length_append, HLP.out]; simp; omega) (by have := HB7.out.size; have := HB.out; omega))
        subst hv2
        clear hrow7 hrow8 ho7 hvl hlen hws hnl hW5
        go_wp2_with (go_at_call 38; (with_reducible refine (HLI.out).mono ?_); rintro e w8 ⟨rfl, p8, k8⟩; have y2 := p8.open_.1; have z2 := p8.open_.2 2; have P8 := Lib.hid p8; have K8 := Lib.hid ((KF.of (B := B) (b := b) HB7.out HB.out).trans k8); clear p8 k8)
        refine bodyPost_ret (results_none rfl _ _ _) rfl ?_
        refine ⟨rfl, ?_, K8.out⟩
        have := P8.out
        rw [HFL.out] at this
        unfold headL
        simpa using this
      | true =>
        obtain ⟨W5, hW5⟩ : ∃ W5, wr.alloc (.cells #[.string ⟨#[32, 123]⟩] 9) = W5 := ⟨_, rfl⟩
        have g5 : Below wr.heap.size wr W5 := by rw [← hW5]; exact (Below.refl _ _).alloc (Nat.le_refl _) _
        have HROW5 := Lib.hid (HRO.out.below g5)
        have HCE : Hid (CellsAt 1 W5 (some ⟨wr.heap.size, 0, none⟩) ([[32, 123]].map strC)) := Lib.hid (by rw [← hW5]; exact cells_one wr [32, 123] _ rfl)
        have HSZ : Hid (w.heap.size + 1 ≤ W5.heap.size) := Lib.hid (by have := g5.size; have := HXS.out; omega)
        have HB5 := Lib.hid (HBR.out.trans (g5.mono HBR.out.size))
        have hfl : (partsW nm wd n ++ [[32, 123]]).flatten = nums nm ++ (wordsP wd ++ [32, 123]) := by
          rw [List.flatten_append, ← HN.out, partsW_flat]; simp
        have HFL := Lib.hid hfl
        clear g5 hfl
        go_wp2_with (at_builtin; (refine wp_rowKs (T := 73) (t := 9) (sz := 1) rfl _ _ rfl Tryz.underlying73 info_str rfl (by decide) (by decide) (w.heap.size + 1) _ _ rfl HROW5.out (some ⟨wr.heap.size, 0, none⟩) 1 1 ([[32, 123]].map strC) rfl rfl HCE.out (strC_one _) HLN2.out HSZ.out ?_))
        intro v' w7 hrow7 ho7 _
        have HB7 := Lib.hid (HB5.out.trans (ho7.bel.mono (Nat.le_succ _)))
        have hrow8 : RowK 9 1 w7 (w.heap.size + 1) v' ((partsW nm wd n ++ [[32, 123]]).map strC) := by rw [List.map_append]; exact hrow7
        obtain ⟨va2, vc2, hv2⟩ := hrow8.size
        obtain ⟨vl2, hvl⟩ : ∃ n2, ((partsW nm wd n ++ [[32, 123]]).map strC).length = n2 := ⟨_, rfl⟩
        rw [hvl] at hv2
        have hlen := HLEN.out
        have hws := HWSH.out
        have hnl := HL.out.1
        have HLI := Lib.hid (lline_any B b op zs d v' (partsW nm wd n ++ [[32, 123]]) w7 (HP.out.below (HB7.out)) (row_parts hrow8) hd1 hd4 (fun p hp z hz => by
            rcases List.mem_append.mp hp with hp | hp
            · exact words_bytes HWR.out (fun t ht => (HL.out.2.2 t ht).2.1) nm n p hp z hz
            · rw [List.mem_singleton.mp hp] at hz
              simp only [List.mem_cons, List.not_mem_nil, or_false] at hz
              omega) (by rw [HFL.out]; simp only [It.name] at hnl; simp only [List.length_append, nums_length, List.length_cons, List.length_nil]; omega) (by rw [List.length_append, HLP.out]; simp; omega) (by have := HB7.out.size; have := HB.out; omega))
        subst hv2
        clear hrow7 hrow8 ho7 hvl hlen hws hnl hW5
        go_wp2_with (go_at_call 38; (with_reducible refine (HLI.out).mono ?_); rintro e w8 ⟨rfl, p8, k8⟩; have y2 := p8.open_.1; have z2 := p8.open_.2 2; have P8 := Lib.hid p8; have K8 := Lib.hid ((KF.of (B := B) (b := b) HB7.out HB.out).trans k8); clear p8 k8)
        have hB := P8.out.hB
        go_end0
        refine ⟨rfl, ?_, K8.out.put hB _ _⟩
        have := P8.out.put2 (d : Int)
        rw [HFL.out] at this
        unfold headL
        simpa using this

end Go.Proofs.YtmgimkokmlcllaaGreatDoor

/-
  Package layout's Print: walked.
-/
namespace Go.Proofs.YtmgimkokmlcllaaGreatDoor
open Go.RowKit Go.Shelf

def prS (s : Nat × List Int) (y : Nat × It) : Nat × List Int := (if y.2.block then y.1 else min s.1 (y.1 - 1), s.2 ++ shutP s.1 y.1 ++ headL y.1 y.2.name y.2.words y.2.block)
theorem shutP_split : ∀ (o d : Nat), 1 ≤ d → d ≤ o → shutP o d = shutP o (d + 1) ++ (indP d ++ [125, 10])
  | 0, d, h1, h2 => by omega
  | o + 1, d, h1, h2 => by
    rw [shutP_yes (o := o + 1) (by omega) h2]
    by_cases h : d ≤ o
    · rw [shutP_yes (o := o + 1) (d := d + 1) (by omega) (by omega)]
      have ih := shutP_split o d h1 h
      simp only [Nat.add_sub_cancel, ih, List.append_assoc]
    · obtain rfl : d = o + 1 := by omega
      rw [shutP_no (o := o + 1) (d := o + 1 + 1) (by omega), shutP_no (by omega)]
      simp
theorem pr_fold : ∀ (L : List It) (d o : Nat) (zs : List Int), ShapeR L → 1 ≤ d → d ≤ o + 1 →
    d ≤ ((flatL d L).foldl prS (o, zs)).1 + 1 ∧ ((flatL d L).foldl prS (o, zs)).2 ++ shutP ((flatL d L).foldl prS (o, zs)).1 d = zs ++ shutP o d ++ prtL d L
  | [], d, o, zs, _, h1, h2 => by simp [flatL, prtL, h2]
  | .mk n w k kids a b :: l, d, o, zs, hs, h1, h2 => by
    rw [ShapeR] at hs
    obtain ⟨_, hk, _, hs4, hs5⟩ := hs
    rw [flatL, List.foldl_cons, List.foldl_append]
    obtain ⟨s1, e1⟩ : ∃ s, prS (o, zs) (d, .mk n w k kids a b) = s := ⟨_, rfl⟩
    rw [e1]
    obtain ⟨o1, z1⟩ := s1
    cases k with
    | true =>
      have q1 : o1 = d := by have := congrArg Prod.fst e1; simp [prS, It.block] at this; omega
      have q2 : z1 = zs ++ shutP o d ++ headL d n w true := by have := congrArg Prod.snd e1; simp [prS, It.block, It.name, It.words] at this; simp [← this]
      obtain ⟨i1, i2⟩ := pr_fold kids (d + 1) o1 z1 hs4 (by omega) (by omega)
      obtain ⟨s2, e2⟩ : ∃ s, (flatL (d + 1) kids).foldl prS (o1, z1) = s := ⟨_, rfl⟩
      rw [e2] at i1 i2 ⊢
      obtain ⟨o2, z2⟩ := s2
      simp only at i1 i2
      obtain ⟨j1, j2⟩ := pr_fold l d o2 z2 hs5 h1 (by omega)
      refine ⟨j1, ?_⟩
      rw [j2, shutP_split o2 d h1 (by omega), ← List.append_assoc, i2, q1, shutP_no (by omega), q2, prtL]
      simp [headL]
    | false =>
      have hk0 : kids = [] := hk.resolve_left (by simp)
      subst hk0
      have q1 : o1 = d - 1 := by have := congrArg Prod.fst e1; simp [prS, It.block] at this; omega
      have q2 : z1 = zs ++ shutP o d ++ headL d n w false := by have := congrArg Prod.snd e1; simp [prS, It.block, It.name, It.words] at this; simp [← this]
      obtain ⟨j1, j2⟩ := pr_fold l d o1 z1 hs5 h1 (by omega)
      simp only [flatL, List.foldl_nil]
      refine ⟨j1, ?_⟩
      rw [j2, q1, shutP_no (by omega), q2, prtL]
      simp [headL]
def prK (L : List It) (k : Nat) : Nat × List Int := ((flatL 1 L).take k).foldl prS (0, [])
theorem prK_next {L : List It} {k d : Nat} {x : It} (h : (flatL 1 L)[k]? = some (d, x)) : prK L (k + 1) = prS (prK L k) (d, x) := by
  unfold prK
  rw [List.take_add_one, h, List.foldl_append]
  rfl
theorem prK_all {L : List It} (h : ShapeR L) : (prK L (flatL 1 L).length).2 ++ shutP (prK L (flatL 1 L).length).1 1 = prtL 1 L := by
  unfold prK
  rw [List.take_length]
  have := (pr_fold L 1 0 [] h (Nat.le_refl _) (by omega)).2
  rw [this, shutP_no (by omega)]
  simp
theorem prtL_bytes : ∀ (L : List It) (d : Nat), EachR L → NumsR L → ∀ z ∈ prtL d L, 0 ≤ z ∧ z ≤ 255
  | [], d, _, _ => by simp [prtL]
  | .mk n w k kids a b :: l, d, h, hn => by
    rw [EachR] at h
    rw [NumsR] at hn
    have i1 := prtL_bytes kids (d + 1) h.2.2.2.2.1 hn.2.1
    have i2 := prtL_bytes l d h.2.2.2.2.2 hn.2.2
    have hw : ∀ z ∈ wordsP w, 0 ≤ z ∧ z ≤ 255 := fun z hz => by
      obtain ⟨t, ht, hz⟩ := List.mem_flatMap.mp hz
      rcases List.mem_cons.mp hz with rfl | hz
      · omega
      · exact print_byte (by rw [nat_n (hn.1 t ht).1]; exact (h.2.2.2.1 t ht).right) z hz
    intro z hz
    rw [prtL] at hz
    rcases List.mem_append.mp hz with hz | hz
    · rcases List.mem_append.mp hz with hz | hz
      · exact ind_bytes d z hz
      · rcases List.mem_append.mp hz with hz | hz
        · exact nums_byte n z hz
        · rcases List.mem_append.mp hz with hz | hz
          · exact hw z hz
          · cases k with
            | true =>
              simp only [if_true] at hz
              rcases List.mem_append.mp hz with hz | hz
              · simp only [List.mem_cons, List.not_mem_nil, or_false] at hz; omega
              · rcases List.mem_append.mp hz with hz | hz
                · exact i1 z hz
                · rcases List.mem_append.mp hz with hz | hz
                  · exact ind_bytes d z hz
                  · simp only [List.mem_cons, List.not_mem_nil, or_false] at hz; omega
            | false =>
              simp only [Bool.false_eq_true, if_false] at hz
              simp only [List.mem_cons, List.not_mem_nil, or_false] at hz; omega
    · exact i2 z hz
theorem prtL_some {L : List It} (h : L ≠ []) (d : Nat) : prtL d L ≠ [] := by
  cases L with
  | nil => exact (h rfl).elim
  | cons x l =>
    obtain ⟨n, w, k, kids, a, b⟩ := x
    intro e
    have := congrArg List.length e
    rw [prtL] at this
    cases k with
    | true => simp at this
    | false => simp at this

set_option maxRecDepth 100000 in
set_option maxHeartbeats 4000000 in
theorem lshut_none (b : Nat) (o : Nat) (d : Nat) (w : World) (h : w.cell? ⟨b, 2, none⟩ = some (.int .i64 (o : Int))) (hd : o < d) :
    Calls Tryz.prog 23 #[.pointer (some ⟨b, 0, none⟩), .int .i64 (d : Int)] w fun e w' => e = .returned (.tuple #[]) ∧ w' = w := by
  have hdo' : ¬ (d : Int) ≤ (o : Int) := by omega
  go_enter Tryz.func23, Tryz.ntmps23
  go_wp2
  go_loopw [4] (fun _ wr => wr = w) (fun _ _ => 0)
  case atStart => rfl
  case round =>
    obtain rfl := hrel
    go_wp2
    go_end0
    exact ⟨rfl, rfl⟩
set_option maxHeartbeats 2000000 in
set_option maxRecDepth 100000 in
/-- What is read from a printer's builder: nothing was written. -/
theorem bstrp_none (b : Nat) (p o : Value) (w : World) (h : w.heap[b]? = some (.cells #[p, .slice none 0 0, o] 45 (0, 0))) :
    Calls Tryz.prog 25 #[.pointer (some ⟨b, 0, none⟩)] w fun e w' => e = .returned (.string ⟨#[]⟩) ∧ Below w.heap.size w w' := by
  have c2 : w.drew.cell? ⟨b, 1, none⟩ = some (.slice none 0 0) := by
    have : w.drew.heap[b]? = some (.cells #[p, .slice none 0 0, o] 45 (0, 0)) := h
    rw [Lib.cell_of_heap this]; rfl
  have hSD : (Builtin.unsafeSliceData_ #[41] 74 #[.slice none 0 0]).run Tryz.prog w.drew = .ok (.pointer none) w.drew := rfl
  have hUS := Lib.run_unsafeString_none (P := Tryz.prog) w.drew 74 3 9 none
  go_enter Tryz.func25, Tryz.ntmps25
  go_wp2
  go_region
  all_goals (go_wp2; go_ret; exact ⟨rfl, Below.drew (Below.refl _ w)⟩)
set_option maxHeartbeats 2000000 in
set_option maxRecDepth 100000 in
theorem bstrp_any (B b : Nat) (op : Int) (zs : List Int) (hz : ∀ z ∈ zs, 0 ≤ z ∧ z ≤ 255) (he : zs ≠ []) (w : World) (h : PrF B b op zs w) :
    Calls Tryz.prog 25 #[.pointer (some ⟨b, 0, none⟩)] w fun e w' => e = .returned (.string (strOfNums zs)) ∧ KF B b w w' := by
  obtain ⟨hB, p, v, hp, hb, ho, hn⟩ := h
  have hl0 : zs.length ≠ 0 := fun e => he (List.length_eq_zero_iff.mp e)
  obtain ⟨g, cap, cur, fz, rfl, hbg, hg, hfz, hnc, hcm, hcs, htake⟩ : ∃ g cap cur fz, v = .slice (some ⟨g, 0, none⟩) zs.length cap ∧ B ≤ g ∧ w.heap[g]? = some (.cells cur 5 fz) ∧ fz.2 ≤ zs.length * 1 ∧ zs.length ≤ cap ∧ cap ≤ maxLen ∧ cur.size = cap * 1 ∧ cur.toList.take (zs.length * 1) = u8s zs := by
    rcases ho.2 with ⟨_, hx⟩ | ⟨g, cap, cur, fz, hv, r⟩
    · exact absurd hx hl0
    · exact ⟨g, cap, cur, fz, hv, r⟩
  have c2 : w.drew.cell? ⟨b, 1, none⟩ = some (.slice (some ⟨g, 0, none⟩) zs.length cap) := by
    have : w.drew.heap[b]? = some (.cells #[p, .slice (some ⟨g, 0, none⟩) zs.length cap, .int .i64 op] 45 (0, 0)) := hb
    rw [Lib.cell_of_heap this]; rfl
  have hSD : (Builtin.unsafeSliceData_ #[41] 74 #[.slice (some ⟨g, 0, none⟩) zs.length cap]).run Tryz.prog w.drew = .ok (.pointer (some ⟨g, 0, none⟩)) w.drew :=
    Lib.run_unsafeSliceData_row _ _ _ _ _ _ (by omega)
  have hUS : (Builtin.unsafeString_ #[74, 3] 9 #[.pointer (some ⟨g, 0, none⟩), .int .i64 zs.length]).run Tryz.prog w.drew = .ok (.string (strOfNums zs)) (w.drew.freeze ⟨g, 0, none⟩ zs.length) := by
    have hl : ((zs.map fun z => UInt8.ofNat z.toNat).length : Nat) = zs.length := by simp
    have := Lib.run_unsafeString_row w.drew 74 3 9 5 Tryz.underlying74 (by kernel_rfl) g cur.size (by have hg' : w.drew.heap[g]? = some (.cells cur 5 fz) := hg; simp [World.shape?, hg']) (zs.map fun z => UInt8.ofNat z.toNat) (by simpa using he) (by rw [hl]; omega) (by rw [hl]; unfold maxLen at hcm; omega) (by
      intro j x hx
      rw [List.getElem?_map] at hx
      cases hj : zs[j]? with
      | none => rw [hj] at hx; cases hx
      | some z =>
        rw [hj] at hx
        obtain rfl : UInt8.ofNat z.toNat = x := by simpa using hx
        have hzz := hz z (List.mem_of_getElem? hj)
        have h5 := ho.cells (g := g) rfl j (.int .u8 z) (by simp [u8s, hj])
        have e : ((UInt8.ofNat z.toNat).toNat : Int) = z := by simp only [UInt8.toNat_ofNat']; omega
        rw [e]
        exact h5)
    rw [hl] at this
    exact this
  go_enter Tryz.func25, Tryz.ntmps25
  go_wp2
  go_region
  all_goals (go_wp2; go_ret; exact ⟨rfl, Lib.below_freeze (Below.drew (Below.refl B w)) (p := ⟨g, 0, none⟩) hbg _, ((Lib.OthersKept.refl _ _ w).drew).freeze ⟨g, 0, none⟩ _ ⟨cur, fz, hg⟩⟩)

end Go.Proofs.YtmgimkokmlcllaaGreatDoor

/-
  Package layout's Print, from its items: walked.
-/
namespace Go.Proofs.YtmgimkokmlcllaaGreatDoor
open Go.RowKit Go.Shelf

theorem flat_pos : ∀ (L : List It) (d : Nat), ∀ y ∈ flatL d L, d ≤ y.1
  | [], d, y, hy => by rw [flatL] at hy; cases hy
  | .mk n w k kids a b :: l, d, y, hy => by
    rw [flatL] at hy
    rcases List.mem_cons.mp hy with rfl | hy
    · exact Nat.le_refl _
    · rcases List.mem_append.mp hy with hy | hy
      · have := flat_pos kids (d + 1) y hy; omega
      · exact flat_pos l d y hy
structure PnI (w : World) (b : Nat) (v : Value) (L : List It) (k : Nat) (V : World) : Prop where
  bel : Below w.heap.size w V
  pr : PrF w.heap.size b ((prK L k).1 : Int) (prK L k).2 V
  box : V.heap[b + 1]? = some (.cells #[v] 22 (0, 0))
  len : (prK L k).2.length ≤ 20000 * k
  op : (prK L k).1 ≤ 4
  fresh : k = 0 → V.heap[b]? = some (.cells #[.pointer none, .slice none 0 0, .int .i64 0] 45 (0, 0))
theorem PnI.lt {w : World} {b : Nat} {v : Value} {L : List It} {k : Nat} {V : World} (h : PnI w b v L k V) : b + 1 < V.heap.size := (Array.getElem?_eq_some_iff.1 h.box).1
theorem PnI.cell {w : World} {b : Nat} {v : Value} {L : List It} {k : Nat} {V : World} (h : PnI w b v L k V) : V.cell? ⟨b + 1, 0, none⟩ = some v := by rw [Lib.cell_of_heap h.box]; rfl
theorem PnI.below {w : World} {b : Nat} {v : Value} {L : List It} {k : Nat} {V V' : World} (h : PnI w b v L k V) (hb : Below V.heap.size V V') : PnI w b v L k V' := by
  have := h.lt
  exact ⟨h.bel.trans (hb.mono h.bel.size), h.pr.below hb, (hb.block _ this).trans h.box, h.len, h.op, fun e => (hb.block _ (by omega)).trans (h.fresh e)⟩
theorem PnI.putObj {w : World} {b : Nat} {v : Value} {L : List It} {k : Nat} {V : World} (h : PnI w b v L k V) {l : Nat} {x : Loop} (hx : V.heap[l]? = some (.loop x)) (o : Loop) (hl : b + 1 < l) : PnI w b v L k (V.putObj l (.loop o)) := by
  have hB := h.pr.hB
  refine ⟨below_putObj h.bel (by omega) _, h.pr.stay (fun j _ _ hj => World.putObj_heap_other (fun e => ?_)), (World.putObj_heap_other (by omega)).trans h.box, h.len, h.op, fun e => (World.putObj_heap_other (by omega)).trans (h.fresh e)⟩
  subst e
  rcases hj with hj | ⟨c, fz, hj⟩
  · omega
  · rw [hx] at hj; cases hj
theorem KF.keeps {B b Z : Nat} {V V' : World} (h : KF B b V V') (hb : b < Z) : Keeps Z V V' := ⟨h.1.size, fun i o hi ho hn => h.2 i o ho (fun e => by cases e; omega) hn⟩

section
attribute [local go_sem] Oper.semAt_some
set_option maxRecDepth 100000 in
set_option maxHeartbeats 8000000 in
theorem lprint_no (D : Nat) (S : Nat → Prop) (v : Value) (L : List It) (w : World) (env : Env w) (h : ItemsIs D w S v L) (hS : ∀ b, S b → b < w.heap.size) (hm : cntL L ≤ 1000000) (hd : depL L ≤ 900000) (hl : LightL L) (hr : ¬ RightL L) :
    Calls Tryz.prog 8 #[v] w fun e w' => e = .returned (.tuple #[.string ⟨#[]⟩, .int .i64 6]) ∧ Below w.heap.size w w' := by
  have HRT := Lib.hid (lright_any D S v L w env h hS hm hd hl)
  have HR := Lib.hid hr
  obtain ⟨a, cap, rfl⟩ := h.size
  clear h hS hl env hr
  go_enter Tryz.func8, Tryz.ntmps8
  go_wp2_with (go_at_call 9; (with_reducible refine (HRT.out).mono ?_); rintro e w2 ⟨q, rfl, hq, h2⟩; obtain rfl : q = false := (by cases q with | false => rfl | true => exact (HR.out (hq.mp rfl)).elim); have G2 := Lib.hid h2; clear hq h2)
  go_ret2
  exact ⟨rfl, G2.out⟩

set_option maxRecDepth 100000 in
set_option maxHeartbeats 16000000 in
theorem lprint_yes (D : Nat) (S : Nat → Prop) (v : Value) (L : List It) (w : World) (env : EnvQ w) (h : ItemsIs D w S v L) (hS : ∀ b, S b → b < w.heap.size) (hm : cntL L ≤ 1000000) (hd : depL L ≤ 900000) (hl : LightL L) (hn : NumsR L) (hr : RightL L) :
    Calls Tryz.prog 8 #[v] w fun e w' => e = .returned (.tuple #[.string (strOfNums (prtL 1 L)), .int .i64 0]) ∧ Below w.heap.size w w' := by
  have HRT := Lib.hid (lright_any D S v L w env.lo h hS hm hd hl)
  have HR := Lib.hid hr
  have HRG := Lib.hid (fun B1 n => litems_range w S D v L B1 n h hS (by omega) hd)
  have HFL := Lib.hid ((right_flat L).mp hr)
  have HLT := Lib.hid (LightL.flat 1 hl)
  have HPO := Lib.hid (flat_pos L 1)
  have HLN := Lib.hid (flatL_len L 1)
  have HPA := Lib.hid (prK_all hr.each.shape)
  have HBY := Lib.hid (prtL_bytes L 1 hr.each hn)
  have HE := Lib.hid env
  have HS := Lib.hid hS
  obtain ⟨a, cap, rfl⟩ := h.size
  have HC := Lib.hid (fun W => litems_same a L.length cap W)
  have hm3 := hr.many
  have HZ : Hid (cntL L = 0 → L = []) := Lib.hid (fun e => by have := len_cnt L; exact List.eq_nil_of_length_eq_zero (by omega))
  obtain ⟨m, hm2⟩ : ∃ m, cntL L = m := ⟨_, rfl⟩
  obtain ⟨len, hlen⟩ : ∃ n, L.length = n := ⟨_, rfl⟩
  rw [hm2] at HRG hm HFL HLN hm3 HZ
  rw [HLN.out] at HPA
  rw [hlen] at HRG HC HRT ⊢
  clear h hm2 hS hlen hl env hr hn
  refine (callsIn_wide (n := 3)).1 ?_
  refine callsIn_of_wp_marks Tryz.func8 rfl trivial ?_ rfl
  simp only [Tryz.ntmps8, List.size_toArray, List.length_cons, List.length_nil, Nat.reduceAdd, Nat.reduceSub, Array.replicate_succ, Array.replicate_zero, List.push_toArray, List.append_toArray, List.nil_append, List.cons_append]
  gi_wp2_with (first
    | (refine ⟨trivial, ?_⟩; gi_at_call 9; refine (callsIn_wide.2 (HRT.out)).mono ?_; rintro e w1 ⟨q, rfl, hq, g1⟩; obtain rfl : q = true := hq.mpr HR.out; have G1 := Lib.hid g1; clear hq g1)
    | (refine ⟨trivial, ?_⟩; gi_at_call 22; refine (callsIn_wide.2 (HC.out _)).mono ?_; rintro e w2 ⟨rfl, rfl⟩))
  have hbw := G1.out.size
  have hC0 : ∀ o1 o2, PnI w w1.heap.size (.slice a len cap) L 0 ((((w1.alloc (.cells #[.pointer none, .slice none 0 0, .int .i64 0] 45)).alloc (.cells #[.slice a len cap] 22)).alloc o1).alloc o2) := fun o1 o2 => by
    have h0 : PnI w w1.heap.size (.slice a len cap) L 0 ((w1.alloc (.cells #[.pointer none, .slice none 0 0, .int .i64 0] 45)).alloc (.cells #[.slice a len cap] 22)) := by
      have hp := PrF.new w1 w.heap.size w1.heap.size rfl hbw
      have e : prK L 0 = (0, []) := by simp [prK]
      refine ⟨(G1.out.alloc hbw _).alloc (by simp; omega) _, by rw [e]; exact hp.below ((Below.refl _ _).alloc (Nat.le_refl _) _), ?_, by rw [e]; simp, by rw [e]; decide, fun _ => ?_⟩
      · have := World.alloc_heap_new (w1.alloc (.cells #[.pointer none, .slice none 0 0, .int .i64 0] 45)) (.cells #[.slice a len cap] 22)
        rw [World.size_alloc] at this
        exact this
      · exact (Below.heap_alloc _ _ _ (by simp)).trans (World.alloc_heap_new w1 _)
    exact (h0.below ((Below.refl _ _).alloc (Nat.le_refl _) o1)).below ((Below.refl _ _).alloc (Nat.le_refl _) o2)
  have HC0 := Lib.hid hC0
  clear hC0
  refine wp_rangeT (n := 3) (by decide) (gf := 36) (lb := #[.pointer (some ⟨w1.heap.size + 1, 0, none⟩)]) rfl (enters_of Tryz.func36 (by kernel_rfl) rfl) rfl
    (G := FlAt w S (flatL 1 L)) (m := m) (Kc := fun V => Below w.heap.size w V ∧ V.cell? ⟨w1.heap.size + 1, 0, none⟩ = some (.slice a len cap)) (HRG.out _ _)
    (fun k V => PnI w w1.heap.size (.slice a len cap) L k V) (fun _ => False) (fun k V h => ⟨h.bel, h.cell⟩) (fun k V V' h hb => h.below hb) (fun k V o x hx h => h.putObj hx o (by simp)) (fun _ _ _ _ h => h) ?h0
    (fun p q => { tmps := #[.slice a len cap, undef, .string ⟨#[]⟩, .int .i64 0, .pointer (some ⟨w1.heap.size, 0, none⟩), .int .i64 (p.d : Int), .pointer (some ⟨q, 0, none⟩), .slice a len cap, .bool true, .bool false, .slice a len cap, .func (.func 36) #[] #[.pointer (some ⟨w1.heap.size + 1, 0, none⟩)], .int .i64 (p.d : Int), p.item, undef, undef, undef, undef, undef, undef, undef, undef], defers := [] })
    (fun p q V => w1.heap.size + 4 ≤ q ∧ Var6 V q (.string p.x.name) p.wv (.bool p.x.block) p.kv (.int .i64 p.x.a) (.int .i64 p.x.b) ∧ ∃ c fz, V.heap[q]? = some (.cells c 51 fz)) ?hap ?assign ?body ?done ?stop
  case h0 =>
    intro o1 o2
    exact HC0.out o1 o2
  case hap =>
    rintro p q V o ⟨h1, h2, c, fz, h3⟩
    exact ⟨h1, h2.putObj _ _ (by simp <;> omega), c, fz, (World.putObj_heap_other (by simp <;> omega)).trans h3⟩
  case assign =>
    intro k p V K hG hs hK
    obtain ⟨wa, wc, hwv⟩ := hG.ws.size
    obtain ⟨D2, hks⟩ := hG.ks
    obtain ⟨ka, kc, hkv⟩ := hks.size
    obtain ⟨d, ⟨nm, wd, bk, kd, pa, pb⟩, wv, kv⟩ := p
    simp only at hwv hkv
    subst hwv hkv
    simp only [It.words, It.kids, It.name, It.block, It.a, It.b] at hK
    obtain ⟨wl, hwl⟩ : ∃ n, wd.length = n := ⟨_, rfl⟩
    obtain ⟨kl, hkl⟩ : ∃ n, kd.length = n := ⟨_, rfl⟩
    simp only [Fl.enc, Fl.item, It.words, It.kids, It.name, It.block, It.a, It.b] at hK ⊢
    rw [hwl, hkl] at hK ⊢
    obtain ⟨W0, W1, hW0, hW1, V0, V1, g1⟩ := fresh6 V (.string nm) (.slice wa wl wc) (.bool bk) (.slice ka kl kc) (.int .i64 pa) (.int .i64 pb)
    have hob : ∃ c fz, W1.heap[V.heap.size]? = some (.cells c 51 fz) := by
      obtain ⟨c', hc'⟩ := put6_obj (W := W0) (p := V.heap.size) (by rw [← hW0]; exact World.alloc_heap_new V _) (.string nm) (.slice wa wl wc) (.bool bk) (.slice ka kl kc) (.int .i64 pa) (.int .i64 pb)
      rw [hW1] at hc'
      exact ⟨c', _, hc'⟩
    have h1 := hK V.heap.size W1 g1 ⟨by simp at hs; omega, V1, hob⟩
    obtain ⟨y0, y1, y2, y3, y4, y5, yq, ys⟩ := V0
    have z0 := yq 0
    have z1 := yq 1
    have z2 := yq 2
    have z3 := yq 3
    have z4 := yq 4
    have z5 := yq 5
    unfold put6 at hW1
    clear yq ys hK V1 g1 hG hks hwl hkl hob
    gi_wp2
    simpa using h1
  case body =>
    rintro k p q V hi hk hG ⟨hq4, hV6, hqo⟩ hs ⟨xd, hxd⟩ ⟨xl, hxl⟩
    have hmem : (p.d, p.x) ∈ flatL 1 L := List.mem_of_getElem? hG.here
    have hlight := HLT.out _ hmem
    have hright := HFL.out.1 _ hmem
    have hpos := HPO.out _ hmem
    have hnx := prK_next hG.here
    have hws := hG.ws
    obtain ⟨D2, hks⟩ := hG.ks
    obtain ⟨d, x, wv, kv⟩ := p
    simp only at hV6 hmem hlight hright hpos hnx hws hks ⊢
    obtain ⟨⟨nm, wd, bk, kd, pa, pb⟩, hx⟩ : ∃ y, x = y := ⟨_, rfl⟩
    subst hx
    simp only [It.name, It.words, It.block, It.kids, It.a, It.b] at hV6 hws hks hnx
    have hbel := hi.bel
    have hpr := hi.pr
    have hop := hi.op
    have hzl := hi.len
    obtain ⟨⟨o, zs⟩, hozs⟩ : ∃ s, prK L k = s := ⟨_, rfl⟩
    rw [hozs] at hpr hop hzl hnx
    simp only at hpr hop hzl
    have hBw : w.heap.size ≤ V.heap.size := hbel.size
    have hsl := shutP_len o d hop
    have SH := lshut_any w.heap.size w1.heap.size o zs d V hpr hpos hop (by omega) hBw
    obtain ⟨wa, wc, rfl⟩ := hws.size
    obtain ⟨ka, kc, rfl⟩ := hks.size
    obtain ⟨cq, fq, hqo⟩ := hqo
    have HIT : Hid (∀ w2, PrF w.heap.size w1.heap.size ((min o (d - 1) : Nat) : Int) (zs ++ shutP o d) w2 → KF w.heap.size w1.heap.size V w2 → Var6 w2 q (.string nm) (.slice wa wd.length wc) (.bool bk) (.slice ka kd.length kc) (.int .i64 pa) (.int .i64 pb) ∧
        Calls Tryz.prog 24 #[.pointer (some ⟨w1.heap.size, 0, none⟩), .int .i64 (d : Int), .agg #[.string nm, .slice wa wd.length wc, .bool bk, .slice ka kd.length kc, .int .i64 pa, .int .i64 pb]] w2 fun e w' => e = .returned (.tuple #[]) ∧ PnI w w1.heap.size (.slice a len cap) L (k + 1) w' ∧
          w'.heap[w1.heap.size + 2]? = V.heap[w1.heap.size + 2]? ∧ w'.heap[w1.heap.size + 2 + 1]? = V.heap[w1.heap.size + 2 + 1]? ∧ Keeps (w1.heap.size + 2 + 2) V w') := Lib.hid (fun w2 p2 k2 => by
      have b2 : Below w.heap.size w w2 := hbel.trans k2.1
      have hq2 : w2.heap[q]? = V.heap[q]? := by rw [hqo]; exact k2.2 q _ hqo (fun e => by cases e; omega) (fun c fz e => by cases e)
      refine ⟨hV6.stay hq2 k2.1.size, ?_⟩
      refine (lpitem_any S w.heap.size w1.heap.size _ (zs ++ shutP o d) d nm wd bk _ pa pb _ w2 (HE.out.step b2) p2 (hws.keep (fun _ h => h) (fun j hj => b2.block j (HS.out j hj))) hpos hright.1 hright.2.2.2.1 hright.2.2.1 ⟨hlight.1, hlight.2.1, hlight.2.2⟩ (by rw [List.length_append]; omega) (by have := k2.1.size; omega)).mono ?_
      rintro e w3 ⟨rfl, p3, k3⟩
      have k23 := k2.trans k3
      have hsz := hi.lt
      have e1 : (prK L (k + 1)).1 = if bk then d else min o (d - 1) := by rw [hnx]; rfl
      have e2 : (prK L (k + 1)).2 = zs ++ shutP o d ++ headL d nm wd bk := by rw [hnx]; rfl
      have e3 : (((if bk then d else min o (d - 1) : Nat)) : Int) = if bk then (d : Int) else ((min o (d - 1) : Nat) : Int) := by cases bk <;> rfl
      have hwl := words_short wd hright.2.2.2.1 hlight.2.2
      have hhl : (headL d nm wd bk).length ≤ 15000 := by
        have h1 := hlight.1
        have h2 := hright.2.2.1
        have h3 := hright.1
        simp only [It.name, It.words] at h1 h2
        unfold headL
        simp only [List.length_append, ind_len, nums_length]
        cases bk <;> simp <;> omega
      refine ⟨rfl, ⟨hbel.trans k23.1, by rw [e1, e2, e3]; exact p3, k23.2 _ _ hi.box (fun e => by injection e with e; omega) (fun c fz e => by cases e), by rw [e2]; simp only [List.length_append]; omega, by rw [e1]; cases bk <;> simp <;> omega, fun e => by omega⟩, ?_, ?_, k23.keeps (by omega)⟩
      · rw [show w1.heap.size + 2 = ((w1.alloc (.cells #[.pointer none, .slice none 0 0, .int .i64 0] 45)).alloc (.cells #[.slice a len cap] 22)).heap.size by simp, hxd]
        exact k23.2 _ _ hxd (fun e => by injection e with e; simp at e; omega) (fun c fz e => by cases e)
      · rw [show w1.heap.size + 2 + 1 = ((w1.alloc (.cells #[.pointer none, .slice none 0 0, .int .i64 0] 45)).alloc (.cells #[.slice a len cap] 22)).heap.size + 1 by simp, hxl]
        exact k23.2 _ _ hxl (fun e => by injection e with e; simp at e; omega) (fun c fz e => by cases e))
    have HSH := Lib.hid SH
    obtain ⟨wl, hwl⟩ : ∃ n, wd.length = n := ⟨_, rfl⟩
    obtain ⟨kl, hkl⟩ : ∃ n, kd.length = n := ⟨_, rfl⟩
    simp only [Fl.item, It.name, It.block, It.a, It.b]
    rw [hwl, hkl] at HIT ⊢
    have hn2 : 1 ≤ 3 - 1 - 1 := by decide
    clear hlight hright hnx hws hks hmem hbel hpr hzl hozs hsl SH hxd hxl hi hG hV6 hqo hs hwl hkl
    gi_wp2_with (first
      | (refine ⟨trivial, ?_⟩; gi_at_call 23; refine (CallsIn.inRound _ (callsIn_wide.2 HSH.out)).mono ?_; rintro e w2 ⟨rfl, p2, k2⟩; obtain ⟨v2, it2⟩ := HIT.out w2 p2 k2; have HI2 := Lib.hid it2; obtain ⟨y0, y1, y2, y3, y4, y5, _, _⟩ := v2; clear p2 k2 it2)
      | (refine ⟨trivial, ?_⟩; gi_at_call 24; refine (CallsIn.inRound _ (callsIn_wide.2 HI2.out)).mono ?_; rintro e w3 ⟨rfl, q1, q2, q3, q4⟩))
    simp only [World.size_alloc]
    exact ⟨q1, q2, q3, q4⟩
  case done =>
    intro V hi hK
    have hpr := hi.pr
    have hop := hi.op
    have hzl := hi.len
    have hBw := hi.bel.size
    have hall := HPA.out
    have hfresh := hi.fresh
    obtain ⟨⟨o, zs⟩, hozs⟩ : ∃ s, prK L m = s := ⟨_, rfl⟩
    rw [hozs] at hpr hop hzl hall
    simp only at hpr hop hzl hall
    have SH := lshut_any w.heap.size w1.heap.size o zs 1 V hpr (Nat.le_refl _) hop (by omega) hBw
    rw [hall] at SH
    simp only [World.size_alloc] at hK ⊢
    have hKF : Hid (∀ W, KF w.heap.size w1.heap.size V W → W.heap[w1.heap.size + 1 + 1]? = some (.deferred (some []))) := Lib.hid (fun W k => k.2 _ _ hK (fun e => by injection e with e; omega) (fun c fz e => by cases e))
    have HBV := Lib.hid hi.bel
    by_cases h0 : L = []
    · have hm0 : m = 0 := by
        have := HLN.out
        rw [h0] at this
        simpa [flatL] using this.symm
      have hb0 := hfresh hm0
      have ho0 : o = 0 := by
        have := congrArg Prod.fst hozs
        rw [h0] at this
        simpa [prK, flatL] using this.symm
      subst ho0
      have HSN := Lib.hid (lshut_none w1.heap.size 0 1 V hpr.open_.1 (by decide))
      have HST := Lib.hid (bstrp_none w1.heap.size _ _ V hb0)
      have HP0 : Hid (strOfNums (prtL 1 L) = ⟨#[]⟩) := Lib.hid (by rw [h0, prtL]; rfl)
      have HV := Lib.hid (KF.of (B := w.heap.size) (b := w1.heap.size) (Below.refl _ V) hBw)
      clear hpr hop hzl hall hfresh hozs SH hK hi hb0
      gi_wp2_with (first
        | (refine ⟨trivial, ?_⟩; gi_at_call 23; refine (callsIn_wide.2 HSN.out).mono ?_; rintro e w2 ⟨rfl, rfl⟩)
        | (refine ⟨trivial, ?_⟩; gi_at_call 25; refine (callsIn_wide.2 HST.out).mono ?_; rintro e w3 ⟨rfl, g3⟩; have G3 := Lib.hid g3; clear g3))
      have hK3 := hKF.out _ (KF.of (B := w.heap.size) (b := w1.heap.size) G3.out hBw)
      refine ⟨by simp, .inl ⟨_, _, rfl, run_takeDeferred hK3, ?_⟩⟩
      exact ⟨_, results_tmp2 rfl _ _ _, by rw [HP0.out]; rfl, below_putObj (HBV.out.trans (G3.out.mono hBw)) (by omega) _⟩
    · have HSH := Lib.hid SH
      have HST : Hid (∀ W, PrF w.heap.size w1.heap.size ((min o (1 - 1) : Nat) : Int) (prtL 1 L) W → Calls Tryz.prog 25 #[.pointer (some ⟨w1.heap.size, 0, none⟩)] W fun e w' => e = .returned (.string (strOfNums (prtL 1 L))) ∧ KF w.heap.size w1.heap.size W w') :=
        Lib.hid (fun W p => bstrp_any _ _ _ _ HBY.out (prtL_some h0 1) W p)
      clear hpr hop hzl hall hfresh hozs SH hK hi
      gi_wp2_with (first
        | (refine ⟨trivial, ?_⟩; gi_at_call 23; refine (callsIn_wide.2 HSH.out).mono ?_; rintro e w2 ⟨rfl, p2, k2⟩; have P2 := Lib.hid p2; have K2 := Lib.hid k2; clear p2 k2)
        | (refine ⟨trivial, ?_⟩; gi_at_call 25; refine (callsIn_wide.2 (HST.out _ P2.out)).mono ?_; rintro e w3 ⟨rfl, k3⟩; have K3 := Lib.hid (K2.out.trans k3); clear k3))
      have hK3 := hKF.out _ K3.out
      refine ⟨by simp, .inl ⟨_, _, rfl, run_takeDeferred hK3, ?_⟩⟩
      exact ⟨_, results_tmp2 rfl _ _ _, rfl, below_putObj (HBV.out.trans K3.out.1) (by omega) _⟩
  case stop =>
    intro V h _
    exact h.elim
end

end Go.Proofs.YtmgimkokmlcllaaGreatDoor
