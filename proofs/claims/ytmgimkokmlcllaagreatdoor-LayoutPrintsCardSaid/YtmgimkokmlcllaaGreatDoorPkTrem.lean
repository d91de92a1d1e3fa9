/-
  Trees in memory: what is known of them, and what of it stays.
-/
import Derived.Test.YtmgimkokmlcllaaGreatDoorPkTrea
import Derived.Test.YtmgimkokmlcllaaGreatDoorPkScnL
import Derived.Test.YtmgimkokmlcllaaGreatDoorPkVrs
namespace Go.Proofs.YtmgimkokmlcllaaGreatDoor
open Go.RowKit

def WordsIs (w : World) (S : Nat → Prop) (v : Value) (l : List Tk3) : Prop :=
  ∃ a cap, v = .slice a l.length cap ∧ l.length ≤ cap ∧ ∀ i, i < l.length → ∃ b off, a = some ⟨b, off, none⟩ ∧ S b ∧ w.cell? ⟨b, off + i * 5, none⟩ = some (.int .i64 (l.getD i {}).k) ∧ w.cell? ⟨b, off + i * 5 + 1, none⟩ = some (.string (l.getD i {}).s) ∧
    w.cell? ⟨b, off + i * 5 + 2, none⟩ = some (.int .u64 (l.getD i {}).n) ∧ w.cell? ⟨b, off + i * 5 + 3, none⟩ = some (.int .i64 (l.getD i {}).a) ∧ w.cell? ⟨b, off + i * 5 + 4, none⟩ = some (.int .i64 (l.getD i {}).b)
def ItemsIs : Nat → World → (Nat → Prop) → Value → List It → Prop
  | 0, _, _, v, L => L = [] ∧ ∃ a cap, v = .slice a 0 cap
  | d + 1, w, S, v, L => ∃ a cap, v = .slice a L.length cap ∧ L.length ≤ cap ∧ ∀ i, i < L.length → ∃ b off wv kv, a = some ⟨b, off, none⟩ ∧ S b ∧ w.cell? ⟨b, off + i * 6, none⟩ = some (.string (L.getD i default).name) ∧ w.cell? ⟨b, off + i * 6 + 1, none⟩ = some wv ∧
      w.cell? ⟨b, off + i * 6 + 2, none⟩ = some (.bool (L.getD i default).block) ∧ w.cell? ⟨b, off + i * 6 + 3, none⟩ = some kv ∧ w.cell? ⟨b, off + i * 6 + 4, none⟩ = some (.int .i64 (L.getD i default).a) ∧ w.cell? ⟨b, off + i * 6 + 5, none⟩ = some (.int .i64 (L.getD i default).b) ∧
      WordsIs w S wv (L.getD i default).words ∧ ItemsIs d w S kv (L.getD i default).kids
theorem WordsIs.keep {w w' : World} {S S' : Nat → Prop} {v : Value} {l : List Tk3} (h : WordsIs w S v l) (hs : ∀ b, S b → S' b) (hw : ∀ b, S b → w'.heap[b]? = w.heap[b]?) : WordsIs w' S' v l := by
  obtain ⟨a, cap, rfl, hc, hcell⟩ := h
  refine ⟨a, cap, rfl, hc, fun i hi => ?_⟩
  obtain ⟨b, off, rfl, hb, h0, h1, h2, h3, h4⟩ := hcell i hi
  have e := hw b hb
  exact ⟨b, off, rfl, hs b hb, (World.cell?_of_block (a := ⟨b, off + i * 5, none⟩) e).trans h0, (World.cell?_of_block (a := ⟨b, off + i * 5 + 1, none⟩) e).trans h1, (World.cell?_of_block (a := ⟨b, off + i * 5 + 2, none⟩) e).trans h2,
    (World.cell?_of_block (a := ⟨b, off + i * 5 + 3, none⟩) e).trans h3, (World.cell?_of_block (a := ⟨b, off + i * 5 + 4, none⟩) e).trans h4⟩
theorem ItemsIs.keep : ∀ {d : Nat} {w w' : World} {S S' : Nat → Prop} {v : Value} {L : List It}, ItemsIs d w S v L → (∀ b, S b → S' b) → (∀ b, S b → w'.heap[b]? = w.heap[b]?) → ItemsIs d w' S' v L
  | 0, _, _, _, _, _, _, h, _, _ => h
  | d + 1, w, w', S, S', v, L, h, hs, hw => by
    obtain ⟨a, cap, rfl, hc, hcell⟩ := h
    refine ⟨a, cap, rfl, hc, fun i hi => ?_⟩
    obtain ⟨b, off, wv, kv, rfl, hb, h0, h1, h2, h3, h4, h5, hwd, hk⟩ := hcell i hi
    have e := hw b hb
    exact ⟨b, off, wv, kv, rfl, hs b hb, (World.cell?_of_block (a := ⟨b, off + i * 6, none⟩) e).trans h0, (World.cell?_of_block (a := ⟨b, off + i * 6 + 1, none⟩) e).trans h1, (World.cell?_of_block (a := ⟨b, off + i * 6 + 2, none⟩) e).trans h2,
      (World.cell?_of_block (a := ⟨b, off + i * 6 + 3, none⟩) e).trans h3, (World.cell?_of_block (a := ⟨b, off + i * 6 + 4, none⟩) e).trans h4, (World.cell?_of_block (a := ⟨b, off + i * 6 + 5, none⟩) e).trans h5, hwd.keep hs hw, ItemsIs.keep hk hs hw⟩
theorem ItemsIs.size {d : Nat} {w : World} {S : Nat → Prop} {v : Value} {L : List It} (h : ItemsIs d w S v L) : ∃ a cap, v = .slice a L.length cap := by
  cases d with
  | zero => obtain ⟨rfl, a, cap, rfl⟩ := h; exact ⟨a, cap, rfl⟩
  | succ d => obtain ⟨a, cap, rfl, _⟩ := h; exact ⟨a, cap, rfl⟩
theorem WordsIs.size {w : World} {S : Nat → Prop} {v : Value} {l : List Tk3} (h : WordsIs w S v l) : ∃ a cap, v = .slice a l.length cap := by
  obtain ⟨a, cap, rfl, _⟩ := h; exact ⟨a, cap, rfl⟩
theorem ItemsIs.deeper : ∀ {d : Nat} {w : World} {S : Nat → Prop} {v : Value} {L : List It}, ItemsIs d w S v L → ItemsIs (d + 1) w S v L ∨ (L = [] ∧ ∃ a cap, v = .slice a 0 cap)
  | 0, _, _, _, _, h => Or.inr h
  | d + 1, w, S, v, L, h => by
    obtain ⟨a, cap, rfl, hc, hcell⟩ := h
    by_cases h0 : L = []
    · exact Or.inr ⟨h0, a, cap, by rw [h0]; rfl⟩
    refine Or.inl ⟨a, cap, rfl, hc, fun i hi => ?_⟩
    obtain ⟨b, off, wv, kv, rfl, hb, q0, q1, q2, q3, q4, q5, hwd, hk⟩ := hcell i hi
    refine ⟨b, off, wv, kv, rfl, hb, q0, q1, q2, q3, q4, q5, hwd, ?_⟩
    rcases hk.deeper with hk2 | ⟨hk2, a2, c2, rfl⟩
    · exact hk2
    · rw [hk2]
      exact ⟨a2, c2, rfl, Nat.zero_le _, fun i hi => by cases hi⟩
theorem ItemsIs.at {d : Nat} {w : World} {S : Nat → Prop} {a : Option Addr} {n cap : Nat} {L : List It} (h : ItemsIs d w S (.slice a n cap) L) (i : Nat) (hi : i < L.length) : ∃ d', d = d' + 1 ∧ ∃ b off wv kv, a = some ⟨b, off, none⟩ ∧ S b ∧ w.cell? ⟨b, off + i * 6, none⟩ = some (.string (L.getD i default).name) ∧ w.cell? ⟨b, off + i * 6 + 1, none⟩ = some wv ∧
      w.cell? ⟨b, off + i * 6 + 2, none⟩ = some (.bool (L.getD i default).block) ∧ w.cell? ⟨b, off + i * 6 + 3, none⟩ = some kv ∧ w.cell? ⟨b, off + i * 6 + 4, none⟩ = some (.int .i64 (L.getD i default).a) ∧ w.cell? ⟨b, off + i * 6 + 5, none⟩ = some (.int .i64 (L.getD i default).b) ∧
      WordsIs w S wv (L.getD i default).words ∧ ItemsIs d' w S kv (L.getD i default).kids := by
  cases d with
  | zero => obtain ⟨rfl, _⟩ := h; cases hi
  | succ d =>
    obtain ⟨a', cap', he, hc, hcell⟩ := h
    injection he with e1 e2 e3
    subst e1
    exact ⟨d, rfl, hcell i hi⟩
def cntK (L : List It) : Nat → Nat
  | 0 => 0
  | i + 1 => cntK L i + 1 + cntL (L.getD i default).kids
def depK (L : List It) : Nat → Nat
  | 0 => 0
  | i + 1 => max (depK L i) (1 + depL (L.getD i default).kids)
theorem cntK_cons (x : It) (L : List It) : ∀ i, cntK (x :: L) (i + 1) = 1 + cntL x.kids + cntK L i
  | 0 => by simp [cntK]
  | i + 1 => by
    rw [cntK, cntK_cons x L i, cntK]
    simp only [List.getD_cons_succ]
    omega
theorem depK_cons (x : It) (L : List It) : ∀ i, depK (x :: L) (i + 1) = max (1 + depL x.kids) (depK L i)
  | 0 => by simp [depK]
  | i + 1 => by
    rw [depK, depK_cons x L i, depK]
    simp only [List.getD_cons_succ]
    omega
theorem cntK_all : ∀ L : List It, cntK L L.length = cntL L
  | [] => by simp [cntK, cntL]
  | .mk n w k kids a b :: L => by
    rw [List.length_cons, cntK_cons, cntK_all L, cntL]; rfl
theorem depK_all : ∀ L : List It, depK L L.length = depL L
  | [] => by simp [depK, depL]
  | .mk n w k kids a b :: L => by
    rw [List.length_cons, depK_cons, depK_all L, depL]; rfl
theorem cntK_mono (L : List It) {i j : Nat} (h : i ≤ j) : cntK L i ≤ cntK L j := by
  induction j with
  | zero => obtain rfl : i = 0 := by omega
            exact Nat.le_refl _
  | succ j ih =>
    by_cases e : i = j + 1
    · rw [e]; exact Nat.le_refl _
    · have := ih (by omega); rw [cntK]; omega
theorem depK_mono (L : List It) {i j : Nat} (h : i ≤ j) : depK L i ≤ depK L j := by
  induction j with
  | zero => obtain rfl : i = 0 := by omega
            exact Nat.le_refl _
  | succ j ih =>
    by_cases e : i = j + 1
    · rw [e]; exact Nat.le_refl _
    · have := ih (by omega); rw [depK]; omega

theorem len_cnt : ∀ L : List It, L.length ≤ cntL L
  | [] => by simp
  | .mk n w k kids a b :: L => by
    have := len_cnt L
    simp only [List.length_cons, cntL]; omega
def AllW : List It → Prop
  | [] => True
  | .mk _ w _ kids _ _ :: l => w.length ≤ 1000000000 ∧ AllW kids ∧ AllW l
theorem AllW.at : ∀ {L : List It} (_ : AllW L) (i : Nat), i < L.length → (L.getD i default).words.length ≤ 1000000000 ∧ AllW (L.getD i default).kids
  | [], _, i, hi => by cases hi
  | .mk n w k kids a b :: L, h, i, hi => by
    rw [AllW] at h
    cases i with
    | zero => exact ⟨h.1, h.2.1⟩
    | succ i => exact AllW.at h.2.2 i (by simpa using hi)

end Go.Proofs.YtmgimkokmlcllaaGreatDoor

/-
  Rows of structs: a part of the front; one cell stored.
-/
namespace Go.Proofs.YtmgimkokmlcllaaGreatDoor
open Go.RowKit

end Go.Proofs.YtmgimkokmlcllaaGreatDoor

/-
  Rows of structs: several more, which stand in another row (or nowhere, if there are none).
-/
namespace Go.Proofs.YtmgimkokmlcllaaGreatDoor
open Go.RowKit

def CellsAt (sz : Nat) (w : World) (a : Option Addr) (ys : List (List Value)) : Prop :=
  (∀ u ∈ ys, u.length = sz) ∧ ∀ i, i < ys.length → ∃ b off, a = some ⟨b, off, none⟩ ∧ ∀ j, j < sz → w.cell? ⟨b, off + i * sz + j, none⟩ = some ((ys.getD i []).getD j undef)
theorem add_plainK (b off n : Nat) : (⟨b, off, none⟩ : Addr).add n = ⟨b, off + n, none⟩ := by unfold Addr.add; split <;> simp_all
theorem flatten_len {sz : Nat} : ∀ (ys : List (List Value)), (∀ u ∈ ys, u.length = sz) → ys.flatten.length = ys.length * sz
  | [], _ => by simp
  | u :: ys, h => by
    rw [List.flatten_cons, List.length_append, h u (List.mem_cons_self ..), flatten_len ys (fun x hx => h x (List.mem_cons_of_mem _ hx)), List.length_cons, Nat.add_mul]
    omega
theorem CellsAt.flat {sz : Nat} {w : World} {b off : Nat} {ys : List (List Value)} (h : CellsAt sz w (some ⟨b, off, none⟩) ys) (hsz : 0 < sz) : ∀ j u, ys.flatten[j]? = some u → w.cell? ((⟨b, off, none⟩ : Addr).add j) = some u := fun j u hj => by
  have hlt := (List.getElem?_eq_some_iff.1 hj).1
  rw [flatten_len ys h.1] at hlt
  have hi : j / sz < ys.length := Nat.div_lt_of_lt_mul (by rw [Nat.mul_comm]; exact hlt)
  have hk : j % sz < sz := Nat.mod_lt _ hsz
  obtain ⟨b', off', e, hc⟩ := h.2 (j / sz) hi
  injection e with e
  injection e with e1 e2
  subst e1 e2
  have hx := hc (j % sz) hk
  have hg := getD_flatten ys (j / sz) (j % sz) h.1 hi hk
  have ej : j / sz * sz + j % sz = j := by rw [Nat.mul_comm]; exact Nat.div_add_mod j sz
  rw [ej] at hg
  rw [hg] at hj
  injection hj with hj
  have e2 : off + j / sz * sz + j % sz = off + j := by omega
  rw [e2] at hx
  rw [add_plainK, ← hj]
  exact hx
theorem run_rowKs {w : World} {T t : TypeId} {z : Value} {sz bts : Nat} (hT : Tryz.prog.underlying T = some (.slice t)) (hinf : (Tryz.prog.info? t).map (fun i => (i.zero, i.size, i.bytes)) = some (some z, sz, bts)) (hzs : z.cells.size = sz) (hsz : 0 < sz) (hbt : bts ≤ 128)
    (base : Nat) (v : Value) (vs : List (List Value)) (hown : RowK t sz w base v vs) (a : Option Addr) (c : Nat) (ys : List (List Value)) (hcell : CellsAt sz w a ys) (hy : ∀ u ∈ ys, ∀ x ∈ u, x.oneCell' = true) (hlen : vs.length + ys.length ≤ 1000000) (hbase : base ≤ w.heap.size) (ty : TypeId) :
    ∃ v' w', (Builtin.append_ #[T, T] ty #[v, .slice a ys.length c]).run Tryz.prog w = .ok v' w' ∧ RowK t sz w' base v' (vs ++ ys) ∧ OnlyO base (fun i => some i = v.ownBlock) w w' ∧ (v'.ownBlock = v.ownBlock ∨ v'.ownBlock = some w.heap.size) := by
  obtain ⟨i0, hi, hz0, hz1, hz2⟩ := info_parts hinf
  cases a with
  | some ad =>
    obtain ⟨b, off, sp⟩ := ad
    have hby : (vs.length + ys.length) * bts ≤ 1000000 * 128 := Nat.mul_le_mul hlen hbt
    have hnews : ∀ j u, ys.flatten[j]? = some u → w.cell? ((⟨b, off, sp⟩ : Addr).add j) = some u := by
      cases ys with
      | nil => intro j u hj; simp at hj
      | cons y ys =>
        obtain ⟨b', off', e, _⟩ := hcell.2 0 (by simp)
        injection e with e
        injection e with e1 e2 e3
        subst e3
        exact hcell.flat hsz
    obtain ⟨v', w', hr, h2, h3, h4, h5⟩ := run_append_own_at (P := Tryz.prog) w base T ty t i0 z sz bts hT hi hz0 hz1 hz2 hzs hsz v vs.length vs.flatten hown.own ⟨b, off, sp⟩ ys.length c ys.flatten (flatten_len ys hcell.1) hnews
      (fun u hu => by obtain ⟨y, hy1, hy2⟩ := List.mem_flatten.mp hu; exact hy y hy1 u hy2) (by unfold maxLen; omega) (by omega) hbase
    refine ⟨v', w', hr, ⟨?_, fun u hm => ?_, fun u hm => ?_⟩, ⟨(Below.refl base w).grown h3 hbase (fun b hk => (hown.lt hk).1), fun i hi hne => h3.block i hi hne⟩, h5⟩
    · rw [List.length_append, List.flatten_append]
      exact h2
    · rcases List.mem_append.mp hm with hm | hm
      · exact hown.wid u hm
      · exact hcell.1 u hm
    · rcases List.mem_append.mp hm with hm | hm
      · exact hown.one u hm
      · exact hy u hm
  | none =>
    have h0 : ys = [] := by
      cases ys with
      | nil => rfl
      | cons y ys => obtain ⟨b', off', e, _⟩ := hcell.2 0 (by simp); cases e
    subst h0
    refine ⟨v, w, ?_, by rw [List.append_nil]; exact hown, ⟨Below.refl _ _, fun _ _ _ => rfl⟩, Or.inl rfl⟩
    rcases hown.own.2 with ⟨rfl, hn⟩ | ⟨g, cap, cur, rfl, _, hg, hnc, _, _, _⟩
    · simp [Builtin.append_, run_underlying hT, sizeOf, typeInfo, hi, Builtin.lenOf, Builtin.firstCells]
    · simp [Builtin.append_, run_underlying hT, sizeOf, typeInfo, hi, Builtin.lenOf, hnc, Builtin.firstCells, loadCells, storeCells]
theorem wp_rowKs {w : World} {ops : Array Oper} {rest : List Oper} {o : Oper} {a : Act} {Q : Exit → Act → World → Prop} {T t : TypeId} {z : Value} {sz bts : Nat} (hgd : o.guard = none) (s x : Operand)
    (ho : o.op = .call { callee := .builtin .append, args := #[s, x], argTypes := #[T, T] }) (hT : Tryz.prog.underlying T = some (.slice t)) (hinf : (Tryz.prog.info? t).map (fun i => (i.zero, i.size, i.bytes)) = some (some z, sz, bts)) (hzs : z.cells.size = sz) (hsz : 0 < sz) (hbt : bts ≤ 128)
    (base : Nat) (v : Value) (vs : List (List Value)) (hs : a.eval s = v) (hown : RowK t sz w base v vs) (ad : Option Addr) (n c : Nat) (ys : List (List Value)) (hx : a.eval x = .slice ad n c) (hn : n = ys.length) (hcell : CellsAt sz w ad ys) (hy : ∀ u ∈ ys, ∀ x ∈ u, x.oneCell' = true)
    (hlen : vs.length + ys.length ≤ 1000000) (hbase : base ≤ w.heap.size)
    (h : ∀ v' w', RowK t sz w' base v' (vs ++ ys) → OnlyO base (fun i => some i = v.ownBlock) w w' → (v'.ownBlock = v.ownBlock ∨ v'.ownBlock = some w.heap.size) → wpList Tryz.prog ops Q rest (a.put o.dst v') w') : wpList Tryz.prog ops Q (o :: rest) a w := by
  subst hn
  obtain ⟨v', w', hr, h1, h2, h3⟩ := run_rowKs hT hinf hzs hsz hbt base v vs hown ad c ys hcell hy hlen hbase o.type
  exact Lib.wpList_append_run w hgd s x _ _ ho v _ hs hx _ w' hr (h v' w' h1 h2 h3)

end Go.Proofs.YtmgimkokmlcllaaGreatDoor

/-
  Lists of items that grow: in memory; a row of tokens as words; what Parse gives.
-/
namespace Go.Proofs.YtmgimkokmlcllaaGreatDoor
open Go.RowKit

def tkV (t : Tk3) : List Value := [.int .i64 t.k, .string t.s, .int .u64 t.n, .int .i64 t.a, .int .i64 t.b]
theorem tkV_one (t : Tk3) : ∀ u ∈ tkV t, u.oneCell' = true := fun u hu => by
  simp only [tkV, List.mem_cons, List.not_mem_nil, or_false] at hu
  rcases hu with rfl | rfl | rfl | rfl | rfl <;> rfl
theorem toksV_tk3 (l : List Int) (L : List (TkV × Nat)) : toksV l L = (L.map (tk3 l)).map tkV := by
  unfold toksV
  rw [List.map_map]; rfl
theorem RowK.words {w : World} {base : Nat} {v : Value} {l : List Tk3} {S : Nat → Prop} (h : RowK 59 5 w base v (l.map tkV)) (hS : ∀ b, v.ownBlock = some b → S b) : WordsIs w S v l := by
  by_cases h0 : l.length = 0
  · obtain rfl : l = [] := List.eq_nil_of_length_eq_zero h0
    obtain ⟨a, cap, rfl⟩ := h.size
    exact ⟨a, cap, rfl, Nat.zero_le _, fun i hi => by cases hi⟩
  · obtain ⟨g, cap, rfl, _, _, hc⟩ := h.form (by rw [List.length_map]; omega)
    rw [List.length_map] at hc h
    refine ⟨some ⟨g, 0, none⟩, cap, by rw [List.length_map], hc, fun i hi => ⟨g, 0, rfl, hS g rfl, ?_⟩⟩
    have hi2 : i < (l.map tkV).length := by rw [List.length_map]; exact hi
    have e : (l.map tkV).getD i [] = tkV (l.getD i {}) := by
      rw [List.getD_eq_getElem?_getD, List.getD_eq_getElem?_getD, List.getElem?_map, List.getElem?_eq_getElem hi]; rfl
    have c0 := h.at i 0 hi2 (by decide)
    have c1 := h.at i 1 hi2 (by decide)
    have c2 := h.at i 2 hi2 (by decide)
    have c3 := h.at i 3 hi2 (by decide)
    have c4 := h.at i 4 hi2 (by decide)
    rw [e] at c0 c1 c2 c3 c4
    simp only [Nat.zero_add]
    exact ⟨c0, c1, c2, c3, c4⟩
theorem WordsIs.one {w : World} {S : Nat → Prop} {v : Value} {l : List Tk3} (h : WordsIs w S v l) : v.oneCell' = true := by obtain ⟨a, cap, rfl⟩ := h.size; rfl
theorem ItemsIs.one {d : Nat} {w : World} {S : Nat → Prop} {v : Value} {L : List It} (h : ItemsIs d w S v L) : v.oneCell' = true := by obtain ⟨a, cap, rfl⟩ := h.size; rfl
theorem WordsIs.first {w : World} {S : Nat → Prop} {v : Value} {t : Tk3} {l : List Tk3} (h : WordsIs w S v (t :: l)) : ∃ b off cap, v = .slice (some ⟨b, off, none⟩) (l.length + 1) cap ∧ l.length + 1 ≤ cap ∧ S b ∧ w.cell? ⟨b, off, none⟩ = some (.int .i64 t.k) ∧ w.cell? ⟨b, off + 1, none⟩ = some (.string t.s) ∧
    w.cell? ⟨b, off + 2, none⟩ = some (.int .u64 t.n) ∧ w.cell? ⟨b, off + 3, none⟩ = some (.int .i64 t.a) ∧ w.cell? ⟨b, off + 4, none⟩ = some (.int .i64 t.b) ∧ ∀ c, l.length ≤ c → WordsIs w S (.slice (some ⟨b, off + 5, none⟩) l.length c) l := by
  obtain ⟨a, cap, rfl, hc, hcell⟩ := h
  obtain ⟨b, off, rfl, hb, h0, h1, h2, h3, h4⟩ := hcell 0 (by simp)
  simp only [Nat.zero_mul, Nat.add_zero] at h0 h1 h2 h3 h4
  refine ⟨b, off, cap, rfl, hc, hb, h0, h1, h2, h3, h4, fun c hc2 => ⟨some ⟨b, off + 5, none⟩, c, rfl, hc2, fun i hi => ?_⟩⟩
  obtain ⟨b', off', e, hb', q0, q1, q2, q3, q4⟩ := hcell (i + 1) (by simp only [List.length_cons]; omega)
  injection e with e
  injection e with e1 e2
  subst e1 e2
  have e5 : off + (i + 1) * 5 = off + 5 + i * 5 := by omega
  rw [e5] at q0 q1 q2 q3 q4
  exact ⟨b, off + 5, rfl, hb, q0, q1, q2, q3, q4⟩
theorem WordsIs.none' (w : World) (S : Nat → Prop) (a : Option Addr) (c : Nat) : WordsIs w S (.slice a 0 c) [] := ⟨a, c, rfl, Nat.zero_le _, fun i hi => by cases hi⟩
theorem ItemsIs.none' (d : Nat) (w : World) (S : Nat → Prop) (a : Option Addr) (c : Nat) : ItemsIs d w S (.slice a 0 c) [] := by
  cases d with
  | zero => exact ⟨rfl, a, c, rfl⟩
  | succ d => exact ⟨a, c, rfl, Nat.zero_le _, fun i hi => by cases hi⟩

structure ItV where
  x : It
  wv : Value
  kv : Value
def ItV.cells (p : ItV) : List Value := [.string p.x.name, p.wv, .bool p.x.block, p.kv, .int .i64 p.x.a, .int .i64 p.x.b]
structure ListIs (d : Nat) (w : World) (S : Nat → Prop) (base : Nat) (v : Value) (ps : List ItV) : Prop where
  row : RowK 51 6 w base v (ps.map ItV.cells)
  ws : ∀ p ∈ ps, WordsIs w S p.wv p.x.words
  ks : ∀ p ∈ ps, ItemsIs d w S p.kv p.x.kids
  out : ∀ b, v.ownBlock = some b → ¬ S b
theorem ListIs.nil (d : Nat) (w : World) (S : Nat → Prop) (base : Nat) : ListIs d w S base (.slice none 0 0) [] := ⟨RowK.nil _ _ _ _, (fun p hp => by cases hp), (fun p hp => by cases hp), (fun b e => by cases e)⟩
theorem ListIs.keep {d : Nat} {w w' : World} {S S' : Nat → Prop} {base : Nat} {v : Value} {ps : List ItV} (h : ListIs d w S base v ps) (hs : ∀ b, S b → S' b) (hw : ∀ b, S b → w'.heap[b]? = w.heap[b]?) (hr : ∀ b, v.ownBlock = some b → w'.heap[b]? = w.heap[b]?) (ho : ∀ b, v.ownBlock = some b → ¬ S' b) : ListIs d w' S' base v ps :=
  ⟨h.row.kept hr, fun p hp => (h.ws p hp).keep hs hw, fun p hp => (h.ks p hp).keep hs hw, ho⟩
theorem ListIs.items {d : Nat} {w : World} {S S' : Nat → Prop} {base : Nat} {v : Value} {ps : List ItV} (h : ListIs d w S base v ps) (hs : ∀ b, S b → S' b) (hr : ∀ b, v.ownBlock = some b → S' b) : ItemsIs (d + 1) w S' v (ps.map ItV.x) := by
  by_cases h0 : ps.length = 0
  · obtain rfl : ps = [] := List.eq_nil_of_length_eq_zero h0
    obtain ⟨a, cap, rfl⟩ := h.row.size
    exact ItemsIs.none' _ _ _ _ _
  · obtain ⟨g, cap, rfl, _, _, hc⟩ := h.row.form (by rw [List.length_map]; omega)
    have hrow := h.row
    rw [List.length_map] at hc hrow
    refine ⟨some ⟨g, 0, none⟩, cap, by rw [List.length_map, List.length_map], by rw [List.length_map]; exact hc, fun i hi => ?_⟩
    rw [List.length_map] at hi
    have hi2 : i < (ps.map ItV.cells).length := by rw [List.length_map]; exact hi
    have hm : ps[i] ∈ ps := List.getElem_mem _
    have e : (ps.map ItV.cells).getD i [] = (ps[i]).cells := by
      rw [List.getD_eq_getElem?_getD, List.getElem?_map, List.getElem?_eq_getElem hi]; rfl
    have e2 : (ps.map ItV.x).getD i default = (ps[i]).x := by
      rw [List.getD_eq_getElem?_getD, List.getElem?_map, List.getElem?_eq_getElem hi]; rfl
    have c0 := hrow.at i 0 hi2 (by decide)
    have c1 := hrow.at i 1 hi2 (by decide)
    have c2 := hrow.at i 2 hi2 (by decide)
    have c3 := hrow.at i 3 hi2 (by decide)
    have c4 := hrow.at i 4 hi2 (by decide)
    have c5 := hrow.at i 5 hi2 (by decide)
    rw [e] at c0 c1 c2 c3 c4 c5
    rw [e2]
    refine ⟨g, 0, (ps[i]).wv, (ps[i]).kv, rfl, hr g rfl, ?_⟩
    simp only [Nat.zero_add]
    exact ⟨c0, c1, c2, c3, c4, c5, (h.ws _ hm).keep hs (fun _ _ => rfl), ItemsIs.keep (h.ks _ hm) hs (fun _ _ => rfl)⟩
theorem itv_one {p : ItV} (h1 : p.wv.oneCell' = true) (h2 : p.kv.oneCell' = true) : ∀ u ∈ p.cells, u.oneCell' = true := fun u hu => by
  simp only [ItV.cells, List.mem_cons, List.not_mem_nil, or_false] at hu
  rcases hu with rfl | rfl | rfl | rfl | rfl | rfl
  · rfl
  · exact h1
  · rfl
  · exact h2
  · rfl
  · rfl
theorem ListIs.push {d : Nat} {w w' : World} {S S' : Nat → Prop} {base : Nat} {v v' : Value} {ps : List ItV} {p : ItV} (h : ListIs d w S base v ps) (hrow : RowK 51 6 w' base v' (ps.map ItV.cells ++ [p.cells])) (hs : ∀ b, S b → S' b) (hw : ∀ b, S b → w'.heap[b]? = w.heap[b]?)
    (hp1 : WordsIs w' S' p.wv p.x.words) (hp2 : ItemsIs d w' S' p.kv p.x.kids) (ho : ∀ b, v'.ownBlock = some b → ¬ S' b) : ListIs d w' S' base v' (ps ++ [p]) := by
  refine ⟨by rw [List.map_append]; exact hrow, fun q hq => ?_, fun q hq => ?_, ho⟩
  · rcases List.mem_append.mp hq with hq | hq
    · exact (h.ws q hq).keep hs hw
    · rw [List.mem_singleton.mp hq]; exact hp1
  · rcases List.mem_append.mp hq with hq | hq
    · exact (h.ks q hq).keep hs hw
    · rw [List.mem_singleton.mp hq]; exact hp2
theorem info_item : (Tryz.prog.info? 51).map (fun i => (i.zero, i.size, i.bytes)) = some (some (.agg #[.string ⟨#[]⟩, .slice none 0 0, .bool false, .slice none 0 0, .int .i64 0, .int .i64 0]), 6, 88) := by kernel_rfl
noncomputable def treR (s : ByteArray) : Except (Int × Int × Int) (List It) := if s.size ≤ 40000 then treF (runesOf (nums s)) else .error (9, 1, 1)
def GivesTre (r : Except (Int × Int × Int) (List It)) (w : World) (e : Ending) (w' : World) : Prop :=
  Below w.heap.size w w' ∧ ((∃ c a b, r = .error (c, a, b) ∧ e = .returned (.tuple #[.slice none 0 0, .agg #[.int .i64 c, .int .i64 a, .int .i64 b]])) ∨
    ∃ L v, r = .ok L ∧ e = .returned (.tuple #[v, .agg #[.int .i64 0, .int .i64 0, .int .i64 0]]) ∧ ItemsIs 5 w' (fun b => w.heap.size ≤ b ∧ b < w'.heap.size) v L)

end Go.Proofs.YtmgimkokmlcllaaGreatDoor
