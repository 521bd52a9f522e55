/- Rows of pairs without an arena: read wherever they lie (Prs), made for oneself (PRow), appended to; a parameter []Pair; the plain mathematics of sorted pairs. No condition: definitions and lemmas. -/
import Derived.Test.YtadfnbmogobopaaRwG
import Derived.Lib.AppendZeros
namespace Go.Proofs.Ytadfnbmogobopaa
open Go.RowKit Go.Deep Go.ChangeShapes Go.WideShapes
set_option linter.all false
set_option maxRecDepth 20000

theorem cell_past {W W' : World} {o : Obj} {q : Addr} {v : Value} (hb : Below (W.alloc o).heap.size (W.alloc o) W') (hc : W.cell? q = some v) : W'.cell? q = some v := by
  have hA : Below W.heap.size W (W.alloc o) := (Below.refl _ _).alloc (Nat.le_refl _) _
  exact ((hA.trans (hb.mono hA.size)).cell (p := q) (World.block_lt_of_cell? W q hc)).trans hc
/-- A cell of the new block, behind the call. -/
theorem cell_new {W W' : World} {cs : Array Value} {t : TypeId} {v : Value} (hb : Below (W.alloc (.cells cs t)).heap.size (W.alloc (.cells cs t)) W') (j : Nat) (hj : cs[j]? = some v) : W'.cell? ⟨W.heap.size, j, none⟩ = some v :=
  (hb.cell (p := ⟨W.heap.size, j, none⟩) (by simp)).trans (by rw [World.cell?_alloc_new]; exact hj)
theorem cell_alloc {W : World} {q : Addr} {v : Value} (h : W.cell? q = some v) (o : Obj) : (W.alloc o).cell? q = some v :=
  (((Below.refl W.heap.size W).alloc (Nat.le_refl _) o).cell (p := q) (World.block_lt_of_cell? W q h)).trans h

abbrev Pr := Int × Int

/-- A slice of pairs that can be read. -/
def Prs (w : World) (a : Option Addr) (cap : Nat) (l : List Pr) : Prop :=
  l.length ≤ cap ∧ cap ≤ maxLen ∧ (∀ n q, l[n]? = some q → ∃ b o, a = some ⟨b, o, none⟩ ∧ w.cell? ⟨b, o + n * 2, none⟩ = some (.int .i64 q.1) ∧ w.cell? ⟨b, o + n * 2 + 1, none⟩ = some (.int .i64 q.2)) ∧ (a = none → cap = 0)

theorem Prs.below {w w' : World} {a : Option Addr} {cap : Nat} {l : List Pr} (h : Prs w a cap l) (hb : Below w.heap.size w w') : Prs w' a cap l :=
  ⟨h.1, h.2.1, fun n q hq => by
    obtain ⟨b, o, rfl, h0, h1⟩ := h.2.2.1 n q hq
    exact ⟨b, o, rfl, (hb.cell (World.block_lt_of_cell? w _ h0)).trans h0, (hb.cell (World.block_lt_of_cell? w _ h1)).trans h1⟩, h.2.2.2⟩
theorem Prs.nil (w : World) : Prs w none 0 [] := ⟨Nat.le_refl _, Nat.zero_le _, fun n q hq => by simp at hq, fun _ => rfl⟩

/-- All keys and values are numbers of 64 bits. -/
def Rng (l : List Pr) : Prop := ∀ q ∈ l, (Lit.int .i64 q.1).wf = true ∧ (Lit.int .i64 q.2).wf = true
theorem wf_range {a : Int} (h : (Lit.int .i64 a).wf = true) : -9223372036854775808 ≤ a ∧ a ≤ 9223372036854775807 := by
  have e1 : IntKind.i64.min = -9223372036854775808 := by decide
  have e2 : IntKind.i64.max = 9223372036854775807 := by decide
  simp [Lit.wf] at h
  omega

section
variable {H : Type} {enc : TypeId × Value → H} {w : World} {fuel : Nat} {x : DataW H × List MemPlace}

theorem fields_pairw {cs : List Value} (h : DataW.trod enc Try.prog w 0 (fun _ => true) true fuel 32 cs = some x) :
    ∃ k v : Int, cs = [.int .i64 k, .int .i64 v] ∧ (Lit.int .i64 k).wf = true ∧ (Lit.int .i64 v).wf = true := by
  obtain ⟨ys, n, _, _, hlen, hyl, hf⟩ := DataW.trod_struct Try.underlying32 h
  have hone : Try.prog.cellsOf 3 = 1 := by kernel_rfl
  have h2 : Try.prog.cellsOf 32 = 2 := by kernel_rfl
  rw [h2] at hlen
  have some_of : ∀ i, i < 2 → ∃ y, ys[i]? = some y := fun i hi => ⟨_, List.getElem?_eq_getElem (by rw [hyl]; exact hi)⟩
  match cs, hlen with
  | [v0, v1], _ =>
    obtain ⟨y0, e0⟩ := some_of 0 (by decide)
    obtain ⟨y1, e1⟩ := some_of 1 (by decide)
    have g0 : DataW.trod enc Try.prog w 0 (fun _ => true) true n 3 (([v0, v1].drop 0).take (Try.prog.cellsOf 3)) = ys[0]? := hf 0 _ rfl
    have g1 : DataW.trod enc Try.prog w 0 (fun _ => true) true n 3 (([v0, v1].drop 1).take (Try.prog.cellsOf 3)) = ys[1]? := hf 1 _ rfl
    rw [hone] at g0 g1
    rw [e0] at g0; rw [e1] at g1
    obtain ⟨n0, a0, _, b0⟩ := DataW.trod_int Try.underlying3 g0
    obtain ⟨n1, a1, _, b1⟩ := DataW.trod_int Try.underlying3 g1
    simp at a0 a1
    subst a0; subst a1
    exact ⟨n0, n1, rfl, b0, b1⟩
theorem fields_pair {cs : List Value} (h : DataW.trod enc Try.prog w 0 (fun _ => true) true fuel 32 cs = some x) :
    ∃ k v : Int, cs = [.int .i64 k, .int .i64 v] := by
  obtain ⟨k, v, e, _⟩ := fields_pairw h
  exact ⟨k, v, e⟩

theorem open_pairsw {v : Value} (h : DataW.trod enc Try.prog w 0 (fun _ => true) true fuel 22 [v] = some x) : ∃ a cap l, v = .slice a l.length cap ∧ Prs w a cap l ∧ Rng l := by
  have h2 : Try.prog.cellsOf 32 = 2 := by kernel_rfl
  rcases open_slice Try.underlying22 h with ⟨hcs, _⟩ | ⟨y, len, cap, m, n, D, Pl, hcs, hb, hl, hm, hmm, _, hi⟩
  · simp at hcs
    exact ⟨none, 0, [], hcs, Prs.nil w, fun q hq => by cases hq⟩
  · simp at hcs hmm
    subst hmm
    rw [h2] at hi
    have each : ∀ i, i < len → ∃ c : Pr, ((Lit.int .i64 c.1).wf = true ∧ (Lit.int .i64 c.2).wf = true) ∧ ∃ b o, y = ⟨b, o, none⟩ ∧ w.cell? ⟨b, o + i * 2, none⟩ = some (.int .i64 c.1) ∧ w.cell? ⟨b, o + i * 2 + 1, none⟩ = some (.int .i64 c.2) := by
      intro i him
      obtain ⟨cs', hc, ht⟩ := hi i (by omega)
      obtain ⟨_, hcl, hat⟩ := World.cells?_some hc
      obtain ⟨k, v, rfl, rg0, rg1⟩ := fields_pairw ht
      obtain ⟨cs0, hc0, _⟩ := hi 0 (by omega)
      obtain ⟨_, hcl0, hat0⟩ := World.cells?_some hc0
      obtain ⟨b, o, spot⟩ := y
      have hs : spot = none := by
        have h0 := hat0 0 (by decide)
        rw [List.getElem?_eq_getElem (by omega)] at h0
        simpa [Addr.add] using World.cell?_spot h0
      subst hs
      have at_ : ∀ j, j < 2 → w.cell? ⟨b, o + i * 2 + j, none⟩ = [Value.int .i64 k, .int .i64 v][j]? := fun j hj => by
        have := hat j hj
        rwa [add_lit, add_lit] at this
      exact ⟨(k, v), ⟨rg0, rg1⟩, b, o, rfl, at_ 0 (by decide), at_ 1 (by decide)⟩
    obtain ⟨f, hf⟩ := choose_lt each
    refine ⟨some y, m, (List.range len).map f, by simp [hcs], ⟨by simpa using hl, hm, fun n c hc => ?_, fun e => by cases e⟩, fun q hq => ?_⟩
    rotate_left
    · obtain ⟨j, hj, rfl⟩ := List.mem_map.1 hq
      exact (hf j (List.mem_range.1 hj)).1
    have hn : n < len := by
      rcases Nat.lt_or_ge n len with h | h
      · exact h
      · rw [List.getElem?_eq_none (by simpa using h)] at hc; cases hc
    rw [List.getElem?_map, List.getElem?_range hn] at hc
    simp at hc
    subst hc
    obtain ⟨_, b, o, rfl, hcl⟩ := hf n hn
    exact ⟨b, o, rfl, hcl⟩
theorem open_pairs {v : Value} (h : DataW.trod enc Try.prog w 0 (fun _ => true) true fuel 22 [v] = some x) : ∃ a cap l, v = .slice a l.length cap ∧ Prs w a cap l := by
  obtain ⟨a, cap, l, e, hp, _⟩ := open_pairsw h
  exact ⟨a, cap, l, e, hp⟩

end

def cellsP : List Pr → List Value
  | [] => []
  | q :: l => .int .i64 q.1 :: .int .i64 q.2 :: cellsP l
theorem cellsP_len (l : List Pr) : (cellsP l).length = l.length * 2 := by
  induction l with
  | nil => rfl
  | cons q l ih => simp only [cellsP, List.length_cons, ih]; omega
theorem cellsP_snoc (l : List Pr) (q : Pr) : cellsP (l ++ [q]) = cellsP l ++ [.int .i64 q.1, .int .i64 q.2] := by
  induction l with
  | nil => rfl
  | cons x l ih => simp [cellsP, ih]
theorem cellsP_get (l : List Pr) : ∀ (n : Nat) (q : Pr), l[n]? = some q → (cellsP l)[n * 2]? = some (.int .i64 q.1) ∧ (cellsP l)[n * 2 + 1]? = some (.int .i64 q.2) := by
  induction l with
  | nil => intro n q h; simp at h
  | cons x l ih =>
    intro n q h
    cases n with
    | zero => simp at h; subst h; simp [cellsP]
    | succ n =>
      simp only [List.getElem?_cons_succ] at h
      have := ih n q h
      have e : (n + 1) * 2 = n * 2 + 1 + 1 := by omega
      rw [e]
      simp only [cellsP, List.getElem?_cons_succ]
      exact this

/-- A row of pairs that a function makes for itself; its block is none of S. -/
structure PRow (w : World) (S : Nat → Prop) (v : Value) (l : List Pr) : Prop where
  row : w.ownsRow 0 32 2 v l.length (cellsP l)
  av : ∀ k, v.ownBlock = some k → ¬ S k

theorem PRow.nil (w : World) (S : Nat → Prop) : PRow w S (.slice none 0 0) [] := ⟨World.ownsRow_nil w 0 _ 2, fun k hk => by simp [Value.ownBlock] at hk⟩
theorem PRow.below {w w' : World} {S : Nat → Prop} {v : Value} {l : List Pr} (h : PRow w S v l) (hb : Below w.heap.size w w') : PRow w' S v l := by
  refine ⟨⟨h.row.1, ?_⟩, h.av⟩
  rcases h.row.2 with hn | ⟨g, cap, cur, rfl, hbb, hgg, rest⟩
  · exact .inl hn
  · refine .inr ⟨g, cap, cur, rfl, hbb, ?_, rest⟩
    rw [hb.block g (Array.getElem?_eq_some_iff.1 hgg).1]
    exact hgg
theorem PRow.sub {w : World} {S S' : Nat → Prop} {v : Value} {l : List Pr} (h : PRow w S v l) (hS : ∀ k, k < w.heap.size → S' k → S k) : PRow w S' v l :=
  ⟨h.row, fun k hk hs => h.av k hk (hS k (h.row.lt k hk).2 hs)⟩
theorem PRow.form {w : World} {S : Nat → Prop} {v : Value} {l : List Pr} (h : PRow w S v l) : ∃ ao cap, v = .slice ao l.length cap ∧ l.length ≤ cap ∧ cap ≤ maxLen := row_form h.row
theorem PRow.prs {w : World} {S : Nat → Prop} {a : Option Addr} {cap n : Nat} {l : List Pr} (h : PRow w S (.slice a n cap) l) (hn : n = l.length) : Prs w a cap l := by
  subst hn
  obtain ⟨ao, cap', e, hc, hm⟩ := h.form
  simp only [Value.slice.injEq, true_and] at e
  obtain ⟨rfl, rfl⟩ := e
  refine ⟨hc, hm, fun n q hq => ?_, fun e0 => ?_⟩
  rotate_left
  · rcases h.row.2 with ⟨e, _⟩ | ⟨g, cap', cur, e, _⟩
    · simp only [Value.slice.injEq] at e; exact e.2.2
    · simp only [Value.slice.injEq] at e; rw [e0] at e; exact absurd e.1 (by simp)
  have hlt : n < l.length := (List.getElem?_eq_some_iff.1 hq).1
  obtain ⟨g, cap2, e, _⟩ := row_at h.row (by omega)
  simp only [Value.slice.injEq, true_and] at e
  obtain ⟨rfl, rfl⟩ := e
  have hg := cellsP_get l n q hq
  refine ⟨g, 0, rfl, ?_, ?_⟩
  · rw [Nat.zero_add, h.row.cellAt _ (by omega)]; exact hg.1
  · rw [Nat.zero_add, h.row.cellAt _ (by omega)]; exact hg.2

theorem infoPair : (Try.prog.info? 32).map (fun i => (i.zero, i.size, i.bytes)) = some (some (.agg #[.int .i64 0, .int .i64 0]), 2, 16) := by kernel_rfl

/-- A pair is appended onto a row of one's own. -/
theorem wpList_push {w : World} {ops : Array Oper} {rest : List Oper} {o : Oper} {a : Act} {Q : Exit → Act → World → Prop} (hgd : o.guard = none) (s x : Operand)
    (ho : o.op = .call { callee := .builtin .append, args := #[s, x], argTypes := #[22, 22] })
    (S : Nat → Prop) (v : Value) (l : List Pr) (k u : Int) (hs : a.eval s = v) (h : PRow w S v l) (hS : ∀ k, S k → k < w.heap.size)
    (g : Nat) (hx : a.eval x = .slice (some ⟨g, 0, none⟩) 1 1) (hg : g = w.heap.size) (hl : l.length ≤ 100000000000)
    (H : ∀ ao cap w', cap ≤ maxLen → l.length + 1 ≤ cap → PRow w' S (.slice ao (l.length + 1) cap) (l ++ [(k, u)]) → (∀ q c, S q.block → w.cell? q = some c → w'.cell? q = some c) → Only (fun k => ¬ S k) w w' →
      wpList Try.prog ops Q rest (a.put o.dst (.slice ao (l.length + 1) cap)) w') :
    wpList Try.prog ops Q (o :: rest) a (w.alloc (.cells #[.int .i64 k, .int .i64 u] 32)) := by
  subst hg
  have hA : Below w.heap.size w (w.alloc (.cells #[.int .i64 k, .int .i64 u] 32)) := (Below.refl _ _).alloc (Nat.le_refl _) _
  have h' := h.below hA
  obtain ⟨i, hi, hz, hs1, hs2⟩ := info_parts infoPair
  refine wpList_own_append hgd s x 22 ho 32 i _ 2 16 Try.underlying22 hi hz hs1 hs2 rfl (by decide) v l.length (cellsP l) hs h'.row _ 1 [.int .i64 k, .int .i64 u] hx
    (.inr ⟨_, _, rfl, cells_new _ #[.int .i64 k, .int .i64 u] _⟩) rfl (by intro y hy; simp at hy; rcases hy with rfl | rfl <;> rfl) (by unfold maxLen; omega) (by omega) ?_
  intro v' w' hown hgr hk
  obtain ⟨ao, cap, rfl, h1, h2⟩ := row_form hown
  have hav : ∀ k, (Value.slice ao (l.length + 1) cap).ownBlock = some k → ¬ S k := by
    intro j hj hs
    rcases hk j hj with e | e
    · exact h.av j e hs
    · have := hS j hs
      have := hA.size
      omega
  refine H ao cap w' h2 h1 ⟨by simpa [cellsP_snoc] using hown, hav⟩ (fun q c hq hc => ?_) ?_
  · have hne : some q.block ≠ v.ownBlock := fun e => h.av q.block e.symm hq
    exact hgr.cell (((hA.cell (World.block_lt_of_cell? w q hc)).trans hc)) hne
  · exact ((Only.ofBelow hA).mono (fun i hi hlt => absurd hlt (by omega))).grown hgr (fun j hj _ hs => h.av j hj hs)

theorem cellsP_at (l : List Pr) : ∀ (j : Nat) (u : Value), (cellsP l)[j]? = some u → ∃ (n : Nat) (q : Pr), l[n]? = some q ∧ ((j = n * 2 ∧ u = .int .i64 q.1) ∨ (j = n * 2 + 1 ∧ u = .int .i64 q.2)) := by
  induction l with
  | nil => intro j u h; simp [cellsP] at h
  | cons q l ih =>
    intro j u h
    match j with
    | 0 => exact ⟨0, q, rfl, .inl ⟨rfl, by simp [cellsP] at h; exact h.symm⟩⟩
    | 1 => exact ⟨0, q, rfl, .inr ⟨rfl, by simp [cellsP] at h; exact h.symm⟩⟩
    | j + 2 =>
      obtain ⟨n, q', h1, h2⟩ := ih j u (by simpa [cellsP] using h)
      refine ⟨n + 1, q', by simpa using h1, ?_⟩
      rcases h2 with ⟨rfl, rfl⟩ | ⟨rfl, rfl⟩
      · exact .inl ⟨by omega, rfl⟩
      · exact .inr ⟨by omega, rfl⟩
theorem cellsP_one (l : List Pr) : ∀ u ∈ cellsP l, u.oneCell' = true := by
  intro u hu
  obtain ⟨j, hj⟩ := List.getElem?_of_mem hu
  obtain ⟨n, q, _, ⟨_, rfl⟩ | ⟨_, rfl⟩⟩ := cellsP_at l j u hj <;> rfl
theorem cellsP_app (l l' : List Pr) : cellsP (l ++ l') = cellsP l ++ cellsP l' := by
  induction l with
  | nil => rfl
  | cons q l ih => simp [cellsP, ih]

/-- A slice of pairs is what an append takes. -/
theorem src_prs {w : World} {g o cap m c : Nat} {news : List Pr} (h : Prs w (some ⟨g, o, none⟩) cap news) (hm : m = news.length) : Source w (.slice (some ⟨g, o, none⟩) m c) news.length (cellsP news) := by
  subst hm
  refine .inr ⟨_, _, rfl, fun j u hj => ?_⟩
  obtain ⟨n, q, hq, hh⟩ := cellsP_at news j u hj
  obtain ⟨b, o', e, c0, c1⟩ := h.2.2.1 n q hq
  cases e
  rw [add_lit]
  rcases hh with ⟨rfl, rfl⟩ | ⟨rfl, rfl⟩
  · exact c0
  · rw [← Nat.add_assoc]; exact c1
theorem src_nil {w : World} {g o m c : Nat} (hm : m = 0) : Source w (.slice (some ⟨g, o, none⟩) m c) ([] : List Pr).length (cellsP []) := by
  subst hm
  exact .inr ⟨_, _, rfl, fun j u hj => by simp [cellsP] at hj⟩
theorem src_none {w : World} : Source w (.slice none 0 0) ([] : List Pr).length (cellsP []) := .inl ⟨rfl, rfl, rfl⟩

theorem prs_takeI {w : World} {a : Option Addr} {cap : Nat} {l : List Pr} (h : Prs w a cap l) (i : Nat) (hi : i ≤ l.length) : Prs w a cap (l.take i) := by
  refine ⟨by rw [List.length_take]; have := h.1; omega, h.2.1, fun n q hq => ?_, h.2.2.2⟩
  have hn : n < i := by have := (List.getElem?_eq_some_iff.1 hq).1; rw [List.length_take] at this; omega
  rw [List.getElem?_take_of_lt hn] at hq
  exact h.2.2.1 n q hq
theorem prs_dropI {w : World} {g o cap : Nat} {l : List Pr} (h : Prs w (some ⟨g, o, none⟩) cap l) (i : Nat) (hi : i ≤ l.length) : Prs w (some ⟨g, o + i * 2, none⟩) (cap - i) (l.drop i) := by
  refine ⟨by rw [List.length_drop]; have := h.1; omega, by have := h.2.1; omega, fun n q hq => ?_, fun e => by cases e⟩
  rw [List.getElem?_drop] at hq
  obtain ⟨b, o', e, c0, c1⟩ := h.2.2.1 _ q hq
  cases e
  refine ⟨g, o + i * 2, rfl, ?_, ?_⟩
  · rw [show o + i * 2 + n * 2 = o + (i + n) * 2 by omega]; exact c0
  · rw [show o + i * 2 + n * 2 + 1 = o + (i + n) * 2 + 1 by omega]; exact c1

/-- An empty row written out. -/
theorem PRow.lit (w : World) : PRow (w.alloc (.cells #[] 32)) (fun j => j < w.heap.size) (.slice (some ⟨w.heap.size, 0, none⟩) 0 0) [] :=
  ⟨World.ownsRow_lit (base := 0) (size := 2) w #[] 0 (Nat.zero_le _) (Nat.zero_le _) rfl, fun k hk hs => by
    simp [Value.ownBlock] at hk; omega⟩

section
variable {w : World} {ops : Array Oper} {o : Oper} {a : Act} {K : Act → World → Prop} {Q : Exit → Act → World → Prop} {E : Prop}
theorem app_post {w w' : World} {S : Nat → Prop} {v v' : Value} {l news : List Pr} (h : PRow w S v l) (hS : ∀ k, S k → k < w.heap.size)
    (hown : w'.ownsRow 0 32 2 v' (l.length + news.length) (cellsP l ++ cellsP news)) (hgr : w.grownBy w' v.ownBlock) (hk : ∀ k, v'.ownBlock = some k → v.ownBlock = some k ∨ w.heap.size ≤ k) :
    ∃ ao cap, v' = .slice ao (l.length + news.length) cap ∧ cap ≤ maxLen ∧ l.length + news.length ≤ cap ∧ PRow w' S v' (l ++ news) ∧ Only (fun k => ¬ S k) w w' := by
  obtain ⟨ao, cap, rfl, h1, h2⟩ := row_form hown
  refine ⟨ao, cap, rfl, h2, h1, ⟨by rw [List.length_append, cellsP_app]; exact hown, fun j hj hs => ?_⟩, (Only.refl _ _).grown hgr (fun j hj _ hs => h.av j hj hs)⟩
  rcases hk j hj with e | e
  · exact h.av j e hs
  · have := hS j hs; omega
/-- Pairs are appended onto a row of one's own, as a step of a region that draws its order. -/
theorem step_app (hg : o.guard = none) (s x : Operand) (hop : o.op = Op.call { callee := Callee.builtin Builtin.append, args := #[s, x], argTypes := #[22, 22] })
    (S : Nat → Prop) (v : Value) (l news : List Pr) (hs : a.eval s = v) (h : PRow w S v l) (hS : ∀ k, S k → k < w.heap.size)
    (xv : Value) (hx : a.eval x = xv) (hsrc : Source w xv news.length (cellsP news)) (hl : l.length + news.length ≤ 100000000000) (n : Nat) (hn : l.length + news.length = n) (ls : List Pr) (hls : l ++ news = ls)
    (H : ∀ ao cap w', cap ≤ maxLen → n ≤ cap → PRow w' S (.slice ao n cap) ls → Only (fun k => ¬ S k) w w' → K (a.put o.dst (.slice ao n cap)) w') :
    if Region.wanted o (yielded ops a.tmps) = true then Oper.wp Try.prog o a w K Q else E := by
  subst hn; subst hls
  obtain ⟨i, hi, hz, hs1, hs2⟩ := info_parts infoPair
  refine step_own_append hg s x 22 hop 32 i _ 2 16 Try.underlying22 hi hz hs1 hs2 rfl (by decide) v l.length (cellsP l) hs h.row xv news.length (cellsP news) hx hsrc (cellsP_len news) (cellsP_one news) (by unfold maxLen; omega) (by omega) ?_
  intro v' w' hown hgr hk
  obtain ⟨ao, cap, rfl, h1, h2, h3, h4⟩ := app_post h hS hown hgr hk
  exact H ao cap w' h1 h2 h3 h4
/-- The same in a walk in the text's order. -/
theorem wpList_app {rest : List Oper} (hgd : o.guard = none) (s x : Operand) (hop : o.op = Op.call { callee := Callee.builtin Builtin.append, args := #[s, x], argTypes := #[22, 22] })
    (S : Nat → Prop) (v : Value) (l news : List Pr) (hs : a.eval s = v) (h : PRow w S v l) (hS : ∀ k, S k → k < w.heap.size)
    (xv : Value) (hx : a.eval x = xv) (hsrc : Source w xv news.length (cellsP news)) (hl : l.length + news.length ≤ 100000000000) (n : Nat) (hn : l.length + news.length = n) (ls : List Pr) (hls : l ++ news = ls)
    (H : ∀ ao cap w', cap ≤ maxLen → n ≤ cap → PRow w' S (.slice ao n cap) ls → Only (fun k => ¬ S k) w w' → wpList Try.prog ops Q rest (a.put o.dst (.slice ao n cap)) w') :
    wpList Try.prog ops Q (o :: rest) a w := by
  subst hn; subst hls
  obtain ⟨i, hi, hz, hs1, hs2⟩ := info_parts infoPair
  refine wpList_own_append hgd s x 22 hop 32 i _ 2 16 Try.underlying22 hi hz hs1 hs2 rfl (by decide) v l.length (cellsP l) hs h.row xv news.length (cellsP news) hx hsrc (cellsP_len news) (cellsP_one news) (by unfold maxLen; omega) (by omega) ?_
  intro v' w' hown hgr hk
  obtain ⟨ao, cap, rfl, h1, h2, h3, h4⟩ := app_post h hS hown hgr hk
  exact H ao cap w' h1 h2 h3 h4
end

theorem only_lt {w W W' : World} (b : Below w.heap.size w W) (o : Only (fun k => ¬ k < w.heap.size) W W') : Below w.heap.size w W' := b.trans (o.below (fun i hi => by omega) b.size)
theorem PRow.more {w : World} {S : Nat → Prop} {v : Value} {l : List Pr} (h : PRow w S v l) (o : Obj) : PRow (w.alloc o) (fun j => S j ∨ j = w.heap.size) v l :=
  ⟨(h.below ((Below.refl _ _).alloc (Nat.le_refl _) o)).row, fun k hk hs => by
    rcases hs with hs | hs
    · exact h.av k hk hs
    · have := (h.row.lt k hk).2
      omega⟩
theorem only_below {w w0 w1 : World} {S : Nat → Prop} (b : Below w0.heap.size w0 w) (o : Only (fun k => ¬ S k) w w1) (h : ∀ k, k < w0.heap.size → S k) : Below w0.heap.size w0 w1 :=
  b.trans ⟨o.os, o.tape, o.output, o.size, fun i hi => o.block i (Nat.lt_of_lt_of_le hi b.size) (fun hn => hn (h i hi))⟩

def wStep (k v : Int) (s : List Pr × Bool) (x : Pr) : List Pr × Bool :=
  if s.2 = false ∧ k ≤ x.1 then (if x.1 = k then (s.1 ++ [(k, v)], true) else (s.1 ++ [(k, v)] ++ [x], true))
  else (if x.1 = k then s else (s.1 ++ [x], s.2))
def wAcc (k v : Int) (l : List Pr) : Nat → List Pr × Bool
  | 0 => ([], false)
  | n + 1 => wStep k v (wAcc k v l n) (l.getD n (0, 0))
def withL (l : List Pr) (k v : Int) : List Pr := if (wAcc k v l l.length).2 = true then (wAcc k v l l.length).1 else (wAcc k v l l.length).1 ++ [(k, v)]
theorem wAcc_next {k v : Int} {l l' : List Pr} {n : Nat} {d : Bool} {x0 x1 : Int} (h : wAcc k v l n = (l', d)) (hq : l.getD n (0, 0) = (x0, x1)) : wAcc k v l (n + 1) = wStep k v (l', d) (x0, x1) := by
  show wStep k v (wAcc k v l n) (l.getD n (0, 0)) = _
  rw [h, hq]
theorem wS_ge_eq {k v x0 x1 : Int} {l' : List Pr} (h : k ≤ x0) (hn : (x0 != k) = false) : wStep k v (l', false) (x0, x1) = (l' ++ [(k, v)], true) := by
  have : x0 = k := by simpa using hn
  unfold wStep; rw [if_pos ⟨rfl, h⟩, if_pos this]
theorem wS_ge_ne {k v x0 x1 : Int} {l' : List Pr} (h : k ≤ x0) (hn : (x0 != k) = true) : wStep k v (l', false) (x0, x1) = (l' ++ [(k, v)] ++ [(x0, x1)], true) := by
  have : ¬ x0 = k := by simpa using hn
  unfold wStep; rw [if_pos ⟨rfl, h⟩, if_neg this]
theorem wS_lt {k v x0 x1 : Int} {l' : List Pr} (h : x0 < k) : wStep k v (l', false) (x0, x1) = (l' ++ [(x0, x1)], false) := by
  unfold wStep; rw [if_neg (fun hh => by have := hh.2; dsimp only at this; omega), if_neg (by dsimp only; omega)]
theorem wS_t_eq {k v x0 x1 : Int} {l' : List Pr} (hn : (x0 != k) = false) : wStep k v (l', true) (x0, x1) = (l', true) := by
  have : x0 = k := by simpa using hn
  unfold wStep; rw [if_neg (fun hh => by cases hh.1), if_pos this]
theorem wS_t_ne {k v x0 x1 : Int} {l' : List Pr} (hn : (x0 != k) = true) : wStep k v (l', true) (x0, x1) = (l' ++ [(x0, x1)], true) := by
  have : ¬ x0 = k := by simpa using hn
  unfold wStep; rw [if_neg (fun hh => by cases hh.1), if_neg this]

/-- The keys rise. -/
def Srt (l : List Pr) : Prop := l.Pairwise (fun a b => a.1 < b.1)

theorem Srt.nil : Srt [] := List.Pairwise.nil
theorem Srt.at {l : List Pr} (h : Srt l) (i j : Nat) (a b : Pr) (hij : i < j) (ha : l[i]? = some a) (hb : l[j]? = some b) : a.1 < b.1 := by
  obtain ⟨hi, ea⟩ := List.getElem?_eq_some_iff.1 ha
  obtain ⟨hj, eb⟩ := List.getElem?_eq_some_iff.1 hb
  have := (List.pairwise_iff_getElem.1 h) i j hi hj hij
  rw [ea, eb] at this
  exact this
theorem Srt.take {l : List Pr} (h : Srt l) (n : Nat) : Srt (l.take n) := h.sublist (List.take_sublist n l)
theorem Srt.drop {l : List Pr} (h : Srt l) (n : Nat) : Srt (l.drop n) := h.sublist (List.drop_sublist n l)
theorem Srt.filter {l : List Pr} (h : Srt l) (p : Pr → Bool) : Srt (l.filter p) := h.sublist List.filter_sublist

theorem wAcc_srt (k v : Int) (l : List Pr) (h : Srt l) : ∀ n, n ≤ l.length →
    ((wAcc k v l n).2 = false → (wAcc k v l n).1 = l.take n ∧ ∀ x ∈ l.take n, x.1 < k) ∧
    ((wAcc k v l n).2 = true → (wAcc k v l n).1 = (l.take n).filter (fun x => decide (x.1 < k)) ++ [(k, v)] ++ (l.take n).filter (fun x => decide (k < x.1)) ∧ ∃ y ∈ l.take n, k ≤ y.1) := by
  intro n
  induction n with
  | zero => intro _; exact ⟨fun _ => ⟨by simp [wAcc], by simp⟩, fun hh => by simp [wAcc] at hh⟩
  | succ n ih =>
    intro hn
    obtain ⟨ih1, ih2⟩ := ih (by omega)
    obtain ⟨x, hx⟩ : ∃ x, l[n]? = some x := ⟨_, List.getElem?_eq_getElem (by omega)⟩
    have hxd : l.getD n (0, 0) = x := by simp [List.getD, hx]
    have htk : l.take (n + 1) = l.take n ++ [x] := by rw [List.take_add_one, hx]; rfl
    have hst : wAcc k v l (n + 1) = wStep k v (wAcc k v l n) x := by show wStep k v (wAcc k v l n) (l.getD n (0, 0)) = _; rw [hxd]
    rw [hst, htk]
    cases hd : (wAcc k v l n).2 with
    | false =>
      obtain ⟨e1, e2⟩ := ih1 hd
      have f1 : (l.take n).filter (fun y => decide (y.1 < k)) = l.take n := List.filter_eq_self.2 (fun y hy => by simpa using e2 y hy)
      have f2 : (l.take n).filter (fun y => decide (k < y.1)) = [] := List.filter_eq_nil_iff.2 (fun y hy => by have := e2 y hy; simp; omega)
      have hs : wAcc k v l n = (l.take n, false) := Prod.ext e1 hd
      rw [hs]
      by_cases hge : k ≤ x.1
      · by_cases hne : x.1 = k
        · have hw : wStep k v (l.take n, false) x = (l.take n ++ [(k, v)], true) := by unfold wStep; rw [if_pos ⟨rfl, hge⟩, if_pos hne]
          rw [hw]
          refine ⟨fun hh => Bool.noConfusion hh, fun _ => ⟨?_, ⟨x, by simp, hge⟩⟩⟩
          rw [List.filter_append, List.filter_append, f1, f2]
          simp [hne]
        · have hw : wStep k v (l.take n, false) x = (l.take n ++ [(k, v)] ++ [x], true) := by unfold wStep; rw [if_pos ⟨rfl, hge⟩, if_neg hne]
          rw [hw]
          refine ⟨fun hh => Bool.noConfusion hh, fun _ => ⟨?_, ⟨x, by simp, hge⟩⟩⟩
          have g1 : ¬ x.1 < k := by omega
          have g2 : k < x.1 := by omega
          rw [List.filter_append, List.filter_append, f1, f2]
          simp [g1, g2]
      · have hne : ¬ x.1 = k := by omega
        have hw : wStep k v (l.take n, false) x = (l.take n ++ [x], false) := by unfold wStep; rw [if_neg (fun hh => hge hh.2), if_neg hne]
        rw [hw]
        refine ⟨fun _ => ⟨rfl, fun y hy => ?_⟩, fun hh => by cases hh⟩
        rcases List.mem_append.1 hy with hy | hy
        · exact e2 y hy
        · simp at hy; subst hy; omega
    | true =>
      obtain ⟨e1, y, hy, hky⟩ := ih2 hd
      have hs : wAcc k v l n = ((l.take n).filter (fun x => decide (x.1 < k)) ++ [(k, v)] ++ (l.take n).filter (fun x => decide (k < x.1)), true) := Prod.ext e1 hd
      rw [hs]
      obtain ⟨i, hi⟩ := List.getElem?_of_mem hy
      have hin : i < n := by
        have := (List.getElem?_eq_some_iff.1 hi).1
        rw [List.length_take] at this
        omega
      rw [List.getElem?_take_of_lt hin] at hi
      have hlt := h.at i n y x hin hi hx
      have g1 : ¬ x.1 < k := by omega
      have g2 : k < x.1 := by omega
      have hne : ¬ x.1 = k := by omega
      have hw : ∀ s : List Pr, wStep k v (s, true) x = (s ++ [x], true) := fun s => by unfold wStep; rw [if_neg (fun hh => by cases hh.1), if_neg hne]
      rw [hw]
      refine ⟨fun hh => Bool.noConfusion hh, fun _ => ⟨?_, ⟨y, List.mem_append_left _ hy, hky⟩⟩⟩
      rw [List.filter_append, List.filter_append]
      simp [g1, g2]

/-- With of pairs that may be: those below, the pair, those above. -/
theorem withL_srt (l : List Pr) (k v : Int) (h : Srt l) : withL l k v = l.filter (fun x => decide (x.1 < k)) ++ [(k, v)] ++ l.filter (fun x => decide (k < x.1)) := by
  obtain ⟨h1, h2⟩ := wAcc_srt k v l h l.length (Nat.le_refl _)
  rw [List.take_length] at h1 h2
  unfold withL
  cases hd : (wAcc k v l l.length).2 with
  | false =>
    obtain ⟨e1, e2⟩ := h1 hd
    rw [if_neg (by decide), e1, List.filter_eq_self.2 (fun y hy => by simpa using e2 y hy), List.filter_eq_nil_iff.2 (fun y hy => by have := e2 y hy; simp; omega), List.append_nil]
  | true =>
    rw [if_pos rfl]
    exact (h2 hd).1
theorem withL_is_srt (l : List Pr) (k v : Int) (h : Srt l) : Srt (withL l k v) := by
  rw [withL_srt l k v h]
  unfold Srt
  rw [List.pairwise_append, List.pairwise_append]
  refine ⟨⟨h.filter _, List.pairwise_singleton _ _, fun a ha b hb => ?_⟩, h.filter _, fun a ha b hb => ?_⟩
  · simp at ha hb
    subst hb
    exact ha.2
  · simp at hb
    rcases List.mem_append.1 ha with ha | ha
    · simp at ha
      omega
    · simp at ha
      subst ha
      exact hb.2

theorem withL_mem {l : List Pr} {k v : Int} {x : Pr} (h : Srt l) (hx : x ∈ withL l k v) : x = (k, v) ∨ x ∈ l := by
  rw [withL_srt l k v h] at hx
  rcases List.mem_append.1 hx with hx | hx
  · rcases List.mem_append.1 hx with hx | hx
    · exact .inr (List.mem_filter.1 hx).1
    · exact .inl (List.mem_singleton.1 hx)
  · exact .inr (List.mem_filter.1 hx).1
end Go.Proofs.Ytadfnbmogobopaa
