/- Slices of pairs: rows of one's own; contracts of osierref1.With and osierlaw3.Pairs: a slice of so many pairs at most, in memory of its own. -/
import Derived.Test.YtbmlpdkbiipcmaaNArgs
namespace Go.Proofs.Ytbmlpdkbiipcmaa
open Go.RowKit
set_option linter.all false

def cellsP : List Pr → List Value
  | [] => []
  | q :: l => .int .i64 q.1 :: .int .i64 q.2 :: cellsP l
theorem cellsP_len (l : List Pr) : (cellsP l).length = l.length * 2 := by
  induction l with
  | nil => rfl
  | cons q l ih => simp only [cellsP, List.length_cons, ih]; omega
theorem cellsP_snoc (l : List Pr) (q : Pr) : cellsP (l ++ [q]) = cellsP l ++ [.int .i64 q.1, .int .i64 q.2] := by
  induction l with
  | nil => rfl
  | cons x l ih => simp [cellsP, ih]
theorem cellsP_get (l : List Pr) : ∀ (n : Nat) (q : Pr), l[n]? = some q → (cellsP l)[n * 2]? = some (.int .i64 q.1) ∧ (cellsP l)[n * 2 + 1]? = some (.int .i64 q.2) := by
  induction l with
  | nil => intro n q h; simp at h
  | cons x l ih =>
    intro n q h
    cases n with
    | zero => simp at h; subst h; simp [cellsP]
    | succ n =>
      simp only [List.getElem?_cons_succ] at h
      have := ih n q h
      have e : (n + 1) * 2 = n * 2 + 1 + 1 := by omega
      rw [e]
      simp only [cellsP, List.getElem?_cons_succ]
      exact this

/-- A row of pairs that a function makes for itself; its block is none of S. -/
structure PRow (w : World) (S : Nat → Prop) (v : Value) (l : List Pr) : Prop where
  row : w.ownsRow 0 24 2 v l.length (cellsP l)
  av : ∀ k, v.ownBlock = some k → ¬ S k

theorem PRow.nil (w : World) (S : Nat → Prop) : PRow w S (.slice none 0 0) [] := ⟨World.ownsRow_nil w 0 _ 2, fun k hk => by simp [Value.ownBlock] at hk⟩
theorem PRow.below {w w' : World} {S : Nat → Prop} {v : Value} {l : List Pr} (h : PRow w S v l) (hb : Below w.heap.size w w') : PRow w' S v l := by
  refine ⟨⟨h.row.1, ?_⟩, h.av⟩
  rcases h.row.2 with hn | ⟨g, cap, cur, rfl, hbb, hgg, rest⟩
  · exact .inl hn
  · refine .inr ⟨g, cap, cur, rfl, hbb, ?_, rest⟩
    rw [hb.block g (Array.getElem?_eq_some_iff.1 hgg).1]
    exact hgg
theorem PRow.sub {w : World} {S S' : Nat → Prop} {v : Value} {l : List Pr} (h : PRow w S v l) (hS : ∀ k, k < w.heap.size → S' k → S k) : PRow w S' v l :=
  ⟨h.row, fun k hk hs => h.av k hk (hS k (h.row.lt k hk).2 hs)⟩
theorem PRow.form {w : World} {S : Nat → Prop} {v : Value} {l : List Pr} (h : PRow w S v l) : ∃ ao cap, v = .slice ao l.length cap ∧ l.length ≤ cap ∧ cap ≤ maxLen := row_form h.row
theorem PRow.prs {w : World} {S : Nat → Prop} {a : Option Addr} {cap n : Nat} {l : List Pr} (h : PRow w S (.slice a n cap) l) (hn : n = l.length) : Prs w a cap l := by
  subst hn
  obtain ⟨ao, cap', e, hc, hm⟩ := h.form
  simp only [Value.slice.injEq, true_and] at e
  obtain ⟨rfl, rfl⟩ := e
  refine ⟨hc, hm, fun n q hq => ?_⟩
  have hlt : n < l.length := (List.getElem?_eq_some_iff.1 hq).1
  obtain ⟨g, cap2, e, _⟩ := row_at h.row (by omega)
  simp only [Value.slice.injEq, true_and] at e
  obtain ⟨rfl, rfl⟩ := e
  have hg := cellsP_get l n q hq
  refine ⟨g, 0, rfl, ?_, ?_⟩
  · rw [Nat.zero_add, h.row.cellAt _ (by omega)]; exact hg.1
  · rw [Nat.zero_add, h.row.cellAt _ (by omega)]; exact hg.2

theorem infoPair : (Try.prog.info? 24).map (fun i => (i.zero, i.size, i.bytes)) = some (some (.agg #[.int .i64 0, .int .i64 0]), 2, 16) := by kernel_rfl

/-- A pair is appended onto a row of one's own. -/
theorem wpList_push {w : World} {ops : Array Oper} {rest : List Oper} {o : Oper} {a : Act} {Q : Exit → Act → World → Prop} (hgd : o.guard = none) (s x : Operand)
    (ho : o.op = .call { callee := .builtin .append, args := #[s, x], argTypes := #[22, 22] })
    (S : Nat → Prop) (v : Value) (l : List Pr) (k u : Int) (hs : a.eval s = v) (h : PRow w S v l) (hS : ∀ k, S k → k < w.heap.size)
    (g : Nat) (hx : a.eval x = .slice (some ⟨g, 0, none⟩) 1 1) (hg : g = w.heap.size) (hl : l.length ≤ 1000000)
    (H : ∀ ao cap w', cap ≤ maxLen → l.length + 1 ≤ cap → PRow w' S (.slice ao (l.length + 1) cap) (l ++ [(k, u)]) → (∀ q c, S q.block → w.cell? q = some c → w'.cell? q = some c) → Only (fun k => ¬ S k) w w' →
      wpList Try.prog ops Q rest (a.put o.dst (.slice ao (l.length + 1) cap)) w') :
    wpList Try.prog ops Q (o :: rest) a (w.alloc (.cells #[.int .i64 k, .int .i64 u] 24)) := by
  subst hg
  have hA : Below w.heap.size w (w.alloc (.cells #[.int .i64 k, .int .i64 u] 24)) := (Below.refl _ _).alloc (Nat.le_refl _) _
  have h' := h.below hA
  obtain ⟨i, hi, hz, hs1, hs2⟩ := info_parts infoPair
  refine wpList_own_append hgd s x 22 ho 24 i _ 2 16 Try.underlying22 hi hz hs1 hs2 rfl (by decide) v l.length (cellsP l) hs h'.row _ 1 [.int .i64 k, .int .i64 u] hx
    (.inr ⟨_, _, rfl, cells_new _ #[.int .i64 k, .int .i64 u] _⟩) rfl (by intro y hy; simp at hy; rcases hy with rfl | rfl <;> rfl) (by unfold maxLen; omega) (by omega) ?_
  intro v' w' hown hgr hk
  obtain ⟨ao, cap, rfl, h1, h2⟩ := row_form hown
  have hav : ∀ k, (Value.slice ao (l.length + 1) cap).ownBlock = some k → ¬ S k := by
    intro j hj hs
    rcases hk j hj with e | e
    · exact h.av j e hs
    · have := hS j hs
      have := hA.size
      omega
  refine H ao cap w' h2 h1 ⟨by simpa [cellsP_snoc] using hown, hav⟩ (fun q c hq hc => ?_) ?_
  · have hne : some q.block ≠ v.ownBlock := fun e => h.av q.block e.symm hq
    exact hgr.cell (((hA.cell (World.block_lt_of_cell? w q hc)).trans hc)) hne
  · exact ((Only.ofBelow hA).mono (fun i hi hlt => absurd hlt (by omega))).grown hgr (fun j hj _ hs => h.av j hj hs)
end Go.Proofs.Ytbmlpdkbiipcmaa
