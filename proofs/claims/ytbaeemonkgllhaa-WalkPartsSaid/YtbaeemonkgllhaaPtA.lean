/- A row of pairs onto a row of pairs of one's own. -/
import Derived.Test.YtbaeemonkgllhaaPtG
namespace Go.Proofs.Ytbaeemonkgllhaa
open Go.RowKit
set_option linter.all false

theorem cellsP_at (l : List Pr) : ∀ (j : Nat) (u : Value), (cellsP l)[j]? = some u → ∃ (n : Nat) (q : Pr), l[n]? = some q ∧ ((j = n * 2 ∧ u = .int .i64 q.1) ∨ (j = n * 2 + 1 ∧ u = .int .i64 q.2)) := by
  induction l with
  | nil => intro j u h; simp [cellsP] at h
  | cons q l ih =>
    intro j u h
    match j with
    | 0 => exact ⟨0, q, rfl, .inl ⟨rfl, by simp [cellsP] at h; exact h.symm⟩⟩
    | 1 => exact ⟨0, q, rfl, .inr ⟨rfl, by simp [cellsP] at h; exact h.symm⟩⟩
    | j + 2 =>
      obtain ⟨n, q', h1, h2⟩ := ih j u (by simpa [cellsP] using h)
      refine ⟨n + 1, q', by simpa using h1, ?_⟩
      rcases h2 with ⟨rfl, rfl⟩ | ⟨rfl, rfl⟩
      · exact .inl ⟨by omega, rfl⟩
      · exact .inr ⟨by omega, rfl⟩
theorem cellsP_one (l : List Pr) : ∀ u ∈ cellsP l, u.oneCell' = true := by
  intro u hu
  obtain ⟨j, hj⟩ := List.getElem?_of_mem hu
  obtain ⟨n, q, _, ⟨_, rfl⟩ | ⟨_, rfl⟩⟩ := cellsP_at l j u hj <;> rfl
theorem cellsP_app (l l' : List Pr) : cellsP (l ++ l') = cellsP l ++ cellsP l' := by
  induction l with
  | nil => rfl
  | cons q l ih => simp [cellsP, ih]

/-- A slice of pairs is what an append takes. -/
theorem src_prs {w : World} {g o cap m c : Nat} {news : List Pr} (h : Prs w (some ⟨g, o, none⟩) cap news) (hm : m = news.length) : Source w (.slice (some ⟨g, o, none⟩) m c) news.length (cellsP news) := by
  subst hm
  refine .inr ⟨_, _, rfl, fun j u hj => ?_⟩
  obtain ⟨n, q, hq, hh⟩ := cellsP_at news j u hj
  obtain ⟨b, o', e, c0, c1⟩ := h.2.2 n q hq
  cases e
  rw [add_lit]
  rcases hh with ⟨rfl, rfl⟩ | ⟨rfl, rfl⟩
  · exact c0
  · rw [← Nat.add_assoc]; exact c1
theorem src_nil {w : World} {g o m c : Nat} (hm : m = 0) : Source w (.slice (some ⟨g, o, none⟩) m c) ([] : List Pr).length (cellsP []) := by
  subst hm
  exact .inr ⟨_, _, rfl, fun j u hj => by simp [cellsP] at hj⟩
theorem src_none {w : World} : Source w (.slice none 0 0) ([] : List Pr).length (cellsP []) := .inl ⟨rfl, rfl, rfl⟩

theorem prs_takeI {w : World} {a : Option Addr} {cap : Nat} {l : List Pr} (h : Prs w a cap l) (i : Nat) (hi : i ≤ l.length) : Prs w a cap (l.take i) := by
  refine ⟨by rw [List.length_take]; have := h.1; omega, h.2.1, fun n q hq => ?_⟩
  have hn : n < i := by have := (List.getElem?_eq_some_iff.1 hq).1; rw [List.length_take] at this; omega
  rw [List.getElem?_take_of_lt hn] at hq
  exact h.2.2 n q hq
theorem prs_dropI {w : World} {g o cap : Nat} {l : List Pr} (h : Prs w (some ⟨g, o, none⟩) cap l) (i : Nat) (hi : i ≤ l.length) : Prs w (some ⟨g, o + i * 2, none⟩) (cap - i) (l.drop i) := by
  refine ⟨by rw [List.length_drop]; have := h.1; omega, by have := h.2.1; omega, fun n q hq => ?_⟩
  rw [List.getElem?_drop] at hq
  obtain ⟨b, o', e, c0, c1⟩ := h.2.2 _ q hq
  cases e
  refine ⟨g, o + i * 2, rfl, ?_, ?_⟩
  · rw [show o + i * 2 + n * 2 = o + (i + n) * 2 by omega]; exact c0
  · rw [show o + i * 2 + n * 2 + 1 = o + (i + n) * 2 + 1 by omega]; exact c1

/-- An empty row written out. -/
theorem PRow.lit (w : World) : PRow (w.alloc (.cells #[] 30)) (fun j => j < w.heap.size) (.slice (some ⟨w.heap.size, 0, none⟩) 0 0) [] :=
  ⟨World.ownsRow_lit (base := 0) (size := 2) w #[] 0 (Nat.zero_le _) (Nat.zero_le _) rfl, fun k hk hs => by
    simp [Value.ownBlock] at hk; omega⟩

section
variable {w : World} {ops : Array Oper} {o : Oper} {a : Act} {K : Act → World → Prop} {Q : Exit → Act → World → Prop} {E : Prop}
theorem app_post {w w' : World} {S : Nat → Prop} {v v' : Value} {l news : List Pr} (h : PRow w S v l) (hS : ∀ k, S k → k < w.heap.size)
    (hown : w'.ownsRow 0 30 2 v' (l.length + news.length) (cellsP l ++ cellsP news)) (hgr : w.grownBy w' v.ownBlock) (hk : ∀ k, v'.ownBlock = some k → v.ownBlock = some k ∨ w.heap.size ≤ k) :
    ∃ ao cap, v' = .slice ao (l.length + news.length) cap ∧ cap ≤ maxLen ∧ l.length + news.length ≤ cap ∧ PRow w' S v' (l ++ news) ∧ Only (fun k => ¬ S k) w w' := by
  obtain ⟨ao, cap, rfl, h1, h2⟩ := row_form hown
  refine ⟨ao, cap, rfl, h2, h1, ⟨by rw [List.length_append, cellsP_app]; exact hown, fun j hj hs => ?_⟩, (Only.refl _ _).grown hgr (fun j hj _ hs => h.av j hj hs)⟩
  rcases hk j hj with e | e
  · exact h.av j e hs
  · have := hS j hs; omega
/-- Pairs are appended onto a row of one's own, as a step of a region that draws its order. -/
theorem step_app (hg : o.guard = none) (s x : Operand) (hop : o.op = Op.call { callee := Callee.builtin Builtin.append, args := #[s, x], argTypes := #[22, 22] })
    (S : Nat → Prop) (v : Value) (l news : List Pr) (hs : a.eval s = v) (h : PRow w S v l) (hS : ∀ k, S k → k < w.heap.size)
    (xv : Value) (hx : a.eval x = xv) (hsrc : Source w xv news.length (cellsP news)) (hl : l.length + news.length ≤ 1000000) (n : Nat) (hn : l.length + news.length = n) (ls : List Pr) (hls : l ++ news = ls)
    (H : ∀ ao cap w', cap ≤ maxLen → n ≤ cap → PRow w' S (.slice ao n cap) ls → Only (fun k => ¬ S k) w w' → K (a.put o.dst (.slice ao n cap)) w') :
    if Region.wanted o (yielded ops a.tmps) = true then Oper.wp Try.prog o a w K Q else E := by
  subst hn; subst hls
  obtain ⟨i, hi, hz, hs1, hs2⟩ := info_parts infoPair
  refine step_own_append hg s x 22 hop 30 i _ 2 16 Try.underlying22 hi hz hs1 hs2 rfl (by decide) v l.length (cellsP l) hs h.row xv news.length (cellsP news) hx hsrc (cellsP_len news) (cellsP_one news) (by unfold maxLen; omega) (by omega) ?_
  intro v' w' hown hgr hk
  obtain ⟨ao, cap, rfl, h1, h2, h3, h4⟩ := app_post h hS hown hgr hk
  exact H ao cap w' h1 h2 h3 h4
/-- The same in a walk in the text's order. -/
theorem wpList_app {rest : List Oper} (hgd : o.guard = none) (s x : Operand) (hop : o.op = Op.call { callee := Callee.builtin Builtin.append, args := #[s, x], argTypes := #[22, 22] })
    (S : Nat → Prop) (v : Value) (l news : List Pr) (hs : a.eval s = v) (h : PRow w S v l) (hS : ∀ k, S k → k < w.heap.size)
    (xv : Value) (hx : a.eval x = xv) (hsrc : Source w xv news.length (cellsP news)) (hl : l.length + news.length ≤ 1000000) (n : Nat) (hn : l.length + news.length = n) (ls : List Pr) (hls : l ++ news = ls)
    (H : ∀ ao cap w', cap ≤ maxLen → n ≤ cap → PRow w' S (.slice ao n cap) ls → Only (fun k => ¬ S k) w w' → wpList Try.prog ops Q rest (a.put o.dst (.slice ao n cap)) w') :
    wpList Try.prog ops Q (o :: rest) a w := by
  subst hn; subst hls
  obtain ⟨i, hi, hz, hs1, hs2⟩ := info_parts infoPair
  refine wpList_own_append hgd s x 22 hop 30 i _ 2 16 Try.underlying22 hi hz hs1 hs2 rfl (by decide) v l.length (cellsP l) hs h.row xv news.length (cellsP news) hx hsrc (cellsP_len news) (cellsP_one news) (by unfold maxLen; omega) (by omega) ?_
  intro v' w' hown hgr hk
  obtain ⟨ao, cap, rfl, h1, h2, h3, h4⟩ := app_post h hS hown hgr hk
  exact H ao cap w' h1 h2 h3 h4
end

theorem only_lt {w W W' : World} (b : Below w.heap.size w W) (o : Only (fun k => ¬ k < w.heap.size) W W') : Below w.heap.size w W' := b.trans (o.below (fun i hi => by omega) b.size)
end Go.Proofs.Ytbaeemonkgllhaa
