/- Rows of bools of one's own: read, appended to. No condition: definitions and lemmas. -/
import Derived.Test.YtlpjbgojijkdjaaTrG
namespace Go.Proofs.Ytlpjbgojijkdjaa
open Go.RowKit
set_option linter.all false

/-- Bools that are read from a slice. -/
def RB (w : World) (a : Option Addr) (cap : Nat) (l : List Bool) : Prop :=
  l.length ≤ cap ∧ cap ≤ maxLen ∧ ∀ n v, l[n]? = some v → ∃ b o, a = some ⟨b, o, none⟩ ∧ w.cell? ⟨b, o + n, none⟩ = some (.bool v)
theorem RB.below {w w' : World} {a : Option Addr} {cap : Nat} {l : List Bool} (h : RB w a cap l) (hb : Below w.heap.size w w') : RB w' a cap l :=
  ⟨h.1, h.2.1, fun n v hv => by
    obtain ⟨b, o, rfl, hc⟩ := h.2.2 n v hv
    exact ⟨b, o, rfl, (hb.cell (World.block_lt_of_cell? w _ hc)).trans hc⟩⟩

def cellsB (l : List Bool) : List Value := l.map (Value.bool)
theorem cellsB_len (l : List Bool) : (cellsB l).length = l.length := by unfold cellsB; simp
theorem cellsB_app (l l' : List Bool) : cellsB (l ++ l') = cellsB l ++ cellsB l' := by unfold cellsB; simp
theorem cellsB_one (l : List Bool) : ∀ u ∈ cellsB l, u.oneCell' = true := by
  intro u hu
  unfold cellsB at hu
  obtain ⟨x, _, rfl⟩ := List.mem_map.1 hu
  rfl

/-- A row of numbers that a function makes for itself; its block is none of S. -/
structure Bools (w : World) (S : Nat → Prop) (v : Value) (l : List Bool) : Prop where
  row : w.ownsRow 0 4 1 v l.length (cellsB l)
  av : ∀ k, v.ownBlock = some k → ¬ S k

theorem Bools.nil (w : World) (S : Nat → Prop) : Bools w S (.slice none 0 0) [] := ⟨World.ownsRow_nil w 0 _ 1, fun k hk => by simp [Value.ownBlock] at hk⟩
theorem Bools.below {w w' : World} {S : Nat → Prop} {v : Value} {l : List Bool} (h : Bools w S v l) (hb : Below w.heap.size w w') : Bools w' S v l := by
  refine ⟨⟨h.row.1, ?_⟩, h.av⟩
  rcases h.row.2 with hn | ⟨g, cap, cur, rfl, hbb, hgg, rest⟩
  · exact .inl hn
  · refine .inr ⟨g, cap, cur, rfl, hbb, ?_, rest⟩
    rw [hb.block g (Array.getElem?_eq_some_iff.1 hgg).1]
    exact hgg
theorem Bools.only {w w' : World} {S F : Nat → Prop} {v : Value} {l : List Bool} (h : Bools w S v l) (o : Only F w w') (hF : ∀ k, F k → S k) : Bools w' S v l :=
  ⟨o.row h.row (fun k hk hf => h.av k hk (hF k hf)), h.av⟩
theorem Bools.sub {w : World} {S S' : Nat → Prop} {v : Value} {l : List Bool} (h : Bools w S v l) (hS : ∀ k, k < w.heap.size → S' k → S k) : Bools w S' v l :=
  ⟨h.row, fun k hk hs => h.av k hk (hS k (h.row.lt k hk).2 hs)⟩
theorem Bools.form {w : World} {S : Nat → Prop} {v : Value} {l : List Bool} (h : Bools w S v l) : ∃ ao cap, v = .slice ao l.length cap ∧ l.length ≤ cap ∧ cap ≤ maxLen := row_form h.row
/-- A number of the row. -/
theorem Bools.at {w : World} {S : Nat → Prop} {a : Option Addr} {n cap : Nat} {l : List Bool} (h : Bools w S (.slice a n cap) l) {i : Nat} {x : Bool} (hx : l[i]? = some x) :
    ∃ g, a = some ⟨g, 0, none⟩ ∧ ¬ S g ∧ w.cell? ⟨g, i, none⟩ = some (.bool x) := by
  have hlt : i < l.length := (List.getElem?_eq_some_iff.1 hx).1
  obtain ⟨g, cap2, e, _⟩ := row_at h.row (by omega)
  simp only [Value.slice.injEq] at e
  obtain ⟨rfl, rfl, rfl⟩ := e
  refine ⟨g, rfl, h.av g rfl, ?_⟩
  rw [h.row.cellAt i (by omega)]
  simp [cellsB, hx]
/-- The row is read. -/
theorem Bools.rb {w : World} {S : Nat → Prop} {a : Option Addr} {n cap : Nat} {l : List Bool} (h : Bools w S (.slice a n cap) l) : RB w a cap l := by
  obtain ⟨ao, cap', e, h1, h2⟩ := h.form
  simp only [Value.slice.injEq] at e
  obtain ⟨rfl, _, rfl⟩ := e
  refine ⟨h1, h2, fun i v hv => ?_⟩
  obtain ⟨g, rfl, _, hc⟩ := h.at hv
  exact ⟨g, 0, rfl, by rw [Nat.zero_add]; exact hc⟩
/-- The row cut short. -/
theorem Bools.take {w : World} {S : Nat → Prop} {a : Option Addr} {n cap : Nat} {l : List Bool} (h : Bools w S (.slice a n cap) l) {m : Nat} (hm : m ≤ l.length) : Bools w S (.slice a m cap) (l.take m) := by
  refine ⟨?_, fun k hk => h.av k (by cases a <;> simpa [Value.ownBlock] using hk)⟩
  have hl : (l.take m).length = m := by rw [List.length_take]; omega
  refine ⟨by rw [cellsB_len]; omega, ?_⟩
  rcases h.row.2 with ⟨e, e0⟩ | ⟨g, cap', cur, e, hb, hg, hc, hcm, hcs, ht⟩
  · simp only [Value.slice.injEq] at e
    obtain ⟨rfl, _, rfl⟩ := e
    exact .inl ⟨by rw [show m = 0 by omega], by omega⟩
  · simp only [Value.slice.injEq] at e
    obtain ⟨rfl, _, rfl⟩ := e
    refine .inr ⟨g, cap, cur, by rw [hl], hb, hg, by omega, hcm, hcs, ?_⟩
    rw [hl]
    have := congrArg (List.take m) ht
    rw [List.take_take] at this
    rw [Nat.mul_one] at this ⊢
    rw [show min m l.length = m by omega] at this
    rw [this]
    simp [cellsB, List.map_take]

/-- An empty row written out. -/
theorem Bools.lit (w : World) : Bools (w.alloc (.cells #[] 4)) (fun j => j < w.heap.size) (.slice (some ⟨w.heap.size, 0, none⟩) 0 0) [] :=
  ⟨World.ownsRow_lit (base := 0) (size := 1) w #[] 0 (Nat.zero_le _) (Nat.zero_le _) rfl, fun k hk hs => by
    simp [Value.ownBlock] at hk; omega⟩

section
variable {w : World} {ops : Array Oper} {o : Oper} {a : Act} {K : Act → World → Prop} {Q : Exit → Act → World → Prop} {E : Prop}
theorem bools_post {w w' : World} {S : Nat → Prop} {v v' : Value} {l news : List Bool} (h : Bools w S v l) (hS : ∀ k, S k → k < w.heap.size)
    (hown : w'.ownsRow 0 4 1 v' (l.length + news.length) (cellsB l ++ cellsB news)) (hgr : w.grownBy w' v.ownBlock) (hk : ∀ k, v'.ownBlock = some k → v.ownBlock = some k ∨ w.heap.size ≤ k) :
    ∃ ao cap, v' = .slice ao (l.length + news.length) cap ∧ cap ≤ maxLen ∧ l.length + news.length ≤ cap ∧ Bools w' S v' (l ++ news) ∧ Only (fun k => ¬ S k) w w' := by
  obtain ⟨ao, cap, rfl, h1, h2⟩ := row_form hown
  refine ⟨ao, cap, rfl, h2, h1, ⟨by rw [List.length_append, cellsB_app]; exact hown, fun j hj hs => ?_⟩, (Only.refl _ _).grown hgr (fun j hj _ hs => h.av j hj hs)⟩
  rcases hk j hj with e | e
  · exact h.av j e hs
  · have := hS j hs; omega
/-- Numbers are appended onto a row of one's own, as a step of a region that draws its order. -/
theorem step_bools (hg : o.guard = none) (s x : Operand) (hop : o.op = Op.call { callee := Callee.builtin Builtin.append, args := #[s, x], argTypes := #[39, 39] })
    (S : Nat → Prop) (v : Value) (l news : List Bool) (hs : a.eval s = v) (h : Bools w S v l) (hS : ∀ k, S k → k < w.heap.size)
    (xv : Value) (hx : a.eval x = xv) (hsrc : Source w xv news.length (cellsB news)) (hl : l.length + news.length ≤ 1000000) (n : Nat) (hn : l.length + news.length = n) (ls : List Bool) (hls : l ++ news = ls)
    (H : ∀ ao cap w', cap ≤ maxLen → n ≤ cap → Bools w' S (.slice ao n cap) ls → Only (fun k => ¬ S k) w w' → K (a.put o.dst (.slice ao n cap)) w') :
    if Region.wanted o (yielded ops a.tmps) = true then Oper.wp Try.prog o a w K Q else E := by
  subst hn; subst hls
  obtain ⟨i, hi, hz, hs1, hs2⟩ := info_parts infoBool
  refine step_own_append hg s x 39 hop 4 i _ 1 1 Try.underlying39 hi hz hs1 hs2 rfl (by decide) v l.length (cellsB l) hs h.row xv news.length (cellsB news) hx hsrc (by rw [cellsB_len, Nat.mul_one]) (cellsB_one news) (by unfold maxLen; omega) (by omega) ?_
  intro v' w' hown hgr hk
  obtain ⟨ao, cap, rfl, h1, h2, h3, h4⟩ := bools_post h hS hown hgr hk
  exact H ao cap w' h1 h2 h3 h4
/-- The same in a walk in the text's order. -/
theorem wpList_bools {rest : List Oper} (hgd : o.guard = none) (s x : Operand) (hop : o.op = Op.call { callee := Callee.builtin Builtin.append, args := #[s, x], argTypes := #[39, 39] })
    (S : Nat → Prop) (v : Value) (l news : List Bool) (hs : a.eval s = v) (h : Bools w S v l) (hS : ∀ k, S k → k < w.heap.size)
    (xv : Value) (hx : a.eval x = xv) (hsrc : Source w xv news.length (cellsB news)) (hl : l.length + news.length ≤ 1000000) (n : Nat) (hn : l.length + news.length = n) (ls : List Bool) (hls : l ++ news = ls)
    (H : ∀ ao cap w', cap ≤ maxLen → n ≤ cap → Bools w' S (.slice ao n cap) ls → Only (fun k => ¬ S k) w w' → wpList Try.prog ops Q rest (a.put o.dst (.slice ao n cap)) w') :
    wpList Try.prog ops Q (o :: rest) a w := by
  subst hn; subst hls
  obtain ⟨i, hi, hz, hs1, hs2⟩ := info_parts infoBool
  refine wpList_own_append hgd s x 39 hop 4 i _ 1 1 Try.underlying39 hi hz hs1 hs2 rfl (by decide) v l.length (cellsB l) hs h.row xv news.length (cellsB news) hx hsrc (by rw [cellsB_len, Nat.mul_one]) (cellsB_one news) (by unfold maxLen; omega) (by omega) ?_
  intro v' w' hown hgr hk
  obtain ⟨ao, cap, rfl, h1, h2, h3, h4⟩ := bools_post h hS hown hgr hk
  exact H ao cap w' h1 h2 h3 h4
end

/-- One number, written out as a slice. -/
theorem src_oneB {w : World} (x : Bool) : Source (w.alloc (.cells #[.bool x] 4)) (.slice (some ⟨w.heap.size, 0, none⟩) 1 1) [x].length (cellsB [x]) :=
  .inr ⟨_, _, rfl, cells_new _ #[.bool x] _⟩
end Go.Proofs.Ytlpjbgojijkdjaa
