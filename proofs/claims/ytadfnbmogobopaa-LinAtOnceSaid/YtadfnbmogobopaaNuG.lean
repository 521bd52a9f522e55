/- Rows of numbers of one's own: read, cut short, appended to. -/
import Derived.Test.YtadfnbmogobopaaRwG
namespace Go.Proofs.Ytadfnbmogobopaa
open Go.RowKit
set_option linter.all false

def cellsI (l : List Int) : List Value := l.map (Value.int .i64)
theorem cellsI_len (l : List Int) : (cellsI l).length = l.length := by unfold cellsI; simp
theorem cellsI_app (l l' : List Int) : cellsI (l ++ l') = cellsI l ++ cellsI l' := by unfold cellsI; simp
theorem cellsI_one (l : List Int) : ∀ u ∈ cellsI l, u.oneCell' = true := by
  intro u hu
  unfold cellsI at hu
  obtain ⟨x, _, rfl⟩ := List.mem_map.1 hu
  rfl

/-- A row of numbers that a function makes for itself; its block is none of S. -/
structure Nums (w : World) (S : Nat → Prop) (v : Value) (l : List Int) : Prop where
  row : w.ownsRow 0 3 1 v l.length (cellsI l)
  av : ∀ k, v.ownBlock = some k → ¬ S k

theorem Nums.nil (w : World) (S : Nat → Prop) : Nums w S (.slice none 0 0) [] := ⟨World.ownsRow_nil w 0 _ 1, fun k hk => by simp [Value.ownBlock] at hk⟩
theorem Nums.below {w w' : World} {S : Nat → Prop} {v : Value} {l : List Int} (h : Nums w S v l) (hb : Below w.heap.size w w') : Nums w' S v l := by
  refine ⟨⟨h.row.1, ?_⟩, h.av⟩
  rcases h.row.2 with hn | ⟨g, cap, cur, rfl, hbb, hgg, rest⟩
  · exact .inl hn
  · refine .inr ⟨g, cap, cur, rfl, hbb, ?_, rest⟩
    rw [hb.block g (Array.getElem?_eq_some_iff.1 hgg).1]
    exact hgg
theorem Nums.only {w w' : World} {S F : Nat → Prop} {v : Value} {l : List Int} (h : Nums w S v l) (o : Only F w w') (hF : ∀ k, F k → S k) : Nums w' S v l :=
  ⟨o.row h.row (fun k hk hf => h.av k hk (hF k hf)), h.av⟩
theorem Nums.sub {w : World} {S S' : Nat → Prop} {v : Value} {l : List Int} (h : Nums w S v l) (hS : ∀ k, k < w.heap.size → S' k → S k) : Nums w S' v l :=
  ⟨h.row, fun k hk hs => h.av k hk (hS k (h.row.lt k hk).2 hs)⟩
theorem Nums.form {w : World} {S : Nat → Prop} {v : Value} {l : List Int} (h : Nums w S v l) : ∃ ao cap, v = .slice ao l.length cap ∧ l.length ≤ cap ∧ cap ≤ maxLen := row_form h.row
/-- A number of the row. -/
theorem Nums.at {w : World} {S : Nat → Prop} {a : Option Addr} {n cap : Nat} {l : List Int} (h : Nums w S (.slice a n cap) l) {i : Nat} {x : Int} (hx : l[i]? = some x) :
    ∃ g, a = some ⟨g, 0, none⟩ ∧ ¬ S g ∧ w.cell? ⟨g, i, none⟩ = some (.int .i64 x) := by
  have hlt : i < l.length := (List.getElem?_eq_some_iff.1 hx).1
  obtain ⟨g, cap2, e, _⟩ := row_at h.row (by omega)
  simp only [Value.slice.injEq] at e
  obtain ⟨rfl, rfl, rfl⟩ := e
  refine ⟨g, rfl, h.av g rfl, ?_⟩
  rw [h.row.cellAt i (by omega)]
  simp [cellsI, hx]
/-- The row is read. -/
theorem Nums.ri {w : World} {S : Nat → Prop} {a : Option Addr} {n cap : Nat} {l : List Int} (h : Nums w S (.slice a n cap) l) : RI w a cap l := by
  obtain ⟨ao, cap', e, h1, h2⟩ := h.form
  simp only [Value.slice.injEq] at e
  obtain ⟨rfl, _, rfl⟩ := e
  refine ⟨h1, h2, fun i v hv => ?_⟩
  obtain ⟨g, rfl, _, hc⟩ := h.at hv
  exact ⟨g, 0, rfl, by rw [Nat.zero_add]; exact hc⟩
/-- The row cut short. -/
theorem Nums.take {w : World} {S : Nat → Prop} {a : Option Addr} {n cap : Nat} {l : List Int} (h : Nums w S (.slice a n cap) l) {m : Nat} (hm : m ≤ l.length) : Nums w S (.slice a m cap) (l.take m) := by
  refine ⟨?_, fun k hk => h.av k (by cases a <;> simpa [Value.ownBlock] using hk)⟩
  have hl : (l.take m).length = m := by rw [List.length_take]; omega
  refine ⟨by rw [cellsI_len]; omega, ?_⟩
  rcases h.row.2 with ⟨e, e0⟩ | ⟨g, cap', cur, e, hb, hg, hc, hcm, hcs, ht⟩
  · simp only [Value.slice.injEq] at e
    obtain ⟨rfl, _, rfl⟩ := e
    exact .inl ⟨by rw [show m = 0 by omega], by omega⟩
  · simp only [Value.slice.injEq] at e
    obtain ⟨rfl, _, rfl⟩ := e
    refine .inr ⟨g, cap, cur, by rw [hl], hb, hg, by omega, hcm, hcs, ?_⟩
    rw [hl]
    have := congrArg (List.take m) ht
    rw [List.take_take] at this
    rw [Nat.mul_one] at this ⊢
    rw [show min m l.length = m by omega] at this
    rw [this]
    simp [cellsI, List.map_take]

/-- A slice of numbers is what an append takes. -/
theorem src_nums {w : World} {S : Nat → Prop} {a : Option Addr} {n cap m c : Nat} {l : List Int} (h : Nums w S (.slice a n cap) l) (hm : m = l.length) (hn : n = l.length) (hc : a = none → c = 0) : Source w (.slice a m c) l.length (cellsI l) := by
  subst hm
  cases a with
  | none =>
    obtain ⟨ao, cap', e, h1, _⟩ := h.form
    rcases h.row.2 with ⟨e, e0⟩ | ⟨g, cap', cur, e, _⟩
    · have : l = [] := List.length_eq_zero_iff.1 e0
      subst this
      exact .inl ⟨by rw [hc rfl]; rfl, rfl, rfl⟩
    · cases e
  | some x =>
    refine .inr ⟨x, c, rfl, fun j u hj => ?_⟩
    have hl : j < l.length := by have := (List.getElem?_eq_some_iff.1 hj).1; rwa [cellsI_len] at this
    obtain ⟨g, e, _, hcell⟩ := h.at (List.getElem?_eq_getElem hl)
    cases e
    rw [add_lit, Nat.zero_add, hcell]
    rw [← hj]
    simp [cellsI, hl]
theorem src_I0 {w : World} : Source w (.slice none 0 0) ([] : List Int).length (cellsI []) := .inl ⟨rfl, rfl, rfl⟩

/-- An empty row written out. -/
theorem Nums.lit (w : World) : Nums (w.alloc (.cells #[] 3)) (fun j => j < w.heap.size) (.slice (some ⟨w.heap.size, 0, none⟩) 0 0) [] :=
  ⟨World.ownsRow_lit (base := 0) (size := 1) w #[] 0 (Nat.zero_le _) (Nat.zero_le _) rfl, fun k hk hs => by
    simp [Value.ownBlock] at hk; omega⟩

section
variable {w : World} {ops : Array Oper} {o : Oper} {a : Act} {K : Act → World → Prop} {Q : Exit → Act → World → Prop} {E : Prop}
theorem nums_post {w w' : World} {S : Nat → Prop} {v v' : Value} {l news : List Int} (h : Nums w S v l) (hS : ∀ k, S k → k < w.heap.size)
    (hown : w'.ownsRow 0 3 1 v' (l.length + news.length) (cellsI l ++ cellsI news)) (hgr : w.grownBy w' v.ownBlock) (hk : ∀ k, v'.ownBlock = some k → v.ownBlock = some k ∨ w.heap.size ≤ k) :
    ∃ ao cap, v' = .slice ao (l.length + news.length) cap ∧ cap ≤ maxLen ∧ l.length + news.length ≤ cap ∧ Nums w' S v' (l ++ news) ∧ Only (fun k => ¬ S k) w w' := by
  obtain ⟨ao, cap, rfl, h1, h2⟩ := row_form hown
  refine ⟨ao, cap, rfl, h2, h1, ⟨by rw [List.length_append, cellsI_app]; exact hown, fun j hj hs => ?_⟩, (Only.refl _ _).grown hgr (fun j hj _ hs => h.av j hj hs)⟩
  rcases hk j hj with e | e
  · exact h.av j e hs
  · have := hS j hs; omega
/-- Numbers are appended onto a row of one's own, as a step of a region that draws its order. -/
theorem step_nums (hg : o.guard = none) (s x : Operand) (hop : o.op = Op.call { callee := Callee.builtin Builtin.append, args := #[s, x], argTypes := #[40, 40] })
    (S : Nat → Prop) (v : Value) (l news : List Int) (hs : a.eval s = v) (h : Nums w S v l) (hS : ∀ k, S k → k < w.heap.size)
    (xv : Value) (hx : a.eval x = xv) (hsrc : Source w xv news.length (cellsI news)) (hl : l.length + news.length ≤ 100000000000) (n : Nat) (hn : l.length + news.length = n) (ls : List Int) (hls : l ++ news = ls)
    (H : ∀ ao cap w', cap ≤ maxLen → n ≤ cap → Nums w' S (.slice ao n cap) ls → Only (fun k => ¬ S k) w w' → K (a.put o.dst (.slice ao n cap)) w') :
    if Region.wanted o (yielded ops a.tmps) = true then Oper.wp Try.prog o a w K Q else E := by
  subst hn; subst hls
  obtain ⟨i, hi, hz, hs1, hs2⟩ := info_parts infoInt
  refine step_own_append hg s x 40 hop 3 i _ 1 8 Try.underlying40 hi hz hs1 hs2 rfl (by decide) v l.length (cellsI l) hs h.row xv news.length (cellsI news) hx hsrc (by rw [cellsI_len, Nat.mul_one]) (cellsI_one news) (by unfold maxLen; omega) (by omega) ?_
  intro v' w' hown hgr hk
  obtain ⟨ao, cap, rfl, h1, h2, h3, h4⟩ := nums_post h hS hown hgr hk
  exact H ao cap w' h1 h2 h3 h4
/-- The same in a walk in the text's order. -/
theorem wpList_nums {rest : List Oper} (hgd : o.guard = none) (s x : Operand) (hop : o.op = Op.call { callee := Callee.builtin Builtin.append, args := #[s, x], argTypes := #[40, 40] })
    (S : Nat → Prop) (v : Value) (l news : List Int) (hs : a.eval s = v) (h : Nums w S v l) (hS : ∀ k, S k → k < w.heap.size)
    (xv : Value) (hx : a.eval x = xv) (hsrc : Source w xv news.length (cellsI news)) (hl : l.length + news.length ≤ 100000000000) (n : Nat) (hn : l.length + news.length = n) (ls : List Int) (hls : l ++ news = ls)
    (H : ∀ ao cap w', cap ≤ maxLen → n ≤ cap → Nums w' S (.slice ao n cap) ls → Only (fun k => ¬ S k) w w' → wpList Try.prog ops Q rest (a.put o.dst (.slice ao n cap)) w') :
    wpList Try.prog ops Q (o :: rest) a w := by
  subst hn; subst hls
  obtain ⟨i, hi, hz, hs1, hs2⟩ := info_parts infoInt
  refine wpList_own_append hgd s x 40 hop 3 i _ 1 8 Try.underlying40 hi hz hs1 hs2 rfl (by decide) v l.length (cellsI l) hs h.row xv news.length (cellsI news) hx hsrc (by rw [cellsI_len, Nat.mul_one]) (cellsI_one news) (by unfold maxLen; omega) (by omega) ?_
  intro v' w' hown hgr hk
  obtain ⟨ao, cap, rfl, h1, h2, h3, h4⟩ := nums_post h hS hown hgr hk
  exact H ao cap w' h1 h2 h3 h4
end

/-- One number, written out as a slice. -/
theorem src_one {w : World} (x : Int) : Source (w.alloc (.cells #[.int .i64 x] 3)) (.slice (some ⟨w.heap.size, 0, none⟩) 1 1) [x].length (cellsI [x]) :=
  .inr ⟨_, _, rfl, cells_new _ #[.int .i64 x] _⟩
end Go.Proofs.Ytadfnbmogobopaa
