/- Events of a parameter, as they lie; calls in a row of one's own. No condition: definitions and lemmas. -/
import Derived.Test.YtadfnbmogobopaaPaM
import Derived.Test.YtadfnbmogobopaaLfZ
import Derived.Test.YtadfnbmogobopaaLfS
namespace Go.Proofs.Ytadfnbmogobopaa
open Go.RowKit Go.Deep Go.ChangeShapes Go.WideShapes
set_option linter.all false
set_option maxRecDepth 20000

theorem pkc {W W' : World} {q : Addr} {v : Value} (hb : Below W.heap.size W W') (h : W.cell? q = some v) : W'.cell? q = some v := (hb.cell (World.block_lt_of_cell? W _ h)).trans h
theorem pal {w : World} (o : Obj) : Below w.heap.size w (w.alloc o) := (Below.refl _ _).alloc (Nat.le_refl _) _
theorem psetO {W : World} {b j b' k : Nat} {u v : Value} (h : W.cell? ⟨b, j, none⟩ = some v) (hne : b' ≠ b ∨ k ≠ j) : (W.setCell ⟨b', k, none⟩ u).cell? ⟨b, j, none⟩ = some v :=
  (World.cell?_setCell_other _ _ _ _ (by intro e; cases e; omega)).trans h
theorem psetS {W : World} {b j : Nat} {u v : Value} (h : W.cell? ⟨b, j, none⟩ = some v) : (W.setCell ⟨b, j, none⟩ u).cell? ⟨b, j, none⟩ = some u := World.cell?_setCell_same _ _ _ h
/-- Cells from a place on. -/
def CAt (w : World) (b o : Nat) (vs : List Value) : Prop := ∀ (j : Nat) (v : Value), vs[j]? = some v → w.cell? ⟨b, o + j, none⟩ = some v
theorem CAt.keep {w w' : World} {b o : Nat} {vs : List Value} (h : CAt w b o vs) (hb : Below w.heap.size w w') : CAt w' b o vs := fun j v hj => pkc hb (h j v hj)
/-- A block whose cells are known, and may be written. -/
structure Bq (W : World) (b : Nat) (vs : List Value) : Prop where
  lt : b < W.heap.size
  at_ : ∀ (j : Nat) (v : Value), vs[j]? = some v → W.cell? ⟨b, j, none⟩ = some v
  fr : ∀ j, W.frozen? ⟨b, j, none⟩ = false
theorem Bq.new (W : World) (cs : Array Value) (t : TypeId) : Bq (W.alloc (.cells cs t)) W.heap.size cs.toList :=
  ⟨by simp, fun j v hj => by rw [World.cell?_alloc_new]; simpa using hj, fun j => by simp [go_sem]⟩
theorem Bq.keep {W W' : World} {b : Nat} {vs : List Value} (h : Bq W b vs) (hb : Below W.heap.size W W') : Bq W' b vs :=
  ⟨Nat.lt_of_lt_of_le h.lt hb.size, fun j v hj => pkc hb (h.at_ j v hj), fun j => (hb.frozen (p := ⟨b, j, none⟩) h.lt).trans (h.fr j)⟩
theorem Bq.past {W : World} {b : Nat} {vs : List Value} (h : Bq W b vs) (o : Obj) : Bq (W.alloc o) b vs := h.keep (pal o)
theorem Bq.drew {W : World} {b : Nat} {vs : List Value} (h : Bq W b vs) : Bq W.drew b vs := ⟨h.lt, h.at_, h.fr⟩
theorem Bq.only {W W' : World} {b : Nat} {vs : List Value} {S : Nat → Prop} (h : Bq W b vs) (ho : Only S W W') (hb : ¬ S b) : Bq W' b vs :=
  ⟨Nat.lt_of_lt_of_le h.lt ho.size, fun j v hj => ho.cell (h.at_ j v hj) hb, fun j => (World.frozen?_of_block (w := W) (a := ⟨b, j, none⟩) (ho.block b h.lt hb)).trans (h.fr j)⟩
theorem Bq.set {W : World} {b : Nat} {vs : List Value} (h : Bq W b vs) (i : Nat) (u : Value) (hi : i < vs.length) : Bq (W.setCell ⟨b, i, none⟩ u) b (vs.set i u) := by
  refine ⟨by have := h.lt; simpa [World.setCell] using this, fun j v hj => ?_, fun j => by rw [World.frozen?_setCell]; exact h.fr j⟩
  rw [List.getElem?_set] at hj
  by_cases e : i = j
  · subst e
    rw [if_pos rfl, if_pos hi] at hj
    cases hj
    exact psetS (h.at_ i _ (List.getElem?_eq_getElem hi))
  · rw [if_neg e] at hj
    exact psetO (h.at_ j v hj) (.inr e)
theorem Bq.other {W : World} {b b' k : Nat} {vs : List Value} (h : Bq W b vs) (u : Value) (hne : b' ≠ b) : Bq (W.setCell ⟨b', k, none⟩ u) b vs :=
  ⟨by have := h.lt; simpa [World.setCell] using this, fun j v hj => psetO (h.at_ j v hj) (.inl hne), fun j => by rw [World.frozen?_setCell]; exact h.fr j⟩

/-- An event's cells. -/
def evC (e : EvD) (pa : Option Addr) (pc : Nat) : List Value := [.int .i64 e.t, .bool e.r, .int .i64 e.o.c, .int .i64 e.o.k, .int .i64 e.o.h, .int .i64 e.o.v, .int .i64 e.a.err, .bool e.a.ok, .int .i64 e.a.k, .int .i64 e.a.v, .int .i64 e.a.n, .slice pa e.a.ps.length pc]
structure EA (w : World) (b o : Nat) (pa : Option Addr) (pc : Nat) (e : EvD) : Prop where
  at_ : CAt w b o (evC e pa pc)
  ps : Prs w pa pc e.a.ps
theorem EA.keep {w w' : World} {b o : Nat} {pa : Option Addr} {pc : Nat} {e : EvD} (h : EA w b o pa pc e) (hb : Below w.heap.size w w') : EA w' b o pa pc e := ⟨h.at_.keep hb, h.ps.below hb⟩
/-- A slice of events that can be read. -/
def Es (w : World) (a : Option Addr) (cap : Nat) (h : List EvD) : Prop :=
  h.length ≤ cap ∧ cap ≤ maxLen ∧ ∀ (i : Nat) (e : EvD), h[i]? = some e → ∃ b o pa pc, a = some ⟨b, o, none⟩ ∧ EA w b (o + i * 12) pa pc e
theorem Es.keep {w w' : World} {a : Option Addr} {cap : Nat} {h : List EvD} (k : Es w a cap h) (hb : Below w.heap.size w w') : Es w' a cap h :=
  ⟨k.1, k.2.1, fun i e he => by
    obtain ⟨b, o, pa, pc, e, hc⟩ := k.2.2 i e he
    exact ⟨b, o, pa, pc, e, hc.keep hb⟩⟩
theorem Es.none (w : World) : Es w none 0 [] := ⟨Nat.le_refl _, Nat.zero_le _, fun i n hn => by simp at hn⟩
theorem Es.take {w : World} {a : Option Addr} {cap : Nat} {h : List EvD} (k : Es w a cap h) (i : Nat) (hi : i ≤ h.length) : (h.take i).length = i ∧ Es w a cap (h.take i) := by
  have hl : (h.take i).length = i := by rw [List.length_take]; omega
  refine ⟨hl, by rw [hl]; have := k.1; omega, k.2.1, fun n q hq => ?_⟩
  have hn : n < i := by have := (List.getElem?_eq_some_iff.1 hq).1; rw [hl] at this; exact this
  rw [List.getElem?_take_of_lt hn] at hq
  exact k.2.2 n q hq
/-- No event tells more pairs than a form may hold. -/
def MidE (h : List EvD) : Prop := ∀ e ∈ h, e.a.ps.length ≤ 8796093022208
section
variable {H : Type} {enc : TypeId × Value → H} {w : World} {fuel : Nat} {x : DataW H × List MemPlace}
theorem mem_weightsAllE {P : Program} {e : TypeId} : ∀ {l : List (DataW H)} {d : DataW H} {k : Nat}, d ∈ l → k ∈ d.weights P e → k ∈ DataW.weightsAll P e l := by
  intro l
  induction l with
  | nil => intro d k h; cases h
  | cons y l ih =>
    intro d k h hk
    simp only [DataW.weightsAll, List.mem_append]
    rcases List.mem_cons.1 h with rfl | h
    · exact .inl hk
    · exact .inr (ih h hk)
theorem fields_event {cs : List Value} (h : DataW.trod enc Try.prog w 0 (fun _ => true) true fuel 36 cs = some x) (hb : ∀ n ∈ x.1.weights Try.prog 36, n ≤ reachBytes) :
    ∃ (e : EvD) (pa : Option Addr) (pc : Nat), cs = evC e pa pc ∧ Prs w pa pc e.a.ps ∧ e.a.ps.length ≤ 8796093022208 := by
  obtain ⟨ys, n, _, hx, hlen, hyl, hf⟩ := DataW.trod_struct Try.underlying36 h
  have hone : Try.prog.cellsOf 3 = 1 := by kernel_rfl
  have hone2 : Try.prog.cellsOf 4 = 1 := by kernel_rfl
  have hone3 : Try.prog.cellsOf 25 = 4 := by kernel_rfl
  have hone4 : Try.prog.cellsOf 34 = 6 := by kernel_rfl
  have h12 : Try.prog.cellsOf 36 = 12 := by kernel_rfl
  rw [h12] at hlen
  have some_of : ∀ i, i < 4 → ∃ y, ys[i]? = some y := fun i hi => ⟨_, List.getElem?_eq_getElem (by rw [hyl]; exact hi)⟩
  match cs, hlen with
  | [v0, v1, v2, v3, v4, v5, v6, v7, v8, v9, v10, v11], _ =>
    obtain ⟨y0, e0⟩ := some_of 0 (by decide)
    obtain ⟨y1, e1⟩ := some_of 1 (by decide)
    obtain ⟨y2, e2⟩ := some_of 2 (by decide)
    obtain ⟨y3, e3⟩ := some_of 3 (by decide)
    have g0 : DataW.trod enc Try.prog w 0 (fun _ => true) true n 3 (([v0, v1, v2, v3, v4, v5, v6, v7, v8, v9, v10, v11].drop 0).take (Try.prog.cellsOf 3)) = ys[0]? := hf 0 _ rfl
    have g1 : DataW.trod enc Try.prog w 0 (fun _ => true) true n 4 (([v0, v1, v2, v3, v4, v5, v6, v7, v8, v9, v10, v11].drop 1).take (Try.prog.cellsOf 4)) = ys[1]? := hf 1 _ rfl
    have g2 : DataW.trod enc Try.prog w 0 (fun _ => true) true n 25 (([v0, v1, v2, v3, v4, v5, v6, v7, v8, v9, v10, v11].drop 2).take (Try.prog.cellsOf 25)) = ys[2]? := hf 2 _ rfl
    have g3 : DataW.trod enc Try.prog w 0 (fun _ => true) true n 34 (([v0, v1, v2, v3, v4, v5, v6, v7, v8, v9, v10, v11].drop 6).take (Try.prog.cellsOf 34)) = ys[3]? := hf 3 _ rfl
    rw [hone, e0] at g0; rw [hone2, e1] at g1; rw [hone3, e2] at g2; rw [hone4, e3] at g3
    obtain ⟨n0, a0, _⟩ := DataW.trod_int Try.underlying3 g0
    obtain ⟨b1, a1, _⟩ := DataW.trod_bool Try.underlying4 g1
    obtain ⟨d, a2, _⟩ := fields_op (cs := [v2, v3, v4, v5]) (by simpa using g2)
    have g3' : DataW.trod enc Try.prog w 0 (fun _ => true) true n 34 [v6, v7, v8, v9, v10, v11] = some y3 := by simpa using g3
    obtain ⟨D, a, cap, a3, ha⟩ := fields_ans g3'
    simp at a0 a1 a2 a3
    obtain ⟨rfl, rfl, rfl, rfl⟩ := a2
    obtain ⟨rfl, rfl, rfl, rfl, rfl, rfl⟩ := a3
    subst a0; subst a1
    have hw := wt_ans (x := y3) g3' (fun k hk => hb k (by
      rw [hx]
      simp only [DataW.weights, Try.underlying36]
      exact DataW.weights_mem_each (j := 3) (t := 34) (d := y3.1) rfl (by rw [List.getElem?_map, e3]; rfl) k hk))
    exact ⟨⟨n0, b1, d, D⟩, a, cap, rfl, ha, hw⟩
theorem open_events {v : Value} (h : DataW.trod enc Try.prog w 0 (fun _ => true) true fuel 23 [v] = some x) (hb : ∀ n ∈ x.1.weights Try.prog 23, n ≤ reachBytes) : ∃ a cap N, v = .slice a N.length cap ∧ Es w a cap N ∧ MidE N := by
  have h2 : Try.prog.cellsOf 36 = 12 := by kernel_rfl
  rcases open_slice Try.underlying23 h with ⟨hcs, _⟩ | ⟨y, len, cap, m, n, D, Pl, hcs, hbb, hl, hm, hmm, hx, hi⟩
  · simp at hcs
    exact ⟨none, 0, [], hcs, Es.none w, fun q hq => by cases hq⟩
  · simp at hcs hmm
    subst hmm
    subst hx
    rw [h2] at hi
    have each : ∀ i, i < len → ∃ d : EvD, d.a.ps.length ≤ 8796093022208 ∧ ∃ b o pa pc, y = ⟨b, o, none⟩ ∧ EA w b (o + i * 12) pa pc d := by
      intro i him
      obtain ⟨cs', hc, ht⟩ := hi i (by omega)
      obtain ⟨_, hcl, hat⟩ := World.cells?_some hc
      obtain ⟨d, pa, pc, rfl, hp, hd⟩ := fields_event ht (fun k hk => hb k (by
        simp only [DataW.weights, Try.underlying23]
        exact List.mem_cons_of_mem _ (List.mem_append_left _ (mem_weightsAllE (List.mem_map.2 ⟨i, List.mem_range.2 him, rfl⟩) hk))))
      obtain ⟨cs0, hc0, _⟩ := hi 0 (by omega)
      obtain ⟨_, hcl0, hat0⟩ := World.cells?_some hc0
      obtain ⟨b, o, spot⟩ := y
      have hs : spot = none := by
        have h0 := hat0 0 (by decide)
        rw [List.getElem?_eq_getElem (by omega)] at h0
        simpa [Addr.add] using World.cell?_spot h0
      subst hs
      refine ⟨d, hd, b, o, pa, pc, rfl, fun j v hj => ?_, hp⟩
      have hj12 : j < 12 := by have := (List.getElem?_eq_some_iff.1 hj).1; simpa [evC] using this
      have := hat j hj12
      rw [add_lit, add_lit] at this
      exact this.trans hj
    obtain ⟨f, hf⟩ := choose_lt each
    refine ⟨some y, m, (List.range len).map f, by simp [hcs], ⟨by simpa using hl, hm, fun n c hc => ?_⟩, fun q hq => ?_⟩
    rotate_left
    · obtain ⟨j, hj, rfl⟩ := List.mem_map.1 hq
      exact (hf j (List.mem_range.1 hj)).1
    have hn : n < len := by
      rcases Nat.lt_or_ge n len with h | h
      · exact h
      · rw [List.getElem?_eq_none (by simpa using h)] at hc; cases hc
    rw [List.getElem?_map, List.getElem?_range hn] at hc
    simp at hc
    subst hc
    obtain ⟨_, b, o, pa, pc, rfl, hcl⟩ := hf n hn
    exact ⟨b, o, pa, pc, rfl, hcl⟩
end

/-- A call and where the pairs that it was told lie. -/
structure RC where
  n : ClD
  a : Option Addr
  c : Nat
def clC (m : ClD) (pa : Option Addr) (pc : Nat) : List Value := [.int .i64 m.t, .int .i64 m.f, .int .i64 m.g, .int .i64 m.o.c, .int .i64 m.o.k, .int .i64 m.o.h, .int .i64 m.o.v, .int .i64 m.a.err, .bool m.a.ok, .int .i64 m.a.k, .int .i64 m.a.v, .int .i64 m.a.n, .slice pa m.a.ps.length pc]
def cellC (m : RC) : List Value := clC m.n m.a m.c
structure CA (w : World) (b o : Nat) (pa : Option Addr) (pc : Nat) (c : ClD) : Prop where
  at_ : CAt w b o (clC c pa pc)
  ps : Prs w pa pc c.a.ps
theorem CA.keep {w w' : World} {b o : Nat} {pa : Option Addr} {pc : Nat} {e : ClD} (h : CA w b o pa pc e) (hb : Below w.heap.size w w') : CA w' b o pa pc e := ⟨h.at_.keep hb, h.ps.below hb⟩
/-- A slice of calls that can be read. -/
def Cs (w : World) (a : Option Addr) (cap : Nat) (L : List ClD) : Prop :=
  L.length ≤ cap ∧ cap ≤ maxLen ∧ ∀ (i : Nat) (c : ClD), L[i]? = some c → ∃ b o pa pc, a = some ⟨b, o, none⟩ ∧ CA w b (o + i * 13) pa pc c
theorem Cs.keep {w w' : World} {a : Option Addr} {cap : Nat} {h : List ClD} (k : Cs w a cap h) (hb : Below w.heap.size w w') : Cs w' a cap h :=
  ⟨k.1, k.2.1, fun i e he => by
    obtain ⟨b, o, pa, pc, e, hc⟩ := k.2.2 i e he
    exact ⟨b, o, pa, pc, e, hc.keep hb⟩⟩
theorem Cs.none (w : World) : Cs w none 0 [] := ⟨Nat.le_refl _, Nat.zero_le _, fun i n hn => by simp at hn⟩
def cellsC : List RC → List Value
  | [] => []
  | m :: l => cellC m ++ cellsC l
theorem cellsC_len (l : List RC) : (cellsC l).length = l.length * 13 := by
  induction l with
  | nil => rfl
  | cons m l ih => simp only [cellsC, List.length_append, ih, List.length_cons]; simp [cellC, clC]; omega
theorem cellsC_app (l l' : List RC) : cellsC (l ++ l') = cellsC l ++ cellsC l' := by
  induction l with
  | nil => rfl
  | cons m l ih => simp [cellsC, ih]
theorem cellsC_one (l : List RC) : ∀ u ∈ cellsC l, u.oneCell' = true := by
  induction l with
  | nil => intro u hu; cases hu
  | cons m l ih =>
    intro u hu
    rcases List.mem_append.1 hu with hu | hu
    · simp [cellC, clC] at hu
      rcases hu with rfl | rfl | rfl | rfl | rfl | rfl | rfl | rfl | rfl | rfl | rfl | rfl | rfl <;> rfl
    · exact ih u hu
theorem cellsC_get : ∀ (l : List RC) (i : Nat) (m : RC), l[i]? = some m → ∀ j v, (cellC m)[j]? = some v → (cellsC l)[i * 13 + j]? = some v := by
  intro l
  induction l with
  | nil => intro i m h; simp at h
  | cons x l ih =>
    intro i m h j v hv
    have hj : j < 13 := by have := (List.getElem?_eq_some_iff.1 hv).1; simpa [cellC, clC] using this
    cases i with
    | zero =>
      simp at h; subst h
      rw [show 0 * 13 + j = j by omega]
      simp only [cellsC]
      rw [List.getElem?_append_left (by simpa [cellC, clC] using hj)]
      exact hv
    | succ i =>
      simp only [List.getElem?_cons_succ] at h
      have := ih i m h j v hv
      simp only [cellsC]
      rw [List.getElem?_append_right (by simp [cellC, clC]; omega)]
      rw [show (i + 1) * 13 + j - (cellC x).length = i * 13 + j by simp [cellC, clC]; omega]
      exact this
theorem cellsC_set : ∀ (l : List RC) (i : Nat) (m m' : RC), l[i]? = some m → ∀ j v, j < 13 → (cellC m).set j v = cellC m' → (cellsC l).set (i * 13 + j) v = cellsC (l.set i m') := by
  intro l
  induction l with
  | nil => intro i m m' h; simp at h
  | cons x l ih =>
    intro i m m' h j v hj hv
    cases i with
    | zero =>
      simp at h; subst h
      rw [show 0 * 13 + j = j by omega]
      simp only [cellsC, List.set_cons_zero]
      rw [List.set_append_left _ _ (by simpa [cellC, clC] using hj), hv]
    | succ i =>
      simp only [List.getElem?_cons_succ] at h
      have := ih i m m' h j v hj hv
      simp only [cellsC, List.set_cons_succ]
      rw [List.set_append_right _ _ (by simp [cellC, clC]; omega)]
      rw [show (i + 1) * 13 + j - (cellC x).length = i * 13 + j by simp [cellC, clC]; omega, this]

/-- A row of nodes of one's own; Q: what else is written. -/
structure CRow (W : World) (Q : Nat → Prop) (v : Value) (M : List RC) : Prop where
  row : W.ownsRow 0 71 13 v M.length (cellsC M)
  own : ∀ k, v.ownBlock = some k → ¬ Q k
  prs : ∀ m ∈ M, Prs W m.a m.c m.n.a.ps ∧ (m.n.a.ps ≠ [] → ∀ b o sp, m.a = some ⟨b, o, sp⟩ → ¬ Q b ∧ v.ownBlock ≠ some b)
theorem prs_onlyC {W W' : World} {S : Nat → Prop} {a : Option Addr} {c : Nat} {p : List Pr} (h : Prs W a c p) (o : Only S W W') (hS : p ≠ [] → ∀ b o sp, a = some ⟨b, o, sp⟩ → ¬ S b) : Prs W' a c p :=
  ⟨h.1, h.2.1, fun n q hq => by
    obtain ⟨b, o', rfl, h0, h1⟩ := h.2.2.1 n q hq
    have hb := hS (fun e => by rw [e] at hq; simp at hq) b o' none rfl
    exact ⟨b, o', rfl, o.cell h0 hb, o.cell h1 hb⟩, h.2.2.2⟩
theorem PRow.onlyC {w w' : World} {S F : Nat → Prop} {v : Value} {l : List Pr} (h : PRow w S v l) (o : Only F w w') (hF : ∀ k, F k → S k) : PRow w' S v l :=
  ⟨o.row h.row (fun k hk hf => h.av k hk (hF k hf)), h.av⟩
theorem prs_ltC {W : World} {b o : Nat} {sp : Option Nat} {c : Nat} {p : List Pr} (h : True) (k : Prs W (some ⟨b, o, none⟩) c p) (hp : p ≠ []) : b < W.heap.size := by
  obtain ⟨q, l, rfl⟩ := List.exists_cons_of_ne_nil hp
  obtain ⟨b', o', e, c0, _⟩ := k.2.2.1 0 q rfl
  cases e
  exact World.block_lt_of_cell? W _ c0
section
variable {W W' : World} {Q : Nat → Prop} {v : Value} {M : List RC}
theorem CRow.nil (W : World) (Q : Nat → Prop) : CRow W Q (.slice none 0 0) [] := ⟨World.ownsRow_nil W 0 _ 13, fun k hk => by simp [Value.ownBlock] at hk, fun m hm => by cases hm⟩
theorem CRow.keep (h : CRow W Q v M) (hb : Below W.heap.size W W') : CRow W' Q v M := by
  refine ⟨⟨h.row.1, ?_⟩, h.own, fun m hm => ⟨(h.prs m hm).1.below hb, (h.prs m hm).2⟩⟩
  rcases h.row.2 with hn | ⟨g, cap, cur, rfl, hbb, hgg, rest⟩
  · exact .inl hn
  · refine .inr ⟨g, cap, cur, rfl, hbb, ?_, rest⟩
    rw [hb.block g (Array.getElem?_eq_some_iff.1 hgg).1]
    exact hgg
theorem CRow.drew (h : CRow W Q v M) : CRow W.drew Q v M := h.keep ((Below.refl _ _).drew)
theorem CRow.only (h : CRow W Q v M) {S : Nat → Prop} (o : Only S W W') (hS : ∀ k, S k → Q k) : CRow W' Q v M :=
  ⟨o.row h.row (fun k hk hs => h.own k hk (hS k hs)), h.own, fun m hm => ⟨prs_onlyC (h.prs m hm).1 o (fun hp b o' sp e hs => ((h.prs m hm).2 hp b o' sp e).1 (hS b hs)), (h.prs m hm).2⟩⟩
theorem CRow.form (h : CRow W Q v M) : ∃ ao cap, v = .slice ao M.length cap ∧ M.length ≤ cap ∧ cap ≤ maxLen := row_form h.row
theorem CRow.sub {Q' : Nat → Prop} (h : CRow W Q v M) (hS : ∀ k, k < W.heap.size → Q' k → Q k) : CRow W Q' v M :=
  ⟨h.row, fun k hk hs => h.own k hk (hS k (h.row.lt k hk).2 hs), fun m hm => ⟨(h.prs m hm).1, fun hp b o sp e => ⟨fun hs => by
    obtain ⟨q, l, hl⟩ := List.exists_cons_of_ne_nil hp
    have hp' := (h.prs m hm).1
    rw [hl] at hp'
    obtain ⟨b', o', e', c0, _⟩ := hp'.2.2.1 0 q rfl
    rw [e] at e'; cases e'
    exact ((h.prs m hm).2 hp b o _ e).1 (hS b (World.block_lt_of_cell? W _ c0) hs), ((h.prs m hm).2 hp b o sp e).2⟩⟩⟩
/-- A node of the row. -/
theorem CRow.at {a : Option Addr} {n cap : Nat} (h : CRow W Q (.slice a n cap) M) {i : Nat} {m : RC} (hm : M[i]? = some m) :
    ∃ g, a = some ⟨g, 0, none⟩ ∧ n = M.length ∧ CA W g (i * 13) m.a m.c m.n ∧ ∀ j, W.frozen? ⟨g, j, none⟩ = false := by
  have hlt : i < M.length := (List.getElem?_eq_some_iff.1 hm).1
  obtain ⟨g, cap2, e, _, _, hf⟩ := row_at h.row (by omega)
  simp only [Value.slice.injEq] at e
  obtain ⟨rfl, rfl, rfl⟩ := e
  refine ⟨g, rfl, rfl, ?_, hf⟩
  have at_ : ∀ j u, (cellC m)[j]? = some u → W.cell? ⟨g, i * 13 + j, none⟩ = some u := fun j u hj => by
    have hj13 : j < 13 := by have := (List.getElem?_eq_some_iff.1 hj).1; simpa [cellC, clC] using this
    rw [h.row.cellAt _ (by omega)]
    exact cellsC_get M i m hm j u hj
  exact ⟨at_, (h.prs m (List.mem_of_getElem? hm)).1⟩
theorem CRow.ns {a : Option Addr} {n cap : Nat} (h : CRow W Q (.slice a n cap) M) : n = M.length ∧ Cs W a cap (M.map (fun m => m.n)) := by
  obtain ⟨ao, cap', e, h1, h2⟩ := h.form
  simp only [Value.slice.injEq] at e
  obtain ⟨rfl, rfl, rfl⟩ := e
  refine ⟨rfl, by simpa using h1, h2, fun i n hn => ?_⟩
  rw [List.getElem?_map] at hn
  obtain ⟨m, hm, rfl⟩ := Option.map_eq_some_iff.1 hn
  obtain ⟨g, rfl, _, hna, _⟩ := h.at hm
  exact ⟨g, 0, m.a, m.c, rfl, by rw [Nat.zero_add]; exact hna⟩
/-- A cell of a node is written. -/
theorem CRow.cell {g n cap : Nat} (h : CRow W Q (.slice (some ⟨g, 0, none⟩) n cap) M) {i : Nat} {m : RC} (hm : M[i]? = some m) (m' : RC) (j : Nat) (u : Value) (hj : j < 13) (hu : (cellC m).set j u = cellC m')
    (hp : Prs W m'.a m'.c m'.n.a.ps) (hs : m'.n.a.ps ≠ [] → ∀ b o sp, m'.a = some ⟨b, o, sp⟩ → ¬ Q b ∧ g ≠ b) : CRow (W.setCell ⟨g, i * 13 + j, none⟩ u) Q (.slice (some ⟨g, 0, none⟩) n cap) (M.set i m') := by
  obtain ⟨ao, cap', e, h1, h2⟩ := h.form
  simp only [Value.slice.injEq] at e
  obtain ⟨rfl, rfl, rfl⟩ := e
  have hO : Only (fun k => k = g) W (W.setCell ⟨g, i * 13 + j, none⟩ u) := (Only.refl _ _).setCell (S := fun k => k = g) (p := ⟨g, i * 13 + j, none⟩) (.inl rfl) _
  refine ⟨?_, h.own, fun x hx => ?_⟩
  · have := (h.row.stored (i * 13 + j) u).1
    rw [cellsC_set M i m m' hm j u hj hu] at this
    rw [List.length_set]
    exact this
  · rcases List.mem_or_eq_of_mem_set hx with hx | rfl
    · refine ⟨prs_onlyC (h.prs x hx).1 hO (fun hp b o sp e hb => ((h.prs x hx).2 hp b o sp e).2 (by rw [hb]; rfl)), (h.prs x hx).2⟩
    · refine ⟨prs_onlyC hp hO (fun hp b o sp e hb => (hs hp b o sp e).2 hb.symm), fun hp b o sp e => ⟨(hs hp b o sp e).1, fun hh => (hs hp b o sp e).2 (by simpa [Value.ownBlock] using hh)⟩⟩
end
theorem infoCall : (Try.prog.info? 71).map (fun i => (i.zero, i.size, i.bytes)) = some (some (.agg #[.int .i64 0, .int .i64 0, .int .i64 0, .int .i64 0, .int .i64 0, .int .i64 0, .int .i64 0, .int .i64 0, .bool false, .int .i64 0, .int .i64 0, .int .i64 0, .slice none 0 0]), 13, 120) := by kernel_rfl
theorem cls_post {w w' : World} {Qs : Nat → Prop} {v v' : Value} {M ms : List RC} (h : CRow w Qs v M) (hQ : ∀ k, Qs k → k < w.heap.size)
    (hp : ∀ m ∈ ms, Prs w m.a m.c m.n.a.ps ∧ (m.n.a.ps ≠ [] → ∀ b o sp, m.a = some ⟨b, o, sp⟩ → ¬ Qs b ∧ v.ownBlock ≠ some b))
    (hown : w'.ownsRow 0 71 13 v' (M.length + ms.length) (cellsC M ++ cellsC ms)) (hgr : w.grownBy w' v.ownBlock) (hk : ∀ k, v'.ownBlock = some k → v.ownBlock = some k ∨ w.heap.size ≤ k) :
    ∃ ao cap, v' = .slice ao (M.length + ms.length) cap ∧ cap ≤ maxLen ∧ M.length + ms.length ≤ cap ∧ CRow w' Qs v' (M ++ ms) ∧ Only (fun k => v.ownBlock = some k) w w' := by
  obtain ⟨ao, cap, rfl, h1, h2⟩ := row_form hown
  have hO : Only (fun k => v.ownBlock = some k) w w' := (Only.refl _ _).grown hgr (fun j hj _ => hj)
  refine ⟨ao, cap, rfl, h2, h1, ⟨by simpa [cellsC_app] using hown, fun k hk' hq => ?_, fun x hx => ?_⟩, hO⟩
  · rcases hk k hk' with e | e
    · exact h.own k e hq
    · have := hQ k hq; omega
  · have lt_of : ∀ (p : List Pr) (pa : Option Addr) (pc : Nat), Prs w pa pc p → p ≠ [] → ∀ b o sp, pa = some ⟨b, o, sp⟩ → b < w.heap.size := fun p pa pc hp hne b o sp e => by
      obtain ⟨q, l, rfl⟩ := List.exists_cons_of_ne_nil hne
      obtain ⟨b', o', e', c0, _⟩ := hp.2.2.1 0 q rfl
      rw [e] at e'; cases e'
      exact World.block_lt_of_cell? w _ c0
    have key : ∀ m : RC, Prs w m.a m.c m.n.a.ps ∧ (m.n.a.ps ≠ [] → ∀ b o sp, m.a = some ⟨b, o, sp⟩ → ¬ Qs b ∧ v.ownBlock ≠ some b) → Prs w' m.a m.c m.n.a.ps ∧ (m.n.a.ps ≠ [] → ∀ b o sp, m.a = some ⟨b, o, sp⟩ → ¬ Qs b ∧ (Value.slice ao (M.length + ms.length) cap).ownBlock ≠ some b) := fun m ⟨p1, p2⟩ => by
      refine ⟨prs_onlyC p1 hO (fun hp b o sp e hh => (p2 hp b o sp e).2 hh), fun hp b o sp e => ⟨(p2 hp b o sp e).1, fun hh => ?_⟩⟩
      rcases hk b hh with e' | e'
      · exact (p2 hp b o sp e).2 e'
      · have := lt_of _ _ _ p1 hp b o sp e; omega
    rcases List.mem_append.1 hx with hx | hx
    · exact key x (h.prs x hx)
    · exact key x (hp x hx)
section
variable {w : World} {ops : Array Oper} {o : Oper} {a : Act} {K : Act → World → Prop} {Q : Exit → Act → World → Prop} {E : Prop}
/-- Nodes are appended, as a step of a region that draws its order. -/
theorem step_cls (hg : o.guard = none) (s x : Operand) (hop : o.op = Op.call { callee := Callee.builtin Builtin.append, args := #[s, x], argTypes := #[51, 51] })
    (Qs : Nat → Prop) (v : Value) (M ms : List RC) (hs : a.eval s = v) (h : CRow w Qs v M) (hQ : ∀ k, Qs k → k < w.heap.size)
    (hp : ∀ m ∈ ms, Prs w m.a m.c m.n.a.ps ∧ (m.n.a.ps ≠ [] → ∀ b o sp, m.a = some ⟨b, o, sp⟩ → ¬ Qs b ∧ v.ownBlock ≠ some b))
    (xv : Value) (hx : a.eval x = xv) (hsrc : Source w xv ms.length (cellsC ms)) (hl : M.length + ms.length ≤ 100000) (n : Nat) (hn : M.length + ms.length = n)
    (H : ∀ ao cap w', cap ≤ maxLen → n ≤ cap → CRow w' Qs (.slice ao n cap) (M ++ ms) → Only (fun k => v.ownBlock = some k) w w' → K (a.put o.dst (.slice ao n cap)) w') :
    if Region.wanted o (yielded ops a.tmps) = true then Oper.wp Try.prog o a w K Q else E := by
  subst hn
  obtain ⟨i, hi, hz, hs1, hs2⟩ := info_parts infoCall
  refine step_own_append hg s x 51 hop 71 i _ 13 120 Try.underlying51 hi hz hs1 hs2 rfl (by decide) v M.length (cellsC M) hs h.row xv ms.length (cellsC ms) hx hsrc (cellsC_len ms) (fun u hu => cellsC_one ms u hu) (by unfold maxLen; omega) (by omega) ?_
  intro v' w' hown hgr hk
  obtain ⟨ao, cap, rfl, h1, h2, h3, h4⟩ := cls_post h hQ hp hown hgr hk
  exact H ao cap w' h1 h2 h3 h4
end
end Go.Proofs.Ytadfnbmogobopaa
