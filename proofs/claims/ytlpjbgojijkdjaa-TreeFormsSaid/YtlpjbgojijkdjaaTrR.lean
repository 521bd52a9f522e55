/- Rows of nodes that a function makes for itself: appended to, written. No condition: definitions and lemmas. -/
import Derived.Test.YtlpjbgojijkdjaaTrG
import Derived.Test.YtlpjbgojijkdjaaTrL
namespace Go.Proofs.Ytlpjbgojijkdjaa
open Go.RowKit
set_option linter.all false

/-- A block whose cells are known, and may be written. -/
structure Bk (W : World) (b : Nat) (vs : List Value) : Prop where
  lt : b < W.heap.size
  at_ : ∀ (j : Nat) (v : Value), vs[j]? = some v → W.cell? ⟨b, j, none⟩ = some v
  fr : ∀ j, W.frozen? ⟨b, j, none⟩ = false
theorem Bk.new (W : World) (cs : Array Value) (t : TypeId) : Bk (W.alloc (.cells cs t)) W.heap.size cs.toList :=
  ⟨by simp, fun j v hj => by rw [World.cell?_alloc_new]; simpa using hj, fun j => by simp [go_sem]⟩
theorem Bk.keep {W W' : World} {b : Nat} {vs : List Value} (h : Bk W b vs) (hb : Below W.heap.size W W') : Bk W' b vs :=
  ⟨Nat.lt_of_lt_of_le h.lt hb.size, fun j v hj => kc hb (h.at_ j v hj), fun j => (hb.frozen (p := ⟨b, j, none⟩) h.lt).trans (h.fr j)⟩
theorem Bk.past {W : World} {b : Nat} {vs : List Value} (h : Bk W b vs) (o : Obj) : Bk (W.alloc o) b vs := h.keep (al1 o)
theorem Bk.drew {W : World} {b : Nat} {vs : List Value} (h : Bk W b vs) : Bk W.drew b vs := ⟨h.lt, h.at_, h.fr⟩
theorem Bk.only {W W' : World} {b : Nat} {vs : List Value} {S : Nat → Prop} (h : Bk W b vs) (ho : Only S W W') (hb : ¬ S b) : Bk W' b vs :=
  ⟨Nat.lt_of_lt_of_le h.lt ho.size, fun j v hj => ho.cell (h.at_ j v hj) hb, fun j => (World.frozen?_of_block (w := W) (a := ⟨b, j, none⟩) (ho.block b h.lt hb)).trans (h.fr j)⟩
theorem Bk.set {W : World} {b : Nat} {vs : List Value} (h : Bk W b vs) (i : Nat) (u : Value) (hi : i < vs.length) : Bk (W.setCell ⟨b, i, none⟩ u) b (vs.set i u) := by
  refine ⟨by have := h.lt; simpa [World.setCell] using this, fun j v hj => ?_, fun j => by rw [World.frozen?_setCell]; exact h.fr j⟩
  rw [List.getElem?_set] at hj
  by_cases e : i = j
  · subst e
    rw [if_pos rfl, if_pos hi] at hj
    cases hj
    exact setS (h.at_ i _ (List.getElem?_eq_getElem hi))
  · rw [if_neg e] at hj
    exact setO (h.at_ j v hj) (.inr e)
theorem Bk.other {W : World} {b b' k : Nat} {vs : List Value} (h : Bk W b vs) (u : Value) (hne : b' ≠ b) : Bk (W.setCell ⟨b', k, none⟩ u) b vs :=
  ⟨by have := h.lt; simpa [World.setCell] using this, fun j v hj => setO (h.at_ j v hj) (.inl hne), fun j => by rw [World.frozen?_setCell]; exact h.fr j⟩

/-- A node and where its pairs lie. -/
structure RN where
  n : Nd
  a : Option Addr
  c : Nat
def cellN (m : RN) : List Value := [.bool m.n.r, .int .i64 m.n.k, .int .i64 m.n.a, .int .i64 m.n.b, .slice m.a m.n.p.length m.c, .int .i64 m.n.s]
def cellsN : List RN → List Value
  | [] => []
  | m :: l => cellN m ++ cellsN l
theorem cellsN_len (l : List RN) : (cellsN l).length = l.length * 6 := by
  induction l with
  | nil => rfl
  | cons m l ih => simp only [cellsN, List.length_append, ih, List.length_cons]; simp [cellN]; omega
theorem cellsN_app (l l' : List RN) : cellsN (l ++ l') = cellsN l ++ cellsN l' := by
  induction l with
  | nil => rfl
  | cons m l ih => simp [cellsN, ih]
theorem cellsN_one (l : List RN) : ∀ u ∈ cellsN l, u.oneCell' = true := by
  induction l with
  | nil => intro u hu; cases hu
  | cons m l ih =>
    intro u hu
    rcases List.mem_append.1 hu with hu | hu
    · simp [cellN] at hu
      rcases hu with rfl | rfl | rfl | rfl | rfl | rfl <;> rfl
    · exact ih u hu
theorem cellsN_get : ∀ (l : List RN) (i : Nat) (m : RN), l[i]? = some m → ∀ j v, (cellN m)[j]? = some v → (cellsN l)[i * 6 + j]? = some v := by
  intro l
  induction l with
  | nil => intro i m h; simp at h
  | cons x l ih =>
    intro i m h j v hv
    have hj : j < 6 := by have := (List.getElem?_eq_some_iff.1 hv).1; simpa [cellN] using this
    cases i with
    | zero =>
      simp at h; subst h
      rw [show 0 * 6 + j = j by omega]
      simp only [cellsN]
      rw [List.getElem?_append_left (by simpa [cellN] using hj)]
      exact hv
    | succ i =>
      simp only [List.getElem?_cons_succ] at h
      have := ih i m h j v hv
      simp only [cellsN]
      rw [List.getElem?_append_right (by simp [cellN]; omega)]
      rw [show (i + 1) * 6 + j - (cellN x).length = i * 6 + j by simp [cellN]; omega]
      exact this
theorem cellsN_set : ∀ (l : List RN) (i : Nat) (m m' : RN), l[i]? = some m → ∀ j v, j < 6 → (cellN m).set j v = cellN m' → (cellsN l).set (i * 6 + j) v = cellsN (l.set i m') := by
  intro l
  induction l with
  | nil => intro i m m' h; simp at h
  | cons x l ih =>
    intro i m m' h j v hj hv
    cases i with
    | zero =>
      simp at h; subst h
      rw [show 0 * 6 + j = j by omega]
      simp only [cellsN, List.set_cons_zero]
      rw [List.set_append_left _ _ (by simpa [cellN] using hj), hv]
    | succ i =>
      simp only [List.getElem?_cons_succ] at h
      have := ih i m m' h j v hj hv
      simp only [cellsN, List.set_cons_succ]
      rw [List.set_append_right _ _ (by simp [cellN]; omega)]
      rw [show (i + 1) * 6 + j - (cellN x).length = i * 6 + j by simp [cellN]; omega, this]

/-- A row of nodes of one's own; Q: what else is written. -/
structure NRow (W : World) (Q : Nat → Prop) (v : Value) (M : List RN) : Prop where
  row : W.ownsRow 0 51 6 v M.length (cellsN M)
  own : ∀ k, v.ownBlock = some k → ¬ Q k
  prs : ∀ m ∈ M, Prs W m.a m.c m.n.p ∧ (m.n.p ≠ [] → ∀ b o sp, m.a = some ⟨b, o, sp⟩ → ¬ Q b ∧ v.ownBlock ≠ some b)
theorem prs_only {W W' : World} {S : Nat → Prop} {a : Option Addr} {c : Nat} {p : List Pr} (h : Prs W a c p) (o : Only S W W') (hS : p ≠ [] → ∀ b o sp, a = some ⟨b, o, sp⟩ → ¬ S b) : Prs W' a c p :=
  ⟨h.1, h.2.1, fun n q hq => by
    obtain ⟨b, o', rfl, h0, h1⟩ := h.2.2.1 n q hq
    have hb := hS (fun e => by rw [e] at hq; simp at hq) b o' none rfl
    exact ⟨b, o', rfl, o.cell h0 hb, o.cell h1 hb⟩, h.2.2.2⟩
theorem PRow.only {w w' : World} {S F : Nat → Prop} {v : Value} {l : List Pr} (h : PRow w S v l) (o : Only F w w') (hF : ∀ k, F k → S k) : PRow w' S v l :=
  ⟨o.row h.row (fun k hk hf => h.av k hk (hF k hf)), h.av⟩
theorem prs_lt {W : World} {b o : Nat} {sp : Option Nat} {c : Nat} {p : List Pr} (h : True) (k : Prs W (some ⟨b, o, none⟩) c p) (hp : p ≠ []) : b < W.heap.size := by
  obtain ⟨q, l, rfl⟩ := List.exists_cons_of_ne_nil hp
  obtain ⟨b', o', e, c0, _⟩ := k.2.2.1 0 q rfl
  cases e
  exact World.block_lt_of_cell? W _ c0
section
variable {W W' : World} {Q : Nat → Prop} {v : Value} {M : List RN}
theorem NRow.nil (W : World) (Q : Nat → Prop) : NRow W Q (.slice none 0 0) [] := ⟨World.ownsRow_nil W 0 _ 6, fun k hk => by simp [Value.ownBlock] at hk, fun m hm => by cases hm⟩
theorem NRow.keep (h : NRow W Q v M) (hb : Below W.heap.size W W') : NRow W' Q v M := by
  refine ⟨⟨h.row.1, ?_⟩, h.own, fun m hm => ⟨(h.prs m hm).1.below hb, (h.prs m hm).2⟩⟩
  rcases h.row.2 with hn | ⟨g, cap, cur, rfl, hbb, hgg, rest⟩
  · exact .inl hn
  · refine .inr ⟨g, cap, cur, rfl, hbb, ?_, rest⟩
    rw [hb.block g (Array.getElem?_eq_some_iff.1 hgg).1]
    exact hgg
theorem NRow.drew (h : NRow W Q v M) : NRow W.drew Q v M := h.keep ((Below.refl _ _).drew)
theorem NRow.only (h : NRow W Q v M) {S : Nat → Prop} (o : Only S W W') (hS : ∀ k, S k → Q k) : NRow W' Q v M :=
  ⟨o.row h.row (fun k hk hs => h.own k hk (hS k hs)), h.own, fun m hm => ⟨prs_only (h.prs m hm).1 o (fun hp b o' sp e hs => ((h.prs m hm).2 hp b o' sp e).1 (hS b hs)), (h.prs m hm).2⟩⟩
theorem NRow.form (h : NRow W Q v M) : ∃ ao cap, v = .slice ao M.length cap ∧ M.length ≤ cap ∧ cap ≤ maxLen := row_form h.row
theorem NRow.sub {Q' : Nat → Prop} (h : NRow W Q v M) (hS : ∀ k, k < W.heap.size → Q' k → Q k) : NRow W Q' v M :=
  ⟨h.row, fun k hk hs => h.own k hk (hS k (h.row.lt k hk).2 hs), fun m hm => ⟨(h.prs m hm).1, fun hp b o sp e => ⟨fun hs => by
    obtain ⟨q, l, hl⟩ := List.exists_cons_of_ne_nil hp
    have hp' := (h.prs m hm).1
    rw [hl] at hp'
    obtain ⟨b', o', e', c0, _⟩ := hp'.2.2.1 0 q rfl
    rw [e] at e'; cases e'
    exact ((h.prs m hm).2 hp b o _ e).1 (hS b (World.block_lt_of_cell? W _ c0) hs), ((h.prs m hm).2 hp b o sp e).2⟩⟩⟩
/-- A node of the row. -/
theorem NRow.at {a : Option Addr} {n cap : Nat} (h : NRow W Q (.slice a n cap) M) {i : Nat} {m : RN} (hm : M[i]? = some m) :
    ∃ g, a = some ⟨g, 0, none⟩ ∧ n = M.length ∧ NA W g (i * 6) m.a m.c m.n ∧ ∀ j, W.frozen? ⟨g, j, none⟩ = false := by
  have hlt : i < M.length := (List.getElem?_eq_some_iff.1 hm).1
  obtain ⟨g, cap2, e, _, _, hf⟩ := row_at h.row (by omega)
  simp only [Value.slice.injEq] at e
  obtain ⟨rfl, rfl, rfl⟩ := e
  refine ⟨g, rfl, rfl, ?_, hf⟩
  have at_ : ∀ j u, (cellN m)[j]? = some u → W.cell? ⟨g, i * 6 + j, none⟩ = some u := fun j u hj => by
    have hj6 : j < 6 := by have := (List.getElem?_eq_some_iff.1 hj).1; simpa [cellN] using this
    rw [h.row.cellAt _ (by omega)]
    exact cellsN_get M i m hm j u hj
  exact ⟨at_ 0 _ rfl, at_ 1 _ rfl, at_ 2 _ rfl, at_ 3 _ rfl, at_ 4 _ rfl, at_ 5 _ rfl, (h.prs m (List.mem_of_getElem? hm)).1⟩
theorem NRow.ns {a : Option Addr} {n cap : Nat} (h : NRow W Q (.slice a n cap) M) : n = M.length ∧ Ns W a cap (M.map (fun m => m.n)) := by
  obtain ⟨ao, cap', e, h1, h2⟩ := h.form
  simp only [Value.slice.injEq] at e
  obtain ⟨rfl, rfl, rfl⟩ := e
  refine ⟨rfl, by simpa using h1, h2, fun i n hn => ?_⟩
  rw [List.getElem?_map] at hn
  obtain ⟨m, hm, rfl⟩ := Option.map_eq_some_iff.1 hn
  obtain ⟨g, rfl, _, hna, _⟩ := h.at hm
  exact ⟨g, 0, m.a, m.c, rfl, by rw [Nat.zero_add]; exact hna⟩
/-- A cell of a node is written. -/
theorem NRow.cell {g n cap : Nat} (h : NRow W Q (.slice (some ⟨g, 0, none⟩) n cap) M) {i : Nat} {m : RN} (hm : M[i]? = some m) (m' : RN) (j : Nat) (u : Value) (hj : j < 6) (hu : (cellN m).set j u = cellN m')
    (hp : Prs W m'.a m'.c m'.n.p) (hs : m'.n.p ≠ [] → ∀ b o sp, m'.a = some ⟨b, o, sp⟩ → ¬ Q b ∧ g ≠ b) : NRow (W.setCell ⟨g, i * 6 + j, none⟩ u) Q (.slice (some ⟨g, 0, none⟩) n cap) (M.set i m') := by
  obtain ⟨ao, cap', e, h1, h2⟩ := h.form
  simp only [Value.slice.injEq] at e
  obtain ⟨rfl, rfl, rfl⟩ := e
  have hO : Only (fun k => k = g) W (W.setCell ⟨g, i * 6 + j, none⟩ u) := (Only.refl _ _).setCell (S := fun k => k = g) (p := ⟨g, i * 6 + j, none⟩) (.inl rfl) _
  refine ⟨?_, h.own, fun x hx => ?_⟩
  · have := (h.row.stored (i * 6 + j) u).1
    rw [cellsN_set M i m m' hm j u hj hu] at this
    rw [List.length_set]
    exact this
  · rcases List.mem_or_eq_of_mem_set hx with hx | rfl
    · refine ⟨prs_only (h.prs x hx).1 hO (fun hp b o sp e hb => ((h.prs x hx).2 hp b o sp e).2 (by rw [hb]; rfl)), (h.prs x hx).2⟩
    · refine ⟨prs_only hp hO (fun hp b o sp e hb => (hs hp b o sp e).2 hb.symm), fun hp b o sp e => ⟨(hs hp b o sp e).1, fun hh => (hs hp b o sp e).2 (by simpa [Value.ownBlock] using hh)⟩⟩
end
theorem NRow.six {W : World} {Q : Nat → Prop} {M : List RN} {g n cap : Nat} (h : NRow W Q (.slice (some ⟨g, 0, none⟩) n cap) M) {i : Nat} {m0 : RN} (hm : M[i]? = some m0) (m' : RN) (hp : Prs W m'.a m'.c m'.n.p) (hs : m'.n.p ≠ [] → ∀ b o sp, m'.a = some ⟨b, o, sp⟩ → ¬ Q b ∧ g ≠ b) :
    NRow ((((((W.setCell ⟨g, i * 6, none⟩ (.bool m'.n.r)).setCell ⟨g, i * 6 + 1, none⟩ (.int .i64 m'.n.k)).setCell ⟨g, i * 6 + 2, none⟩ (.int .i64 m'.n.a)).setCell ⟨g, i * 6 + 3, none⟩ (.int .i64 m'.n.b)).setCell ⟨g, i * 6 + 4, none⟩ (.slice m'.a m'.n.p.length m'.c)).setCell ⟨g, i * 6 + 5, none⟩ (.int .i64 m'.n.s)) Q (.slice (some ⟨g, 0, none⟩) n cap) (M.set i m') := by
  have hi := (List.getElem?_eq_some_iff.1 hm).1
  obtain ⟨⟨r0, k0, a0, b0, p0, s0⟩, pa0, pc0⟩ := m0
  obtain ⟨⟨r, k, a, b, p, s⟩, pa, pc⟩ := m'
  dsimp only at hp hs ⊢
  have q0 := h.prs _ (List.mem_of_getElem? hm)
  have sep0 : p0 ≠ [] → ∀ b o sp, pa0 = some ⟨b, o, sp⟩ → ¬ Q b ∧ g ≠ b := fun hpp b o sp e => ⟨(q0.2 hpp b o sp e).1, fun e' => (q0.2 hpp b o sp e).2 (by rw [← e']; rfl)⟩
  have step : ∀ {W : World} {p : List Pr} {pa : Option Addr} {pc : Nat} (j : Nat) (u : Value), Prs W pa pc p → (p ≠ [] → ∀ b o sp, pa = some ⟨b, o, sp⟩ → ¬ Q b ∧ g ≠ b) → Prs (W.setCell ⟨g, j, none⟩ u) pa pc p := fun {W p pa pc} j u hp hs =>
    prs_only hp ((Only.refl _ W).setCell (S := fun k => k = g) (p := ⟨g, j, none⟩) (.inl rfl) u) (fun hpp b o sp e hb => (hs hpp b o sp e).2 hb.symm)
  have z0 := q0.1
  have h1 := h.cell hm ⟨⟨r, k0, a0, b0, p0, s0⟩, pa0, pc0⟩ 0 (.bool r) (by decide) rfl z0 sep0
  have z1 := step (i * 6) (.bool r) z0 sep0
  have h2 := h1.cell (List.getElem?_set_self hi) ⟨⟨r, k, a0, b0, p0, s0⟩, pa0, pc0⟩ 1 (.int .i64 k) (by decide) rfl z1 sep0
  have z2 := step (i * 6 + 1) (.int .i64 k) z1 sep0
  rw [List.set_set] at h2
  have h3 := h2.cell (List.getElem?_set_self hi) ⟨⟨r, k, a, b0, p0, s0⟩, pa0, pc0⟩ 2 (.int .i64 a) (by decide) rfl z2 sep0
  have z3 := step (i * 6 + 2) (.int .i64 a) z2 sep0
  rw [List.set_set] at h3
  have h4 := h3.cell (List.getElem?_set_self hi) ⟨⟨r, k, a, b, p0, s0⟩, pa0, pc0⟩ 3 (.int .i64 b) (by decide) rfl z3 sep0
  rw [List.set_set] at h4
  have y4 := step (i * 6 + 3) (.int .i64 b) (step (i * 6 + 2) (.int .i64 a) (step (i * 6 + 1) (.int .i64 k) (step (i * 6) (.bool r) hp hs) hs) hs) hs
  have h5 := h4.cell (List.getElem?_set_self hi) ⟨⟨r, k, a, b, p, s0⟩, pa, pc⟩ 4 (.slice pa p.length pc) (by decide) rfl y4 hs
  rw [List.set_set] at h5
  have y5 := step (i * 6 + 4) (.slice pa p.length pc) y4 hs
  have h6 := h5.cell (List.getElem?_set_self hi) ⟨⟨r, k, a, b, p, s⟩, pa, pc⟩ 5 (.int .i64 s) (by decide) rfl y5 hs
  rw [List.set_set] at h6
  exact h6
theorem only_six {S : Nat → Prop} {w0 W : World} {g j : Nat} {v0 v1 v2 v3 v4 v5 : Value} (h : Only S w0 W) (hg : S g ∨ w0.heap.size ≤ g) :
    Only S w0 ((((((W.setCell ⟨g, j, none⟩ v0).setCell ⟨g, j + 1, none⟩ v1).setCell ⟨g, j + 2, none⟩ v2).setCell ⟨g, j + 3, none⟩ v3).setCell ⟨g, j + 4, none⟩ v4).setCell ⟨g, j + 5, none⟩ v5) :=
  (((((h.setCell hg v0).setCell hg v1).setCell hg v2).setCell hg v3).setCell hg v4).setCell hg v5
theorem infoNode : (Try.prog.info? 51).map (fun i => (i.zero, i.size, i.bytes)) = some (some (.agg #[.bool false, .int .i64 0, .int .i64 0, .int .i64 0, .slice none 0 0, .int .i64 0]), 6, 64) := by kernel_rfl

def RN.z : RN := ⟨Nd.z, none, 0⟩
/-- So many empty nodes. -/
def mkN (n : Nat) : Array Value := madeCells (Value.agg #[.bool false, .int .i64 0, .int .i64 0, .int .i64 0, .slice none 0 0, .int .i64 0]).cells (n * 6)
theorem mkN_run (n : Nat) (h : n ≤ 460) (w : World) : (Instr.makeSlice 22 (.int .i64 (n : Int)) (.int .i64 (n : Int))).run Try.prog w = .ok (.slice (some ⟨w.heap.size, 0, none⟩) n n) (w.alloc (.cells (mkN n) 51)) := by
  obtain ⟨i, hi, hz, hs1, hs2⟩ := info_parts infoNode
  have hr := run_make (P := Try.prog) w 22 51 i _ Try.underlying22 hi hz .i64 .i64 n n (by omega) (Int.le_refl _) (by rw [hs2]; omega) (by omega)
  rw [hs1] at hr
  simpa [mkN] using hr
theorem mkN_list (n : Nat) : (mkN n).toList = cellsN (List.replicate n RN.z) := by
  apply List.ext_getElem?
  intro j
  have hl : (cellsN (List.replicate n RN.z)).length = n * 6 := by rw [cellsN_len, List.length_replicate]
  by_cases hj : j < n * 6
  · have h0 : (mkN n).toList[j]? = (cellN RN.z)[j % 6]? := by
      have h6 : j % 6 < 6 := Nat.mod_lt _ (by decide)
      unfold mkN madeCells
      simp only [Value.cells]
      simp [hj]
      match h : j % 6, h6 with
      | 0, _ => simp [h, cellN, RN.z, Nd.z]
      | 1, _ => simp [h, cellN, RN.z, Nd.z]
      | 2, _ => simp [h, cellN, RN.z, Nd.z]
      | 3, _ => simp [h, cellN, RN.z, Nd.z]
      | 4, _ => simp [h, cellN, RN.z, Nd.z]
      | 5, _ => simp [h, cellN, RN.z, Nd.z]
    obtain ⟨u, hu⟩ : ∃ u, (cellN RN.z)[j % 6]? = some u := ⟨_, List.getElem?_eq_getElem (Nat.mod_lt _ (by decide))⟩
    rw [h0, hu]
    have := cellsN_get (List.replicate n RN.z) (j / 6) RN.z (by rw [List.getElem?_replicate, if_pos (by omega)]) (j % 6) u hu
    rw [show j / 6 * 6 + j % 6 = j by omega] at this
    exact this.symm
  · rw [List.getElem?_eq_none (l := (mkN n).toList) (by simp [mkN, madeCells]; omega), List.getElem?_eq_none (by rw [hl]; omega)]
theorem NRow.made (w : World) (n : Nat) (hn : n ≤ 460) (Q : Nat → Prop) (hQ : ¬ Q w.heap.size) : NRow (w.alloc (.cells (mkN n) 51)) Q (.slice (some ⟨w.heap.size, 0, none⟩) n n) (List.replicate n RN.z) := by
  have h := World.ownsRow_lit (base := 0) (e := 51) (size := 6) w (mkN n) n (Nat.zero_le _) (by unfold maxLen; omega) (by
    rw [← Array.length_toList, mkN_list, cellsN_len, List.length_replicate])
  rw [mkN_list] at h
  refine ⟨by rw [List.length_replicate]; exact h, fun k hk => ?_, fun m hm => ?_⟩
  · simp [Value.ownBlock] at hk; subst hk; exact hQ
  · rw [(List.mem_replicate.1 hm).2]
    exact ⟨Prs.nil _, fun hp => absurd rfl hp⟩
end Go.Proofs.Ytlpjbgojijkdjaa
