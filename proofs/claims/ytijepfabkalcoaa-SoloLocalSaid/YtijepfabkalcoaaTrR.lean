/- Rows of nodes that a function makes for itself: appended to, written. No condition: definitions and lemmas. tree.copied, tree.copiedNode. No condition: lemmas. tree.Plain. No condition: lemmas. tree.Plain of a tree that may be. No condition: lemmas. -/
import Derived.Test.YtijepfabkalcoaaTrF
import Derived.Test.YtijepfabkalcoaaTrM
namespace Go.Proofs.Ytijepfabkalcoaa
open Go.RowKit
set_option linter.all false

/-- A block whose cells are known, and may be written. -/
structure Bk (W : World) (b : Nat) (vs : List Value) : Prop where
  lt : b < W.heap.size
  at_ : ∀ (j : Nat) (v : Value), vs[j]? = some v → W.cell? ⟨b, j, none⟩ = some v
  fr : ∀ j, W.frozen? ⟨b, j, none⟩ = false
theorem Bk.new (W : World) (cs : Array Value) (t : TypeId) : Bk (W.alloc (.cells cs t)) W.heap.size cs.toList :=
  ⟨by simp, fun j v hj => by rw [World.cell?_alloc_new]; simpa using hj, fun j => by simp [go_sem]⟩
theorem Bk.keep {W W' : World} {b : Nat} {vs : List Value} (h : Bk W b vs) (hb : Below W.heap.size W W') : Bk W' b vs :=
  ⟨Nat.lt_of_lt_of_le h.lt hb.size, fun j v hj => kc hb (h.at_ j v hj), fun j => (hb.frozen (p := ⟨b, j, none⟩) h.lt).trans (h.fr j)⟩
theorem Bk.past {W : World} {b : Nat} {vs : List Value} (h : Bk W b vs) (o : Obj) : Bk (W.alloc o) b vs := h.keep (al1 o)
theorem Bk.drew {W : World} {b : Nat} {vs : List Value} (h : Bk W b vs) : Bk W.drew b vs := ⟨h.lt, h.at_, h.fr⟩
theorem Bk.only {W W' : World} {b : Nat} {vs : List Value} {S : Nat → Prop} (h : Bk W b vs) (ho : Only S W W') (hb : ¬ S b) : Bk W' b vs :=
  ⟨Nat.lt_of_lt_of_le h.lt ho.size, fun j v hj => ho.cell (h.at_ j v hj) hb, fun j => (World.frozen?_of_block (w := W) (a := ⟨b, j, none⟩) (ho.block b h.lt hb)).trans (h.fr j)⟩
theorem Bk.set {W : World} {b : Nat} {vs : List Value} (h : Bk W b vs) (i : Nat) (u : Value) (hi : i < vs.length) : Bk (W.setCell ⟨b, i, none⟩ u) b (vs.set i u) := by
  refine ⟨by have := h.lt; simpa [World.setCell] using this, fun j v hj => ?_, fun j => by rw [World.frozen?_setCell]; exact h.fr j⟩
  rw [List.getElem?_set] at hj
  by_cases e : i = j
  · subst e
    rw [if_pos rfl, if_pos hi] at hj
    cases hj
    exact setS (h.at_ i _ (List.getElem?_eq_getElem hi))
  · rw [if_neg e] at hj
    exact setO (h.at_ j v hj) (.inr e)
theorem Bk.other {W : World} {b b' k : Nat} {vs : List Value} (h : Bk W b vs) (u : Value) (hne : b' ≠ b) : Bk (W.setCell ⟨b', k, none⟩ u) b vs :=
  ⟨by have := h.lt; simpa [World.setCell] using this, fun j v hj => setO (h.at_ j v hj) (.inl hne), fun j => by rw [World.frozen?_setCell]; exact h.fr j⟩

/-- A node and where its pairs lie. -/
structure RN where
  n : Nd
  a : Option Addr
  c : Nat
def cellN (m : RN) : List Value := [.bool m.n.r, .int .i64 m.n.k, .int .i64 m.n.a, .int .i64 m.n.b, .slice m.a m.n.p.length m.c, .int .i64 m.n.s]
def cellsN : List RN → List Value
  | [] => []
  | m :: l => cellN m ++ cellsN l
theorem cellsN_len (l : List RN) : (cellsN l).length = l.length * 6 := by
  induction l with
  | nil => rfl
  | cons m l ih => simp only [cellsN, List.length_append, ih, List.length_cons]; simp [cellN]; omega
theorem cellsN_app (l l' : List RN) : cellsN (l ++ l') = cellsN l ++ cellsN l' := by
  induction l with
  | nil => rfl
  | cons m l ih => simp [cellsN, ih]
theorem cellsN_one (l : List RN) : ∀ u ∈ cellsN l, u.oneCell' = true := by
  induction l with
  | nil => intro u hu; cases hu
  | cons m l ih =>
    intro u hu
    rcases List.mem_append.1 hu with hu | hu
    · simp [cellN] at hu
      rcases hu with rfl | rfl | rfl | rfl | rfl | rfl <;> rfl
    · exact ih u hu
theorem cellsN_get : ∀ (l : List RN) (i : Nat) (m : RN), l[i]? = some m → ∀ j v, (cellN m)[j]? = some v → (cellsN l)[i * 6 + j]? = some v := by
  intro l
  induction l with
  | nil => intro i m h; simp at h
  | cons x l ih =>
    intro i m h j v hv
    have hj : j < 6 := by have := (List.getElem?_eq_some_iff.1 hv).1; simpa [cellN] using this
    cases i with
    | zero =>
      simp at h; subst h
      rw [show 0 * 6 + j = j by omega]
      simp only [cellsN]
      rw [List.getElem?_append_left (by simpa [cellN] using hj)]
      exact hv
    | succ i =>
      simp only [List.getElem?_cons_succ] at h
      have := ih i m h j v hv
      simp only [cellsN]
      rw [List.getElem?_append_right (by simp [cellN]; omega)]
      rw [show (i + 1) * 6 + j - (cellN x).length = i * 6 + j by simp [cellN]; omega]
      exact this
theorem cellsN_set : ∀ (l : List RN) (i : Nat) (m m' : RN), l[i]? = some m → ∀ j v, j < 6 → (cellN m).set j v = cellN m' → (cellsN l).set (i * 6 + j) v = cellsN (l.set i m') := by
  intro l
  induction l with
  | nil => intro i m m' h; simp at h
  | cons x l ih =>
    intro i m m' h j v hj hv
    cases i with
    | zero =>
      simp at h; subst h
      rw [show 0 * 6 + j = j by omega]
      simp only [cellsN, List.set_cons_zero]
      rw [List.set_append_left _ _ (by simpa [cellN] using hj), hv]
    | succ i =>
      simp only [List.getElem?_cons_succ] at h
      have := ih i m m' h j v hj hv
      simp only [cellsN, List.set_cons_succ]
      rw [List.set_append_right _ _ (by simp [cellN]; omega)]
      rw [show (i + 1) * 6 + j - (cellN x).length = i * 6 + j by simp [cellN]; omega, this]

/-- A row of nodes of one's own; Q: what else is written. -/
structure NRow (W : World) (Q : Nat → Prop) (v : Value) (M : List RN) : Prop where
  row : W.ownsRow 0 49 6 v M.length (cellsN M)
  own : ∀ k, v.ownBlock = some k → ¬ Q k
  prs : ∀ m ∈ M, Prs W m.a m.c m.n.p ∧ (m.n.p ≠ [] → ∀ b o sp, m.a = some ⟨b, o, sp⟩ → ¬ Q b ∧ v.ownBlock ≠ some b)
theorem prs_only {W W' : World} {S : Nat → Prop} {a : Option Addr} {c : Nat} {p : List Pr} (h : Prs W a c p) (o : Only S W W') (hS : p ≠ [] → ∀ b o sp, a = some ⟨b, o, sp⟩ → ¬ S b) : Prs W' a c p :=
  ⟨h.1, h.2.1, fun n q hq => by
    obtain ⟨b, o', rfl, h0, h1⟩ := h.2.2.1 n q hq
    have hb := hS (fun e => by rw [e] at hq; simp at hq) b o' none rfl
    exact ⟨b, o', rfl, o.cell h0 hb, o.cell h1 hb⟩, h.2.2.2⟩
theorem PRow.only {w w' : World} {S F : Nat → Prop} {v : Value} {l : List Pr} (h : PRow w S v l) (o : Only F w w') (hF : ∀ k, F k → S k) : PRow w' S v l :=
  ⟨o.row h.row (fun k hk hf => h.av k hk (hF k hf)), h.av⟩
section
variable {W W' : World} {Q : Nat → Prop} {v : Value} {M : List RN}
theorem NRow.nil (W : World) (Q : Nat → Prop) : NRow W Q (.slice none 0 0) [] := ⟨World.ownsRow_nil W 0 _ 6, fun k hk => by simp [Value.ownBlock] at hk, fun m hm => by cases hm⟩
theorem NRow.keep (h : NRow W Q v M) (hb : Below W.heap.size W W') : NRow W' Q v M := by
  refine ⟨⟨h.row.1, ?_⟩, h.own, fun m hm => ⟨(h.prs m hm).1.below hb, (h.prs m hm).2⟩⟩
  rcases h.row.2 with hn | ⟨g, cap, cur, rfl, hbb, hgg, rest⟩
  · exact .inl hn
  · refine .inr ⟨g, cap, cur, rfl, hbb, ?_, rest⟩
    rw [hb.block g (Array.getElem?_eq_some_iff.1 hgg).1]
    exact hgg
theorem NRow.drew (h : NRow W Q v M) : NRow W.drew Q v M := h.keep ((Below.refl _ _).drew)
theorem NRow.only (h : NRow W Q v M) {S : Nat → Prop} (o : Only S W W') (hS : ∀ k, S k → Q k) : NRow W' Q v M :=
  ⟨o.row h.row (fun k hk hs => h.own k hk (hS k hs)), h.own, fun m hm => ⟨prs_only (h.prs m hm).1 o (fun hp b o' sp e hs => ((h.prs m hm).2 hp b o' sp e).1 (hS b hs)), (h.prs m hm).2⟩⟩
theorem NRow.form (h : NRow W Q v M) : ∃ ao cap, v = .slice ao M.length cap ∧ M.length ≤ cap ∧ cap ≤ maxLen := row_form h.row
theorem NRow.sub {Q' : Nat → Prop} (h : NRow W Q v M) (hS : ∀ k, k < W.heap.size → Q' k → Q k) : NRow W Q' v M :=
  ⟨h.row, fun k hk hs => h.own k hk (hS k (h.row.lt k hk).2 hs), fun m hm => ⟨(h.prs m hm).1, fun hp b o sp e => ⟨fun hs => by
    obtain ⟨q, l, hl⟩ := List.exists_cons_of_ne_nil hp
    have hp' := (h.prs m hm).1
    rw [hl] at hp'
    obtain ⟨b', o', e', c0, _⟩ := hp'.2.2.1 0 q rfl
    rw [e] at e'; cases e'
    exact ((h.prs m hm).2 hp b o _ e).1 (hS b (World.block_lt_of_cell? W _ c0) hs), ((h.prs m hm).2 hp b o sp e).2⟩⟩⟩
/-- A node of the row. -/
theorem NRow.at {a : Option Addr} {n cap : Nat} (h : NRow W Q (.slice a n cap) M) {i : Nat} {m : RN} (hm : M[i]? = some m) :
    ∃ g, a = some ⟨g, 0, none⟩ ∧ n = M.length ∧ NA W g (i * 6) m.a m.c m.n ∧ ∀ j, W.frozen? ⟨g, j, none⟩ = false := by
  have hlt : i < M.length := (List.getElem?_eq_some_iff.1 hm).1
  obtain ⟨g, cap2, e, _, _, hf⟩ := row_at h.row (by omega)
  simp only [Value.slice.injEq] at e
  obtain ⟨rfl, rfl, rfl⟩ := e
  refine ⟨g, rfl, rfl, ?_, hf⟩
  have at_ : ∀ j u, (cellN m)[j]? = some u → W.cell? ⟨g, i * 6 + j, none⟩ = some u := fun j u hj => by
    have hj6 : j < 6 := by have := (List.getElem?_eq_some_iff.1 hj).1; simpa [cellN] using this
    rw [h.row.cellAt _ (by omega)]
    exact cellsN_get M i m hm j u hj
  exact ⟨at_ 0 _ rfl, at_ 1 _ rfl, at_ 2 _ rfl, at_ 3 _ rfl, at_ 4 _ rfl, at_ 5 _ rfl, (h.prs m (List.mem_of_getElem? hm)).1⟩
theorem NRow.ns {a : Option Addr} {n cap : Nat} (h : NRow W Q (.slice a n cap) M) : n = M.length ∧ Ns W a cap (M.map (fun m => m.n)) := by
  obtain ⟨ao, cap', e, h1, h2⟩ := h.form
  simp only [Value.slice.injEq] at e
  obtain ⟨rfl, rfl, rfl⟩ := e
  refine ⟨rfl, by simpa using h1, h2, fun i n hn => ?_⟩
  rw [List.getElem?_map] at hn
  obtain ⟨m, hm, rfl⟩ := Option.map_eq_some_iff.1 hn
  obtain ⟨g, rfl, _, hna, _⟩ := h.at hm
  exact ⟨g, 0, m.a, m.c, rfl, by rw [Nat.zero_add]; exact hna⟩
/-- A cell of a node is written. -/
theorem NRow.cell {g n cap : Nat} (h : NRow W Q (.slice (some ⟨g, 0, none⟩) n cap) M) {i : Nat} {m : RN} (hm : M[i]? = some m) (m' : RN) (j : Nat) (u : Value) (hj : j < 6) (hu : (cellN m).set j u = cellN m')
    (hp : Prs W m'.a m'.c m'.n.p) (hs : m'.n.p ≠ [] → ∀ b o sp, m'.a = some ⟨b, o, sp⟩ → ¬ Q b ∧ g ≠ b) : NRow (W.setCell ⟨g, i * 6 + j, none⟩ u) Q (.slice (some ⟨g, 0, none⟩) n cap) (M.set i m') := by
  obtain ⟨ao, cap', e, h1, h2⟩ := h.form
  simp only [Value.slice.injEq] at e
  obtain ⟨rfl, rfl, rfl⟩ := e
  have hO : Only (fun k => k = g) W (W.setCell ⟨g, i * 6 + j, none⟩ u) := (Only.refl _ _).setCell (S := fun k => k = g) (p := ⟨g, i * 6 + j, none⟩) (.inl rfl) _
  refine ⟨?_, h.own, fun x hx => ?_⟩
  · have := (h.row.stored (i * 6 + j) u).1
    rw [cellsN_set M i m m' hm j u hj hu] at this
    rw [List.length_set]
    exact this
  · rcases List.mem_or_eq_of_mem_set hx with hx | rfl
    · refine ⟨prs_only (h.prs x hx).1 hO (fun hp b o sp e hb => ((h.prs x hx).2 hp b o sp e).2 (by rw [hb]; rfl)), (h.prs x hx).2⟩
    · refine ⟨prs_only hp hO (fun hp b o sp e hb => (hs hp b o sp e).2 hb.symm), fun hp b o sp e => ⟨(hs hp b o sp e).1, fun hh => (hs hp b o sp e).2 (by simpa [Value.ownBlock] using hh)⟩⟩
end
theorem NRow.six {W : World} {Q : Nat → Prop} {M : List RN} {g n cap : Nat} (h : NRow W Q (.slice (some ⟨g, 0, none⟩) n cap) M) {i : Nat} {m0 : RN} (hm : M[i]? = some m0) (m' : RN) (hp : Prs W m'.a m'.c m'.n.p) (hs : m'.n.p ≠ [] → ∀ b o sp, m'.a = some ⟨b, o, sp⟩ → ¬ Q b ∧ g ≠ b) :
    NRow ((((((W.setCell ⟨g, i * 6, none⟩ (.bool m'.n.r)).setCell ⟨g, i * 6 + 1, none⟩ (.int .i64 m'.n.k)).setCell ⟨g, i * 6 + 2, none⟩ (.int .i64 m'.n.a)).setCell ⟨g, i * 6 + 3, none⟩ (.int .i64 m'.n.b)).setCell ⟨g, i * 6 + 4, none⟩ (.slice m'.a m'.n.p.length m'.c)).setCell ⟨g, i * 6 + 5, none⟩ (.int .i64 m'.n.s)) Q (.slice (some ⟨g, 0, none⟩) n cap) (M.set i m') := by
  have hi := (List.getElem?_eq_some_iff.1 hm).1
  obtain ⟨⟨r0, k0, a0, b0, p0, s0⟩, pa0, pc0⟩ := m0
  obtain ⟨⟨r, k, a, b, p, s⟩, pa, pc⟩ := m'
  dsimp only at hp hs ⊢
  have q0 := h.prs _ (List.mem_of_getElem? hm)
  have sep0 : p0 ≠ [] → ∀ b o sp, pa0 = some ⟨b, o, sp⟩ → ¬ Q b ∧ g ≠ b := fun hpp b o sp e => ⟨(q0.2 hpp b o sp e).1, fun e' => (q0.2 hpp b o sp e).2 (by rw [← e']; rfl)⟩
  have step : ∀ {W : World} {p : List Pr} {pa : Option Addr} {pc : Nat} (j : Nat) (u : Value), Prs W pa pc p → (p ≠ [] → ∀ b o sp, pa = some ⟨b, o, sp⟩ → ¬ Q b ∧ g ≠ b) → Prs (W.setCell ⟨g, j, none⟩ u) pa pc p := fun {W p pa pc} j u hp hs =>
    prs_only hp ((Only.refl _ W).setCell (S := fun k => k = g) (p := ⟨g, j, none⟩) (.inl rfl) u) (fun hpp b o sp e hb => (hs hpp b o sp e).2 hb.symm)
  have z0 := q0.1
  have h1 := h.cell hm ⟨⟨r, k0, a0, b0, p0, s0⟩, pa0, pc0⟩ 0 (.bool r) (by decide) rfl z0 sep0
  have z1 := step (i * 6) (.bool r) z0 sep0
  have h2 := h1.cell (List.getElem?_set_self hi) ⟨⟨r, k, a0, b0, p0, s0⟩, pa0, pc0⟩ 1 (.int .i64 k) (by decide) rfl z1 sep0
  have z2 := step (i * 6 + 1) (.int .i64 k) z1 sep0
  rw [List.set_set] at h2
  have h3 := h2.cell (List.getElem?_set_self hi) ⟨⟨r, k, a, b0, p0, s0⟩, pa0, pc0⟩ 2 (.int .i64 a) (by decide) rfl z2 sep0
  have z3 := step (i * 6 + 2) (.int .i64 a) z2 sep0
  rw [List.set_set] at h3
  have h4 := h3.cell (List.getElem?_set_self hi) ⟨⟨r, k, a, b, p0, s0⟩, pa0, pc0⟩ 3 (.int .i64 b) (by decide) rfl z3 sep0
  rw [List.set_set] at h4
  have y4 := step (i * 6 + 3) (.int .i64 b) (step (i * 6 + 2) (.int .i64 a) (step (i * 6 + 1) (.int .i64 k) (step (i * 6) (.bool r) hp hs) hs) hs) hs
  have h5 := h4.cell (List.getElem?_set_self hi) ⟨⟨r, k, a, b, p, s0⟩, pa, pc⟩ 4 (.slice pa p.length pc) (by decide) rfl y4 hs
  rw [List.set_set] at h5
  have y5 := step (i * 6 + 4) (.slice pa p.length pc) y4 hs
  have h6 := h5.cell (List.getElem?_set_self hi) ⟨⟨r, k, a, b, p, s⟩, pa, pc⟩ 5 (.int .i64 s) (by decide) rfl y5 hs
  rw [List.set_set] at h6
  exact h6
theorem only_six {S : Nat → Prop} {w0 W : World} {g j : Nat} {v0 v1 v2 v3 v4 v5 : Value} (h : Only S w0 W) (hg : S g ∨ w0.heap.size ≤ g) :
    Only S w0 ((((((W.setCell ⟨g, j, none⟩ v0).setCell ⟨g, j + 1, none⟩ v1).setCell ⟨g, j + 2, none⟩ v2).setCell ⟨g, j + 3, none⟩ v3).setCell ⟨g, j + 4, none⟩ v4).setCell ⟨g, j + 5, none⟩ v5) :=
  (((((h.setCell hg v0).setCell hg v1).setCell hg v2).setCell hg v3).setCell hg v4).setCell hg v5
theorem infoNode : (Try.prog.info? 49).map (fun i => (i.zero, i.size, i.bytes)) = some (some (.agg #[.bool false, .int .i64 0, .int .i64 0, .int .i64 0, .slice none 0 0, .int .i64 0]), 6, 64) := by kernel_rfl

def RN.z : RN := ⟨Nd.z, none, 0⟩
/-- So many empty nodes. -/
def mkN (n : Nat) : Array Value := madeCells (Value.agg #[.bool false, .int .i64 0, .int .i64 0, .int .i64 0, .slice none 0 0, .int .i64 0]).cells (n * 6)
theorem mkN_run (n : Nat) (h : n ≤ 2000) (w : World) : (Instr.makeSlice 22 (.int .i64 (n : Int)) (.int .i64 (n : Int))).run Try.prog w = .ok (.slice (some ⟨w.heap.size, 0, none⟩) n n) (w.alloc (.cells (mkN n) 49)) := by
  obtain ⟨i, hi, hz, hs1, hs2⟩ := info_parts infoNode
  have hr := run_make (P := Try.prog) w 22 49 i _ Try.underlying22 hi hz .i64 .i64 n n (by omega) (Int.le_refl _) (by rw [hs2]; omega) (by omega)
  rw [hs1] at hr
  simpa [mkN] using hr
theorem mkN_list (n : Nat) : (mkN n).toList = cellsN (List.replicate n RN.z) := by
  apply List.ext_getElem?
  intro j
  have hl : (cellsN (List.replicate n RN.z)).length = n * 6 := by rw [cellsN_len, List.length_replicate]
  by_cases hj : j < n * 6
  · have h0 : (mkN n).toList[j]? = (cellN RN.z)[j % 6]? := by
      have h6 : j % 6 < 6 := Nat.mod_lt _ (by decide)
      unfold mkN madeCells
      simp only [Value.cells]
      simp [hj]
      match h : j % 6, h6 with
      | 0, _ => simp [h, cellN, RN.z, Nd.z]
      | 1, _ => simp [h, cellN, RN.z, Nd.z]
      | 2, _ => simp [h, cellN, RN.z, Nd.z]
      | 3, _ => simp [h, cellN, RN.z, Nd.z]
      | 4, _ => simp [h, cellN, RN.z, Nd.z]
      | 5, _ => simp [h, cellN, RN.z, Nd.z]
    obtain ⟨u, hu⟩ : ∃ u, (cellN RN.z)[j % 6]? = some u := ⟨_, List.getElem?_eq_getElem (Nat.mod_lt _ (by decide))⟩
    rw [h0, hu]
    have := cellsN_get (List.replicate n RN.z) (j / 6) RN.z (by rw [List.getElem?_replicate, if_pos (by omega)]) (j % 6) u hu
    rw [show j / 6 * 6 + j % 6 = j by omega] at this
    exact this.symm
  · rw [List.getElem?_eq_none (l := (mkN n).toList) (by simp [mkN, madeCells]; omega), List.getElem?_eq_none (by rw [hl]; omega)]
theorem NRow.made (w : World) (n : Nat) (hn : n ≤ 2000) (Q : Nat → Prop) (hQ : ¬ Q w.heap.size) : NRow (w.alloc (.cells (mkN n) 49)) Q (.slice (some ⟨w.heap.size, 0, none⟩) n n) (List.replicate n RN.z) := by
  have h := World.ownsRow_lit (base := 0) (e := 49) (size := 6) w (mkN n) n (Nat.zero_le _) (by unfold maxLen; omega) (by
    rw [← Array.length_toList, mkN_list, cellsN_len, List.length_replicate])
  rw [mkN_list] at h
  refine ⟨by rw [List.length_replicate]; exact h, fun k hk => ?_, fun m hm => ?_⟩
  · simp [Value.ownBlock] at hk; subst hk; exact hQ
  · rw [(List.mem_replicate.1 hm).2]
    exact ⟨Prs.nil _, fun hp => absurd rfl hp⟩
end Go.Proofs.Ytijepfabkalcoaa

namespace Go.Proofs.Ytijepfabkalcoaa
open Go.RowKit
set_option linter.all false

set_option maxRecDepth 100000 in
set_option maxHeartbeats 6400000 in
theorem tcopied_any (a : Option Addr) (cap : Nat) (l : List Pr) (w : World) (h : Prs w a cap l) (hl : l.length ≤ 3000000) :
    Calls Try.prog 77 #[.slice a l.length cap] w (RowIs w l) := by
  have HS := Lib.hid (src_any h)
  have HL := Lib.hid (show ([] : List Pr).length + l.length ≤ 100000000000 by simp; omega)
  have hl' : ([] : List Pr).length + l.length = l.length := by simp
  have HE := Lib.hid hl'
  clear h hl hl'
  go_enter Try.func77, Try.ntmps77
  go_wp2_with (at_builtin; refine wpList_app rfl _ (.tmp 3) rfl (fun j => j < w.heap.size) _ [] l rfl (PRow.nil _ _) (fun k hk => hk) _ rfl HS.out HL.out _ HE.out _ rfl ?_; intro ao4 cp4 w4 hm4 hc4 hR4 hO4; have HF := Lib.hid (And.intro hR4 (only_lt (Below.refl _ _) hO4)); clear hR4 hO4; unfold maxLen at hm4)
  go_ret
  exact ⟨ao4, cp4, rfl, HF.out.1, HF.out.2⟩

/-- What copiedNode tells. -/
def CnIs (w : World) (n : Nd) (e : Ending) (w' : World) : Prop := ∃ ao cp, e = .returned (ndv n ao cp) ∧ PRow w' (fun j => j < w.heap.size) (.slice ao n.p.length cp) n.p ∧ Below w.heap.size w w'
set_option maxRecDepth 100000 in
set_option maxHeartbeats 6400000 in
theorem cnode_any (n : Nd) (pa : Option Addr) (pc : Nat) (w : World) (h : Prs w pa pc n.p) (hl : n.p.length ≤ 3000000) :
    Calls Try.prog 95 #[ndv n pa pc] w (CnIs w n) := by
  obtain ⟨r, k, l, b, p, s⟩ := n
  unfold CnIs ndv
  dsimp only at h hl ⊢
  have b1 : Below w.heap.size w (w.alloc (.cells #[.bool r, .int .i64 k, .int .i64 l, .int .i64 b, .slice pa p.length pc, .int .i64 s] 49)) := al1 _
  have b2 : Below w.heap.size w ((w.alloc (.cells #[.bool r, .int .i64 k, .int .i64 l, .int .i64 b, .slice pa p.length pc, .int .i64 s] 49)).alloc (.cells #[.bool false, .int .i64 0, .int .i64 0, .int .i64 0, .slice none 0 0, .int .i64 0] 49)) := bel1 b1 _
  have cc := tcopied_any pa pc p _ (h.below b2) hl
  have B1 := Lib.hid (Bk.past (Bk.new w #[.bool r, .int .i64 k, .int .i64 l, .int .i64 b, .slice pa p.length pc, .int .i64 s] 49) (.cells #[.bool false, .int .i64 0, .int .i64 0, .int .i64 0, .slice none 0 0, .int .i64 0] 49))
  have B2 := Lib.hid (show Bk ((w.alloc (.cells #[.bool r, .int .i64 k, .int .i64 l, .int .i64 b, .slice pa p.length pc, .int .i64 s] 49)).alloc (.cells #[.bool false, .int .i64 0, .int .i64 0, .int .i64 0, .slice none 0 0, .int .i64 0] 49)) (w.heap.size + 1) [.bool false, .int .i64 0, .int .i64 0, .int .i64 0, .slice none 0 0, .int .i64 0] from by
    have h := Bk.new (w.alloc (.cells #[.bool r, .int .i64 k, .int .i64 l, .int .i64 b, .slice pa p.length pc, .int .i64 s] 49)) #[.bool false, .int .i64 0, .int .i64 0, .int .i64 0, .slice none 0 0, .int .i64 0] 49
    simp only [World.size_alloc] at h; exact h)
  have HB := Lib.hid b2
  clear b1 b2 h hl
  go_enter Try.func95, Try.ntmps95
  go_wp2_with (go_at_call 77; ((with_reducible refine cc.mono ?_); clear cc; rintro e w3 ⟨ao, cp, rfl, hR, hb3⟩; have R1 := Lib.hid (B1.out.keep hb3); have R2 := Lib.hid (B2.out.keep hb3); have HR := Lib.hid (And.intro hR hb3); clear hR hb3; have f4 := R1.out.fr 4; have g0 := R2.out.fr 0; have g1 := R2.out.fr 1; have g2 := R2.out.fr 2; have g3 := R2.out.fr 3; have g4 := R2.out.fr 4; have g5 := R2.out.fr 5; have k0 := R1.out.at_ 0 _ rfl; have k1 := R1.out.at_ 1 _ rfl; have k2 := R1.out.at_ 2 _ rfl; have k3 := R1.out.at_ 3 _ rfl; have k4 := R1.out.at_ 4 _ rfl; have k5 := R1.out.at_ 5 _ rfl; have m0 := R2.out.at_ 0 _ rfl; have m1 := R2.out.at_ 1 _ rfl; have m2 := R2.out.at_ 2 _ rfl; have m3 := R2.out.at_ 3 _ rfl; have m4 := R2.out.at_ 4 _ rfl; have m5 := R2.out.at_ 5 _ rfl))
  refine bodyPost_ret (v := .agg #[.bool r, .int .i64 k, .int .i64 l, .int .i64 b, .slice ao p.length cp, .int .i64 s]) (by simp [results, Try.results95, go_sem, k0, k1, k2, k3, k5, m0, m1, m2, m3, m4, m5]) rfl ⟨ao, cp, rfl, ?_, ?_⟩
  · refine ((HR.out.1.only (F := fun j => j < w.heap.size + 2) (w' := _) ?_ (fun k hk => by simp; omega)).sub (fun k _ hk => ?_))
    · repeat' (first | refine Only.setCell ?_ (.inl (by show _ < _; dsimp only; omega)) _ | exact Only.refl _ w3)
    · show k < _; simp; omega
  · repeat' (first | refine Below.setCell ?_ (by dsimp only; omega) _ | exact bel2 HB.out HR.out.2)
end Go.Proofs.Ytijepfabkalcoaa

namespace Go.Proofs.Ytijepfabkalcoaa
open Go.RowKit
set_option linter.all false

/-- So many numbers, all nought. -/
def mkI (n : Nat) : Array Value := madeCells (Value.int .i64 0).cells n
theorem mkI_run (n : Nat) (h : n ≤ 2000) (w : World) : (Instr.makeSlice 37 (.int .i64 (n : Int)) (.int .i64 (n : Int))).run Try.prog w = .ok (.slice (some ⟨w.heap.size, 0, none⟩) n n) (w.alloc (.cells (mkI n) 3)) := by
  obtain ⟨i, hi, hz, hs1, hs2⟩ := info_parts infoInt
  have hr := run_make (P := Try.prog) w 37 3 i _ Try.underlying37 hi hz .i64 .i64 n n (by omega) (Int.le_refl _) (by rw [hs2]; omega) (by omega)
  rw [hs1] at hr
  simpa [mkI] using hr
def natV (l : List Nat) : List Value := l.map (fun i : Nat => Value.int .i64 (i : Int))
theorem natV_set (l : List Nat) (i x : Nat) : (natV l).set i (.int .i64 (x : Int)) = natV (l.set i x) := by unfold natV; rw [List.map_set]
theorem natV_get {l : List Nat} {i x : Nat} (h : l[i]? = some x) : (natV l)[i]? = some (.int .i64 (x : Int)) := by unfold natV; rw [List.getElem?_map, h]; rfl
theorem mkI_bk (w : World) (n : Nat) : Bk (w.alloc (.cells (mkI n) 3)) w.heap.size (natV (List.replicate n 0)) := by
  have h := Bk.new w (mkI n) 3
  have e : (mkI n).toList = natV (List.replicate n 0) := by
    unfold mkI natV
    rw [show (Value.int .i64 0).cells = #[Value.int .i64 0] from rfl, toList_madeCells_one]
    simp
  rw [e] at h
  exact h
theorem kids {N : List Nd} : ∀ {s : Sh} {t : Int} {lo hi : Option Int}, Hangs N s t lo hi → ∀ i ∈ s.pre, ∀ n, N[i]? = some n → n.r = true → ∃ xa xb : Nat, n.a = xa ∧ n.b = xb ∧ xa ∈ s.pre ∧ xb ∈ s.pre := by
  intro s
  induction s with
  | lf j =>
    intro t lo hi h i hi' n hn hr
    obtain ⟨_, m, hm, hr', _⟩ := h
    simp [Sh.pre] at hi'
    subst hi'
    rw [hn] at hm; cases hm
    rw [hr] at hr'; cases hr'
  | rt j l r ihl ihr =>
    intro t lo hi h i hi' n hn hr
    obtain ⟨_, m, hm, hr', _, hl, hrr⟩ := h
    simp [Sh.pre] at hi'
    rcases hi' with rfl | hi' | hi'
    · rw [hn] at hm; cases hm
      exact ⟨l.top, r.top, hl.top, hrr.top, by simp [Sh.pre, Sh.top_mem], by simp [Sh.pre, Sh.top_mem]⟩
    · obtain ⟨xa, xb, h1, h2, h3, h4⟩ := ihl hl i hi' n hn hr
      exact ⟨xa, xb, h1, h2, by simp [Sh.pre, h3], by simp [Sh.pre, h4]⟩
    · obtain ⟨xa, xb, h1, h2, h3, h4⟩ := ihr hrr i hi' n hn hr
      exact ⟨xa, xb, h1, h2, by simp [Sh.pre, h3], by simp [Sh.pre, h4]⟩

end Go.Proofs.Ytijepfabkalcoaa

namespace Go.Proofs.Ytijepfabkalcoaa
open Go.RowKit
set_option linter.all false

attribute [local go_sem] mkI_run mkN_run
theorem set_next {lst pre : List Nat} {n x N : Nat} (hnd : pre.Nodup) (hx : pre[n]? = some x) (hxl : x < lst.length) (h : ∀ j y, j < n → pre[j]? = some y → lst[y]? = some j) : ∀ j y, j < n + 1 → pre[j]? = some y → (lst.set x n)[y]? = some j := fun j y hj hy => by
  by_cases e : j = n
  · subst e
    rw [hx] at hy; cases hy
    exact List.getElem?_set_self hxl
  · have hne : x ≠ y := fun e' => e (nodup_at hnd (e' ▸ hy : pre[j]? = some x) hx)
    rw [List.getElem?_set_ne hne]
    exact h j y (by omega) hy
/-- What Plain tells: the tree in its order, in memory of its own. -/
def PlIs (w : World) (P : List Nd) (e : Ending) (w' : World) : Prop := ∃ ao cp, e = .returned (.tuple #[.agg #[.int .i64 0, .slice ao P.length cp], .bool true]) ∧ Ns w' ao cp P ∧ Below w.heap.size w w'
/-- A tree's nodes, in memory newer than B. -/
def NsO (B : Nat) (W : World) (ao : Option Addr) (cp : Nat) (Q : List Nd) : Prop := ∃ M : List RN, NRow W (fun j => j < B) (.slice ao Q.length cp) M ∧ M.map (fun m => m.n) = Q
theorem NsO.ns {B : Nat} {W : World} {ao : Option Addr} {cp : Nat} {Q : List Nd} (h : NsO B W ao cp Q) : Ns W ao cp Q := by
  obtain ⟨M, h1, rfl⟩ := h
  exact h1.ns.2
theorem NsO.low {B B' : Nat} {W : World} {ao : Option Addr} {cp : Nat} {Q : List Nd} (h : NsO B W ao cp Q) (hB : B' ≤ B) : NsO B' W ao cp Q := by
  obtain ⟨M, h1, h2⟩ := h
  exact ⟨M, h1.sub (fun k _ hk => Nat.lt_of_lt_of_le hk hB), h2⟩
theorem NsO.keep {B : Nat} {W W' : World} {ao : Option Addr} {cp : Nat} {Q : List Nd} (h : NsO B W ao cp Q) (hb : Below W.heap.size W W') : NsO B W' ao cp Q := by
  obtain ⟨M, h1, h2⟩ := h
  exact ⟨M, h1.keep hb, h2⟩
theorem NsO.only {B : Nat} {W W' : World} {S : Nat → Prop} {ao : Option Addr} {cp : Nat} {Q : List Nd} (h : NsO B W ao cp Q) (o : Only S W W') (hS : ∀ k, S k → k < B) : NsO B W' ao cp Q := by
  obtain ⟨M, h1, h2⟩ := h
  exact ⟨M, h1.only o hS, h2⟩
theorem NsO.ret {B q : Nat} {W : World} {ao : Option Addr} {cp : Nat} {Q : List Nd} (h : NsO B W ao cp Q) (hq : q < B) (u v : Value) : NsO B ((W.setCell ⟨q, 0, none⟩ u).setCell ⟨q, 1, none⟩ v) ao cp Q :=
  h.only (((Only.refl (fun k => k = q) W).setCell (p := ⟨q, 0, none⟩) (.inl rfl) u).setCell (p := ⟨q, 1, none⟩) (.inl rfl) v) (fun k hk => by have e : k = q := hk; omega)
theorem NsO.none (B : Nat) (W : World) : NsO B W .none 0 [] := ⟨[], NRow.nil _ _, rfl⟩
/-- What Plain tells, in memory of its own. -/
def PlW (w : World) (P : List Nd) (e : Ending) (w' : World) : Prop := ∃ ao cp, e = .returned (.tuple #[.agg #[.int .i64 0, .slice ao P.length cp], .bool true]) ∧ NsO w.heap.size w' ao cp P ∧ Below w.heap.size w w'
theorem PlW.is {w : World} {P : List Nd} {e : Ending} {w' : World} (h : PlW w P e w') : PlIs w P e w' := by
  obtain ⟨ao, cp, h1, h2, h3⟩ := h
  exact ⟨ao, cp, h1, h2.ns, h3⟩
theorem lay_small {N : List Nd} {s : Sh} {t : Int} (h : Tr N s t) (hsm : Small N) : Small (lay N s 0) := by
  refine ⟨by rw [lay_len, h.all]; exact hsm.1, ?_⟩
  have : ∀ (s : Sh) (c : Nat) (t : Int) (lo hi : Option Int), Hangs N s t lo hi → ∀ n ∈ lay N s c, n.p.length ≤ 1100000 := by
    intro s
    induction s with
    | lf i =>
      intro c t lo hi h n hn
      obtain ⟨_, m, hm, _⟩ := h
      simp only [lay, List.mem_singleton] at hn
      rw [hn, nd_of hm]; exact hsm.at hm
    | rt i l r ihl ihr =>
      intro c t lo hi h n hn
      obtain ⟨_, m, hm, _, _, hl, hr⟩ := h
      simp only [lay, List.mem_cons, List.mem_append] at hn
      rcases hn with rfl | hn | hn
      · simp
      · exact ihl _ _ _ _ hl n hn
      · exact ihr _ _ _ _ hr n hn
  exact this s 0 t none none h.hg

set_option maxRecDepth 100000 in
set_option maxHeartbeats 12800000 in
theorem tplain_own (t : Int) (a : Option Addr) (cap : Nat) (N : List Nd) (w : World) (hN : Ns w a cap N) (hsm : Small N) (s : Sh) (h : Tr N s t) :
    Calls Try.prog 73 #[trv t a cap N] w (PlW w (lay N s 0)) := by
  have hl1 := hsm.1
  have hc1 := hN.1
  have hc2 := hN.2.1
  unfold maxLen at hc2
  have b2 : Below w.heap.size w ((w.alloc (.cells #[.int .i64 t, .slice a N.length cap] 24)).alloc (.cells #[.int .i64 0, .slice none 0 0] 24)) := bel1 (al1 _) _
  have cm := tmay_any t a cap N _ (hN.keep b2) hsm true ⟨fun _ => ⟨s, h⟩, fun _ => rfl⟩
  have B1 := Lib.hid (Bk.past (Bk.new w #[.int .i64 t, .slice a N.length cap] 24) (.cells #[.int .i64 0, .slice none 0 0] 24))
  have B2 := Lib.hid (show Bk ((w.alloc (.cells #[.int .i64 t, .slice a N.length cap] 24)).alloc (.cells #[.int .i64 0, .slice none 0 0] 24)) (w.heap.size + 1) [.int .i64 0, .slice none 0 0] from by
    have h := Bk.new (w.alloc (.cells #[.int .i64 t, .slice a N.length cap] 24)) #[.int .i64 0, .slice none 0 0] 24
    simp only [World.size_alloc] at h; exact h)
  have HB := Lib.hid b2
  have hpl : (([] : List Int) ++ preI s.pre).length = N.length := by simp [preI, h.all]
  have cw := fun (W : World) (hb : Below w.heap.size w W) => (walk_any hN hsm s t none none h.hg W none 0 [] (by have := h.all; simp; omega) hb (Nums.nil _ _)).mono (R' := fun e w' => ∃ ao cap2, e = .returned (.slice ao N.length cap2) ∧ Ws W (.slice none 0 0) w' (.slice ao N.length cap2) (preI s.pre)) (fun e w' hh => by
    obtain ⟨ao, cap2, rfl, hw⟩ := hh
    rw [hpl] at hw ⊢
    exact ⟨ao, cap2, rfl, hw⟩)
  have HN := Lib.hid hN
  have HS := Lib.hid hsm
  have HT := Lib.hid h
  rw [show PlW w (lay N s 0) = fun e w' => ∃ ao cp, e = .returned (.tuple #[.agg #[.int .i64 0, .slice ao N.length cp], .bool true]) ∧ NsO w.heap.size w' ao cp (lay N s 0) ∧ Below w.heap.size w w' from by unfold PlW; rw [lay_len, h.all]]
  unfold trv at cm ⊢
  simp only [List.length_nil] at cw
  clear b2 hN h hsm hpl
  go_enter Try.func73, Try.ntmps73
  go_upto_region 4 with (first
    | (go_at_call 11; ((with_reducible refine cm.mono ?_); clear cm; rintro e w3 ⟨rfl, hb3⟩; have R1 := Lib.hid (B1.out.keep hb3); have R2 := Lib.hid (B2.out.keep hb3); have HB3 := Lib.hid (bel2 HB.out hb3); clear hb3; have k0 := R1.out.at_ 0 _ rfl; have k1 := R1.out.at_ 1 _ rfl))
    | (go_at_call 46; ((with_reducible refine (cw _ HB3.out).mono ?_); clear cw; rintro e w4 ⟨ao, cap2, rfl, hw⟩; have HW := Lib.hid hw; clear hw))
    | fail)
  clear k0 k1
  have G1 := Lib.hid (show Bk w4 w.heap.size _ from R1.out.only HW.out.o (by intro hh; exact hh ⟨R1.out.lt, by simp [Value.ownBlock]⟩))
  have G2 := Lib.hid (show Bk w4 (w.heap.size + 1) _ from R2.out.only HW.out.o (by intro hh; exact hh ⟨R2.out.lt, by simp [Value.ownBlock]⟩))
  have HB4 := Lib.hid (HW.out.below HB3.out (Nat.le_refl _) (fun k hk => by simp [Value.ownBlock] at hk))
  have HO := Lib.hid HW.out.n
  have HL4 := Lib.hid HW.out.lt
  clear R1 R2 B1 B2 HB HB3 HW
  go_wp2_with (fail)
  have W5 := Lib.hid (mkI_bk w4 N.length)
  have G1' := Lib.hid (G1.out.past (.cells (mkI N.length) 3))
  have G2' := Lib.hid (G2.out.past (.cells (mkI N.length) 3))
  have HB5 := Lib.hid (bel1 HB4.out (.cells (mkI N.length) 3))
  have HO5 := Lib.hid (HO.out.below (al1 (.cells (mkI N.length) 3)))
  have HQ := Lib.hid (show ∀ k, (Value.slice ao N.length cap2).ownBlock = some k → k ≠ w4.heap.size from fun k hk e => absurd (HL4.out k hk) (by omega))
  have HQ1 := Lib.hid (show w.heap.size ≠ w4.heap.size ∧ w.heap.size + 1 ≠ w4.heap.size ∧ w.heap.size ≤ w4.heap.size from by have := G2.out.lt; omega)
  clear G1 G2 HB4 HO HL4
  obtain ⟨gq, hgq⟩ : ∃ gq, w4.heap.size = gq := ⟨_, rfl⟩
  rw [hgq] at W5 HQ HQ1 ⊢
  clear hgq
  generalize (World.alloc w4 _ : World) = W5w at *
  go_loopw [26] (fun i wr => ∃ (n : Nat) (lst : List Nat), n ≤ N.length ∧ i = .int .i64 n ∧ lst.length = N.length ∧ (∀ j y, j < n → s.pre[j]? = some y → lst[y]? = some j) ∧ Bk wr gq (natV lst) ∧ Only (fun k => k = gq) W5w wr) (fun i _ => N.length - (intOf i).toNat)
  case atStart => exact ⟨0, _, Nat.zero_le _, rfl, List.length_replicate .., fun j y hj => absurd hj (Nat.not_lt_zero j), W5.out, Only.refl _ _⟩
  case round =>
    obtain ⟨n, lst, hn, rfl, hll, hall, hbk, ho⟩ := hrel
    have HA := Lib.hid hall
    have HK := Lib.hid (And.intro hbk ho)
    clear hall hbk ho
    by_cases hlt : n < N.length
    · obtain ⟨x, hx⟩ : ∃ x, s.pre[n]? = some x := ⟨_, List.getElem?_eq_getElem (by rw [HT.out.all]; exact hlt)⟩
      have hxl := HT.out.hg.lt x (List.mem_of_getElem? hx)
      have hxi : (preI s.pre)[n]? = some (x : Int) := by unfold preI; rw [List.getElem?_map, hx]; rfl
      obtain ⟨go, rfl, -, c0⟩ := HO5.out.at hxi
      have c1 := HK.out.2.cell c0 (HQ.out go rfl)
      have hx0 : (0 : Int) ≤ (x : Int) := by omega
      have hx1 : (x : Int) < (N.length : Int) := by omega
      obtain ⟨y, hy⟩ : ∃ y, lst[x]? = some y := ⟨_, List.getElem?_eq_getElem (by omega)⟩
      have c2 := HK.out.1.at_ x _ (natV_get hy)
      have f2 := HK.out.1.fr x
      have HX := Lib.hid hx
      clear hx hxi c0 hy
      go_wp2_with (fail)
      go_roundw
      case rel => exact ⟨n + 1, lst.set x n, by omega, by go_num, by rw [List.length_set]; exact hll, set_next (N := N.length) HT.out.nd HX.out (by omega) HA.out, by have h := HK.out.1.set x (.int .i64 (n : Int)) (by unfold natV; rw [List.length_map]; omega); rw [natV_set] at h; exact h, HK.out.2.setCell (S := fun k => k = gq) (p := ⟨gq, x, none⟩) (.inl rfl) _⟩
      case measure => simp [intOf]; omega
    · obtain rfl : n = N.length := by omega
      have G1 := Lib.hid (G1'.out.only HK.out.2 (by show ¬ (w.heap.size = gq); exact HQ1.out.1))
      have G2 := Lib.hid (G2'.out.only HK.out.2 (by show ¬ (w.heap.size + 1 = gq); exact HQ1.out.2.1))
      have HB6 := Lib.hid (HB5.out.trans (HK.out.2.below (B := w.heap.size) (fun i hi => by rw [hi]; exact HQ1.out.2.2) HB5.out.size))
      have HO6 : ∀ j x : Nat, s.pre[j]? = some x → ∃ go, ao = some ⟨go, 0, none⟩ ∧ wr.cell? ⟨go, j, none⟩ = some (.int .i64 (x : Int)) := fun j x hx => by
        obtain ⟨go, e, _, c0⟩ := HO5.out.at (show (preI s.pre)[j]? = some (x : Int) by unfold preI; rw [List.getElem?_map, hx]; rfl)
        exact ⟨go, e, HK.out.2.cell c0 (HQ.out go (by rw [e]; rfl))⟩
      have HO7 := Lib.hid HO6
      have HK6 := Lib.hid HK.out.1
      clear HO6 G1' G2' HB5 HO5 HK HQ HQ1 W5
      go_wp2_with (fail)
      have R6 := Lib.hid ((NRow.made wr N.length (by omega) (fun k => k < wr.heap.size) (fun h => absurd h (Nat.lt_irrefl _))).keep (al1 (.cells #[.int .i64 0, .slice (some ⟨wr.heap.size, 0, none⟩) N.length N.length] 24)))
      have P6 := Lib.hid (show Bk ((wr.alloc (.cells (mkN N.length) 49)).alloc (.cells #[.int .i64 0, .slice (some ⟨wr.heap.size, 0, none⟩) N.length N.length] 24)) (wr.heap.size + 1) [.int .i64 0, .slice (some ⟨wr.heap.size, 0, none⟩) N.length N.length] from by
        have h := Bk.new (wr.alloc (.cells (mkN N.length) 49)) #[.int .i64 0, .slice (some ⟨wr.heap.size, 0, none⟩) N.length N.length] 24
        simp only [World.size_alloc] at h; exact h)
      have A6 : Below wr.heap.size wr ((wr.alloc (.cells (mkN N.length) 49)).alloc (.cells #[.int .i64 0, .slice (some ⟨wr.heap.size, 0, none⟩) N.length N.length] 24)) := bel1 (al1 _) _
      have K1 := Lib.hid (G1.out.keep A6)
      have K2 := Lib.hid (G2.out.keep A6)
      have K3 := Lib.hid (HK6.out.keep A6)
      have HB7 := Lib.hid (bel2 HB6.out A6)
      have HO8 : ∀ j x : Nat, s.pre[j]? = some x → ∃ go, ao = some ⟨go, 0, none⟩ ∧ go < wr.heap.size ∧ ((wr.alloc (.cells (mkN N.length) 49)).alloc (.cells #[.int .i64 0, .slice (some ⟨wr.heap.size, 0, none⟩) N.length N.length] 24)).cell? ⟨go, j, none⟩ = some (.int .i64 (x : Int)) := fun j x hx => by
        obtain ⟨go, e, c0⟩ := HO7.out j x hx
        exact ⟨go, e, World.block_lt_of_cell? wr _ c0, kc A6 c0⟩
      have HO9 := Lib.hid HO8
      have HG := Lib.hid (show w.heap.size < wr.heap.size ∧ w.heap.size + 1 < wr.heap.size ∧ gq < wr.heap.size from ⟨G1.out.lt, G2.out.lt, HK6.out.lt⟩)
      clear HO8 A6 HO7 HB6 G1 G2 HK6
      obtain ⟨gp, hgp⟩ : ∃ gp, wr.heap.size = gp := ⟨_, rfl⟩
      rw [hgp] at R6 P6 HO9 HG K1 K2 K3 HB7 ⊢
      clear hgp
      generalize (World.alloc (World.alloc wr _) _ : World) = W6w at *
      go_loopw [42] (fun i wr => ∃ (m : Nat) (M : List RN), m ≤ N.length ∧ i = .int .i64 m ∧ M.length = N.length ∧ (∀ j, j < m → (M.map (fun z => z.n))[j]? = (lay N s 0)[j]?) ∧ NRow wr (fun k => k < gp) (.slice (some ⟨gp, 0, none⟩) N.length N.length) M ∧ Only (fun k => k = gp) W6w wr) (fun i _ => N.length - (intOf i).toNat)
      case atStart => exact ⟨0, _, Nat.zero_le _, rfl, List.length_replicate .., fun j hj => absurd hj (Nat.not_lt_zero j), R6.out, Only.refl _ _⟩
      case round =>
        obtain ⟨m, M, hm, rfl, hML, hMl, hR, ho⟩ := hrel
        have HA2 := Lib.hid hMl
        have HR := Lib.hid (And.intro hR ho)
        clear hMl hR ho R6
        by_cases hlt2 : m < N.length
        · obtain ⟨x, hx⟩ : ∃ x, s.pre[m]? = some x := ⟨_, List.getElem?_eq_getElem (by rw [HT.out.all]; exact hlt2)⟩
          have hxl := HT.out.hg.lt x (List.mem_of_getElem? hx)
          obtain ⟨go, rfl, hgo, c0⟩ := HO9.out m x hx
          have c1 := HR.out.2.cell c0 (by show ¬ (go = gp); omega)
          have hx0 : (0 : Int) ≤ (x : Int) := by omega
          have hx1 : (x : Int) < (N.length : Int) := by omega
          have hm1 : (m : Int) < (N.length : Int) := by omega
          obtain ⟨n, hn⟩ : ∃ n, N[x]? = some n := ⟨_, List.getElem?_eq_getElem hxl⟩
          have hBw : Below w.heap.size w wr := HB7.out.trans (HR.out.2.below (B := w.heap.size) (fun i hi => by rw [hi]; have := HG.out; omega) HB7.out.size)
          obtain ⟨b, o, pa, pc, rfl, hna⟩ := (HN.out.keep hBw).2.2 x n hn
          have hpl := HS.out.at hn
          have cn := cnode_any n pa pc wr hna.ps (by omega)
          have j1 := (K1.out.only HR.out.2 (by show ¬ (w.heap.size = gp); have := HG.out; omega)).at_ 1 _ rfl
          have J8 := Lib.hid (P6.out.only HR.out.2 (by show ¬ (gp + 1 = gp); omega))
          have J3 := Lib.hid (K3.out.only HR.out.2 (by show ¬ (gq = gp); have := HG.out; omega))
          obtain ⟨m0, hm0⟩ : ∃ m0, M[m]? = some m0 := ⟨_, List.getElem?_eq_getElem (by omega)⟩
          have HM0 := Lib.hid hm0
          have HX := Lib.hid (And.intro hx hn)
          have hlay : (lay N s 0)[m]? = some (fixn (fun y => lst.getD y 0) n) := by
            rw [lay_map (f := fun y => lst.getD y 0) HT.out.hg (fun j y hy => by
              have := HA.out j y (by have := (List.getElem?_eq_some_iff.1 hy).1; rw [HT.out.all] at this; exact this) hy
              simp [List.getD, this])]
            rw [List.getElem?_map, HX.out.1]
            simp only [Option.map_some]
            rw [nd_of HX.out.2]
          have HLY := Lib.hid hlay
          have kid := fun hr => kids HT.out.hg x (List.mem_of_getElem? hx) n hn hr
          have HNA := Lib.hid hna
          obtain ⟨e0, e1, e2, e3, e4, e5, dp⟩ := hna
          clear dp hx hn hm0 c0 hlay
          obtain ⟨r, k, l, b', p, sx⟩ := n
          unfold CnIs ndv at cn
          dsimp only at e0 e1 e2 e3 e4 e5 hpl cn kid
          have fin : ∀ (w7 : World) (ao7 : Option Addr) (cp7 : Nat) (l2 b2 : Int) (W8 : World), PRow w7 (fun j => j < wr.heap.size) (.slice ao7 p.length cp7) p → Below wr.heap.size wr w7 → Below w7.heap.size w7 W8 →
              fixn (fun y => lst.getD y 0) ⟨r, k, l, b', p, sx⟩ = ⟨r, k, l2, b2, p, sx⟩ →
              (∀ j, j < m + 1 → ((M.set m ⟨⟨r, k, l2, b2, p, sx⟩, ao7, cp7⟩).map (fun z => z.n))[j]? = (lay N s 0)[j]?) ∧
              NRow ((((((W8.setCell ⟨gp, m * 6, none⟩ (.bool r)).setCell ⟨gp, m * 6 + 1, none⟩ (.int .i64 k)).setCell ⟨gp, m * 6 + 2, none⟩ (.int .i64 l2)).setCell ⟨gp, m * 6 + 3, none⟩ (.int .i64 b2)).setCell ⟨gp, m * 6 + 4, none⟩ (.slice ao7 p.length cp7)).setCell ⟨gp, m * 6 + 5, none⟩ (.int .i64 sx)) (fun k => k < gp) (.slice (some ⟨gp, 0, none⟩) N.length N.length) (M.set m ⟨⟨r, k, l2, b2, p, sx⟩, ao7, cp7⟩) ∧
              Only (fun k => k = gp) W6w ((((((W8.setCell ⟨gp, m * 6, none⟩ (.bool r)).setCell ⟨gp, m * 6 + 1, none⟩ (.int .i64 k)).setCell ⟨gp, m * 6 + 2, none⟩ (.int .i64 l2)).setCell ⟨gp, m * 6 + 3, none⟩ (.int .i64 b2)).setCell ⟨gp, m * 6 + 4, none⟩ (.slice ao7 p.length cp7)).setCell ⟨gp, m * 6 + 5, none⟩ (.int .i64 sx)) := by
            intro w7 ao7 cp7 l2 b2 W8 hR7 hb7 hb8 hfx
            refine ⟨fun j hj => ?_, ?_, ?_⟩
            · by_cases e : j = m
              · subst e
                rw [List.getElem?_map, List.getElem?_set_self (by omega), HLY.out, hfx]; rfl
              · rw [List.getElem?_map, List.getElem?_set_ne (fun e' => e e'.symm), ← List.getElem?_map]
                exact HA2.out j (by omega)
            · have hb78 := bel2 hb7 hb8
              exact (HR.out.1.keep hb78).six HM0.out ⟨⟨r, k, l2, b2, p, sx⟩, ao7, cp7⟩ ((hR7.prs rfl).below hb8) (fun _ b o sp e => ⟨fun h => by
                have h1 := hR7.av b (by have e2 : ao7 = some ⟨b, o, sp⟩ := e; rw [e2]; rfl)
                have h2 := P6.out.lt
                have h3 := HR.out.2.size
                have h4 : ¬ b < wr.heap.size := h1
                have h5 := HG.out
                omega, fun e' => by
                have h1 := hR7.av b (by have e2 : ao7 = some ⟨b, o, sp⟩ := e; rw [e2]; rfl)
                have h2 := P6.out.lt
                have h3 := HR.out.2.size
                have h4 : ¬ b < wr.heap.size := h1
                omega⟩)
            · exact only_six (HR.out.2.trans (Only.ofBelow (bel2 hb7 hb8)) (fun i hi _ => hi)) (.inl rfl)
          have FIN := Lib.hid fin
          obtain ⟨g, eg, -, hnm, hfz⟩ := HR.out.1.at HM0.out
          cases eg
          have NM := Lib.hid (And.intro hnm hfz)
          clear fin hnm hfz
          cases r
          · have hfx : fixn (fun y => lst.getD y 0) ⟨false, k, l, b', p, sx⟩ = ⟨false, k, l, b', p, sx⟩ := fixn_lf rfl
            have HFX := Lib.hid hfx
            clear hfx kid
            go_upto_region 17 with (go_at_call 95; ((with_reducible refine cn.mono ?_); clear cn; rintro e w7 ⟨ao7, cp7, rfl, hR7, hb7⟩; have H7 := Lib.hid (And.intro hR7 hb7); clear hR7 hb7))
            have j8 := ((J8.out.keep H7.out.2).past (.cells #[.bool false, .int .i64 k, .int .i64 l, .int .i64 b', .slice ao7 p.length cp7, .int .i64 sx] 49)).at_ 1 _ rfl
            obtain ⟨x0, x1, x2, x3, x4, x5, -⟩ := (NM.out.1.keep H7.out.2).keep (al1 (.cells #[.bool false, .int .i64 k, .int .i64 l, .int .i64 b', .slice ao7 p.length cp7, .int .i64 sx] 49))
            have fz := fun j => (((Bk.keep ⟨Nat.lt_of_lt_of_le (Nat.lt_of_succ_lt P6.out.lt) HR.out.2.size, fun j v hj => (by cases hj), NM.out.2⟩ H7.out.2 : Bk _ gp []).past (.cells #[.bool false, .int .i64 k, .int .i64 l, .int .i64 b', .slice ao7 p.length cp7, .int .i64 sx] 49)).fr j)
            clear e0 e1 e2 e3 e4 e5 c1 j1
            go_wp2_with (fail)
            go_roundw
            case rel =>
              obtain ⟨h1, h2, h3⟩ := FIN.out w7 ao7 cp7 l b' _ H7.out.1 H7.out.2 (al1 (.cells #[.bool false, .int .i64 k, .int .i64 l, .int .i64 b', .slice ao7 p.length cp7, .int .i64 sx] 49)) HFX.out
              exact ⟨m + 1, _, by omega, by go_num, by rw [List.length_set]; exact hML, h1, h2, h3⟩
            case measure => simp [intOf]; omega
          · obtain ⟨xa, xb, rfl, rfl, hxa, hxb⟩ := kid rfl
            have hxal := HT.out.hg.lt xa hxa
            have hxbl := HT.out.hg.lt xb hxb
            obtain ⟨ya, hya⟩ : ∃ y, lst[xa]? = some y := ⟨_, List.getElem?_eq_getElem (by omega)⟩
            obtain ⟨yb, hyb⟩ : ∃ y, lst[xb]? = some y := ⟨_, List.getElem?_eq_getElem (by omega)⟩
            have hfx : fixn (fun y => lst.getD y 0) ⟨true, k, xa, xb, p, sx⟩ = ⟨true, k, ya, yb, p, sx⟩ := by
              rw [fixn_rt rfl]; simp [List.getD, hya, hyb]
            have HFX := Lib.hid hfx
            have HYA := Lib.hid (And.intro (natV_get hya) (natV_get hyb))
            have xa1 : (xa : Int) < (N.length : Int) := by omega
            have xb1 : (xb : Int) < (N.length : Int) := by omega
            have xa0 : (0 : Int) ≤ (xa : Int) := by omega
            have xb0 : (0 : Int) ≤ (xb : Int) := by omega
            clear hfx kid hya hyb hxa hxb
            go_upto_region 16 with (go_at_call 95; ((with_reducible refine cn.mono ?_); clear cn; rintro e w7 ⟨ao7, cp7, rfl, hR7, hb7⟩; have H7 := Lib.hid (And.intro hR7 hb7); clear hR7 hb7))
            have J9 := Lib.hid ((J3.out.keep H7.out.2).past (.cells #[.bool true, .int .i64 k, .int .i64 (xa : Int), .int .i64 (xb : Int), .slice ao7 p.length cp7, .int .i64 sx] 49))
            have ca := J9.out.at_ xa _ HYA.out.1
            have cb := J9.out.at_ xb _ HYA.out.2
            have ca2 := ((J3.out.keep H7.out.2).past (.cells #[.bool true, .int .i64 k, .int .i64 (xa : Int), .int .i64 (yb : Int), .slice ao7 p.length cp7, .int .i64 sx] 49)).at_ xa _ HYA.out.1
            have cb2 := ((J3.out.keep H7.out.2).past (.cells #[.bool true, .int .i64 k, .int .i64 (ya : Int), .int .i64 (xb : Int), .slice ao7 p.length cp7, .int .i64 sx] 49)).at_ xb _ HYA.out.2
            clear e0 e1 e2 e3 e4 e5 c1 j1
            go_wp2_with (fail)
            go_region
            have j8 := ((J8.out.keep H7.out.2).past (.cells #[.bool true, .int .i64 k, .int .i64 (ya : Int), .int .i64 (yb : Int), .slice ao7 p.length cp7, .int .i64 sx] 49)).at_ 1 _ rfl
            obtain ⟨x0, x1, x2, x3, x4, x5, -⟩ := (NM.out.1.keep H7.out.2).keep (al1 (.cells #[.bool true, .int .i64 k, .int .i64 (ya : Int), .int .i64 (yb : Int), .slice ao7 p.length cp7, .int .i64 sx] 49))
            have fz := fun j => (((Bk.keep ⟨Nat.lt_of_lt_of_le (Nat.lt_of_succ_lt P6.out.lt) HR.out.2.size, fun j v hj => (by cases hj), NM.out.2⟩ H7.out.2 : Bk _ gp []).past (.cells #[.bool true, .int .i64 k, .int .i64 (ya : Int), .int .i64 (yb : Int), .slice ao7 p.length cp7, .int .i64 sx] 49)).fr j)
            go_wp2_with (fail)
            go_roundw
            case rel =>
              obtain ⟨h1, h2, h3⟩ := FIN.out w7 ao7 cp7 ya yb (w7.alloc (.cells #[.bool true, .int .i64 k, .int .i64 (ya : Int), .int .i64 (yb : Int), .slice ao7 p.length cp7, .int .i64 sx] 49)) H7.out.1 H7.out.2 (al1 (.cells #[.bool true, .int .i64 k, .int .i64 (ya : Int), .int .i64 (yb : Int), .slice ao7 p.length cp7, .int .i64 sx] 49)) HFX.out
              exact ⟨m + 1, _, by omega, by go_num, by rw [List.length_set]; exact hML, h1, h2.drew, h3.drew⟩
            case measure => simp [intOf]; omega
        · obtain rfl : m = N.length := by omega
          have hfin : M.map (fun z => z.n) = lay N s 0 := by
            apply List.ext_getElem?
            intro j
            by_cases hj : j < N.length
            · exact HA2.out j hj
            · rw [List.getElem?_eq_none (by rw [List.length_map]; omega), List.getElem?_eq_none (by rw [lay_len, HT.out.all]; omega)]
          have J8 := Lib.hid (P6.out.only HR.out.2 (by show ¬ (gp + 1 = gp); omega))
          have J2 := Lib.hid (K2.out.only HR.out.2 (by show ¬ (w.heap.size + 1 = gp); have := HG.out; omega))
          have p0 := J8.out.at_ 0 _ rfl
          have p1 := J8.out.at_ 1 _ rfl
          have r0 := J2.out.at_ 0 _ rfl
          have r1 := J2.out.at_ 1 _ rfl
          have f0 := J2.out.fr 0
          have f1 := J2.out.fr 1
          have hBw : Below w.heap.size w wr := HB7.out.trans (HR.out.2.below (B := w.heap.size) (fun i hi => by rw [hi]; have := HG.out; omega) HB7.out.size)
          have HF := Lib.hid (And.intro hfin hBw)
          clear hfin hBw
          go_wp2_with (fail)
          refine bodyPost_ret (v := .tuple #[.agg #[.int .i64 0, .slice (some ⟨gp, 0, none⟩) N.length N.length], .bool true]) (by simp [results, Try.results73, go_sem, r0, r1]) rfl ⟨_, _, rfl, ?_, ?_⟩
          · have hn := (HR.out.1.only (S := fun k => k = w.heap.size + 1) (W' := (wr.setCell ⟨w.heap.size + 1, 0, none⟩ (.int .i64 0)).setCell ⟨w.heap.size + 1, 1, none⟩ (.slice (some ⟨gp, 0, none⟩) N.length N.length)) (((Only.refl _ wr).setCell (S := fun k => k = w.heap.size + 1) (p := ⟨w.heap.size + 1, 0, none⟩) (.inl rfl) _).setCell (S := fun k => k = w.heap.size + 1) (p := ⟨w.heap.size + 1, 1, none⟩) (.inl rfl) _) (fun k hk => by have h1 : k = w.heap.size + 1 := hk; have h2 := HG.out; show k < gp; omega))
            exact ⟨M, by rw [lay_len, HT.out.all]; exact hn.sub (fun k _ hk => by have h1 : k < w.heap.size := hk; have h2 := HG.out; show k < gp; omega), HF.out.1⟩
          · repeat' (first | refine Below.setCell ?_ (by dsimp only; omega) _ | exact HF.out.2)
end Go.Proofs.Ytijepfabkalcoaa

