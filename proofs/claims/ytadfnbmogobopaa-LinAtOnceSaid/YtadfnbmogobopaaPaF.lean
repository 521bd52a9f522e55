/- A row of events of one's own; appended to. A parameter []api.Event whose nil has no capacity. No condition: definitions and lemmas. -/
import Derived.Test.YtadfnbmogobopaaPaX
namespace Go.Proofs.Ytadfnbmogobopaa
open Go.RowKit Go.Deep Go.ChangeShapes Go.WideShapes
set_option linter.all false
set_option maxRecDepth 20000

/-- An event and where the pairs that it tells lie. -/
structure RE where
  e : EvD
  a : Option Addr
  c : Nat
def cellE (m : RE) : List Value := evC m.e m.a m.c
def cellsE : List RE → List Value
  | [] => []
  | m :: l => cellE m ++ cellsE l
theorem cellsE_len (l : List RE) : (cellsE l).length = l.length * 12 := by
  induction l with
  | nil => rfl
  | cons m l ih => simp only [cellsE, List.length_append, ih, List.length_cons]; simp [cellE, evC]; omega
theorem cellsE_app (l l' : List RE) : cellsE (l ++ l') = cellsE l ++ cellsE l' := by
  induction l with
  | nil => rfl
  | cons m l ih => simp [cellsE, ih]
theorem cellsE_one (l : List RE) : ∀ u ∈ cellsE l, u.oneCell' = true := by
  induction l with
  | nil => intro u hu; cases hu
  | cons m l ih =>
    intro u hu
    rcases List.mem_append.1 hu with hu | hu
    · simp [cellE, evC] at hu
      rcases hu with rfl | rfl | rfl | rfl | rfl | rfl | rfl | rfl | rfl | rfl | rfl | rfl <;> rfl
    · exact ih u hu
theorem cellsE_get : ∀ (l : List RE) (i : Nat) (m : RE), l[i]? = some m → ∀ j v, (cellE m)[j]? = some v → (cellsE l)[i * 12 + j]? = some v := by
  intro l
  induction l with
  | nil => intro i m h; simp at h
  | cons x l ih =>
    intro i m h j v hv
    have hj : j < 12 := by have := (List.getElem?_eq_some_iff.1 hv).1; simpa [cellE, evC] using this
    cases i with
    | zero =>
      simp at h; subst h
      rw [show 0 * 12 + j = j by omega]
      simp only [cellsE]
      rw [List.getElem?_append_left (by simpa [cellE, evC] using hj)]
      exact hv
    | succ i =>
      simp only [List.getElem?_cons_succ] at h
      have := ih i m h j v hv
      simp only [cellsE]
      rw [List.getElem?_append_right (by simp [cellE, evC]; omega)]
      rw [show (i + 1) * 12 + j - (cellE x).length = i * 12 + j by simp [cellE, evC]; omega]
      exact this
theorem cellsE_set : ∀ (l : List RE) (i : Nat) (m m' : RE), l[i]? = some m → ∀ j v, j < 12 → (cellE m).set j v = cellE m' → (cellsE l).set (i * 12 + j) v = cellsE (l.set i m') := by
  intro l
  induction l with
  | nil => intro i m m' h; simp at h
  | cons x l ih =>
    intro i m m' h j v hj hv
    cases i with
    | zero =>
      simp at h; subst h
      rw [show 0 * 12 + j = j by omega]
      simp only [cellsE, List.set_cons_zero]
      rw [List.set_append_left _ _ (by simpa [cellE, evC] using hj), hv]
    | succ i =>
      simp only [List.getElem?_cons_succ] at h
      have := ih i m m' h j v hj hv
      simp only [cellsE, List.set_cons_succ]
      rw [List.set_append_right _ _ (by simp [cellE, evC]; omega)]
      rw [show (i + 1) * 12 + j - (cellE x).length = i * 12 + j by simp [cellE, evC]; omega, this]

/-- A row of nodes of one's own; Q: what else is written. -/
structure ERow (W : World) (Q : Nat → Prop) (v : Value) (M : List RE) : Prop where
  row : W.ownsRow 0 36 12 v M.length (cellsE M)
  own : ∀ k, v.ownBlock = some k → ¬ Q k
  prs : ∀ m ∈ M, Prs W m.a m.c m.e.a.ps ∧ (m.e.a.ps ≠ [] → ∀ b o sp, m.a = some ⟨b, o, sp⟩ → ¬ Q b ∧ v.ownBlock ≠ some b)
section
variable {W W' : World} {Q : Nat → Prop} {v : Value} {M : List RE}
theorem ERow.nil (W : World) (Q : Nat → Prop) : ERow W Q (.slice none 0 0) [] := ⟨World.ownsRow_nil W 0 _ 12, fun k hk => by simp [Value.ownBlock] at hk, fun m hm => by cases hm⟩
theorem ERow.keep (h : ERow W Q v M) (hb : Below W.heap.size W W') : ERow W' Q v M := by
  refine ⟨⟨h.row.1, ?_⟩, h.own, fun m hm => ⟨(h.prs m hm).1.below hb, (h.prs m hm).2⟩⟩
  rcases h.row.2 with hn | ⟨g, cap, cur, rfl, hbb, hgg, rest⟩
  · exact .inl hn
  · refine .inr ⟨g, cap, cur, rfl, hbb, ?_, rest⟩
    rw [hb.block g (Array.getElem?_eq_some_iff.1 hgg).1]
    exact hgg
theorem ERow.drew (h : ERow W Q v M) : ERow W.drew Q v M := h.keep ((Below.refl _ _).drew)
theorem ERow.only (h : ERow W Q v M) {S : Nat → Prop} (o : Only S W W') (hS : ∀ k, S k → Q k) : ERow W' Q v M :=
  ⟨o.row h.row (fun k hk hs => h.own k hk (hS k hs)), h.own, fun m hm => ⟨prs_onlyC (h.prs m hm).1 o (fun hp b o' sp e hs => ((h.prs m hm).2 hp b o' sp e).1 (hS b hs)), (h.prs m hm).2⟩⟩
theorem ERow.form (h : ERow W Q v M) : ∃ ao cap, v = .slice ao M.length cap ∧ M.length ≤ cap ∧ cap ≤ maxLen := row_form h.row
theorem ERow.sub {Q' : Nat → Prop} (h : ERow W Q v M) (hS : ∀ k, k < W.heap.size → Q' k → Q k) : ERow W Q' v M :=
  ⟨h.row, fun k hk hs => h.own k hk (hS k (h.row.lt k hk).2 hs), fun m hm => ⟨(h.prs m hm).1, fun hp b o sp e => ⟨fun hs => by
    obtain ⟨q, l, hl⟩ := List.exists_cons_of_ne_nil hp
    have hp' := (h.prs m hm).1
    rw [hl] at hp'
    obtain ⟨b', o', e', c0, _⟩ := hp'.2.2.1 0 q rfl
    rw [e] at e'; cases e'
    exact ((h.prs m hm).2 hp b o _ e).1 (hS b (World.block_lt_of_cell? W _ c0) hs), ((h.prs m hm).2 hp b o sp e).2⟩⟩⟩
/-- A node of the row. -/
theorem ERow.at {a : Option Addr} {n cap : Nat} (h : ERow W Q (.slice a n cap) M) {i : Nat} {m : RE} (hm : M[i]? = some m) :
    ∃ g, a = some ⟨g, 0, none⟩ ∧ n = M.length ∧ EA W g (i * 12) m.a m.c m.e ∧ ∀ j, W.frozen? ⟨g, j, none⟩ = false := by
  have hlt : i < M.length := (List.getElem?_eq_some_iff.1 hm).1
  obtain ⟨g, cap2, e, _, _, hf⟩ := row_at h.row (by omega)
  simp only [Value.slice.injEq] at e
  obtain ⟨rfl, rfl, rfl⟩ := e
  refine ⟨g, rfl, rfl, ?_, hf⟩
  have at_ : ∀ j u, (cellE m)[j]? = some u → W.cell? ⟨g, i * 12 + j, none⟩ = some u := fun j u hj => by
    have hj12 : j < 12 := by have := (List.getElem?_eq_some_iff.1 hj).1; simpa [cellE, evC] using this
    rw [h.row.cellAt _ (by omega)]
    exact cellsE_get M i m hm j u hj
  exact ⟨at_, (h.prs m (List.mem_of_getElem? hm)).1⟩
theorem ERow.ns {a : Option Addr} {n cap : Nat} (h : ERow W Q (.slice a n cap) M) : n = M.length ∧ Es W a cap (M.map (fun m => m.e)) := by
  obtain ⟨ao, cap', e, h1, h2⟩ := h.form
  simp only [Value.slice.injEq] at e
  obtain ⟨rfl, rfl, rfl⟩ := e
  refine ⟨rfl, by simpa using h1, h2, fun i n hn => ?_⟩
  rw [List.getElem?_map] at hn
  obtain ⟨m, hm, rfl⟩ := Option.map_eq_some_iff.1 hn
  obtain ⟨g, rfl, _, hna, _⟩ := h.at hm
  exact ⟨g, 0, m.a, m.c, rfl, by rw [Nat.zero_add]; exact hna⟩
/-- A cell of a node is written. -/
theorem ERow.cell {g n cap : Nat} (h : ERow W Q (.slice (some ⟨g, 0, none⟩) n cap) M) {i : Nat} {m : RE} (hm : M[i]? = some m) (m' : RE) (j : Nat) (u : Value) (hj : j < 12) (hu : (cellE m).set j u = cellE m')
    (hp : Prs W m'.a m'.c m'.e.a.ps) (hs : m'.e.a.ps ≠ [] → ∀ b o sp, m'.a = some ⟨b, o, sp⟩ → ¬ Q b ∧ g ≠ b) : ERow (W.setCell ⟨g, i * 12 + j, none⟩ u) Q (.slice (some ⟨g, 0, none⟩) n cap) (M.set i m') := by
  obtain ⟨ao, cap', e, h1, h2⟩ := h.form
  simp only [Value.slice.injEq] at e
  obtain ⟨rfl, rfl, rfl⟩ := e
  have hO : Only (fun k => k = g) W (W.setCell ⟨g, i * 12 + j, none⟩ u) := (Only.refl _ _).setCell (S := fun k => k = g) (p := ⟨g, i * 12 + j, none⟩) (.inl rfl) _
  refine ⟨?_, h.own, fun x hx => ?_⟩
  · have := (h.row.stored (i * 12 + j) u).1
    rw [cellsE_set M i m m' hm j u hj hu] at this
    rw [List.length_set]
    exact this
  · rcases List.mem_or_eq_of_mem_set hx with hx | rfl
    · refine ⟨prs_onlyC (h.prs x hx).1 hO (fun hp b o sp e hb => ((h.prs x hx).2 hp b o sp e).2 (by rw [hb]; rfl)), (h.prs x hx).2⟩
    · refine ⟨prs_onlyC hp hO (fun hp b o sp e hb => (hs hp b o sp e).2 hb.symm), fun hp b o sp e => ⟨(hs hp b o sp e).1, fun hh => (hs hp b o sp e).2 (by simpa [Value.ownBlock] using hh)⟩⟩
end
theorem infoEvent : (Try.prog.info? 36).map (fun i => (i.zero, i.size, i.bytes)) = some (some (.agg #[.int .i64 0, .bool false, .int .i64 0, .int .i64 0, .int .i64 0, .int .i64 0, .int .i64 0, .bool false, .int .i64 0, .int .i64 0, .int .i64 0, .slice none 0 0]), 12, 112) := by kernel_rfl
theorem evs_post {w w' : World} {Qs : Nat → Prop} {v v' : Value} {M ms : List RE} (h : ERow w Qs v M) (hQ : ∀ k, Qs k → k < w.heap.size)
    (hp : ∀ m ∈ ms, Prs w m.a m.c m.e.a.ps ∧ (m.e.a.ps ≠ [] → ∀ b o sp, m.a = some ⟨b, o, sp⟩ → ¬ Qs b ∧ v.ownBlock ≠ some b))
    (hown : w'.ownsRow 0 36 12 v' (M.length + ms.length) (cellsE M ++ cellsE ms)) (hgr : w.grownBy w' v.ownBlock) (hk : ∀ k, v'.ownBlock = some k → v.ownBlock = some k ∨ w.heap.size ≤ k) :
    ∃ ao cap, v' = .slice ao (M.length + ms.length) cap ∧ cap ≤ maxLen ∧ M.length + ms.length ≤ cap ∧ ERow w' Qs v' (M ++ ms) ∧ Only (fun k => v.ownBlock = some k) w w' := by
  obtain ⟨ao, cap, rfl, h1, h2⟩ := row_form hown
  have hO : Only (fun k => v.ownBlock = some k) w w' := (Only.refl _ _).grown hgr (fun j hj _ => hj)
  refine ⟨ao, cap, rfl, h2, h1, ⟨by simpa [cellsE_app] using hown, fun k hk' hq => ?_, fun x hx => ?_⟩, hO⟩
  · rcases hk k hk' with e | e
    · exact h.own k e hq
    · have := hQ k hq; omega
  · have lt_of : ∀ (p : List Pr) (pa : Option Addr) (pc : Nat), Prs w pa pc p → p ≠ [] → ∀ b o sp, pa = some ⟨b, o, sp⟩ → b < w.heap.size := fun p pa pc hp hne b o sp e => by
      obtain ⟨q, l, rfl⟩ := List.exists_cons_of_ne_nil hne
      obtain ⟨b', o', e', c0, _⟩ := hp.2.2.1 0 q rfl
      rw [e] at e'; cases e'
      exact World.block_lt_of_cell? w _ c0
    have key : ∀ m : RE, Prs w m.a m.c m.e.a.ps ∧ (m.e.a.ps ≠ [] → ∀ b o sp, m.a = some ⟨b, o, sp⟩ → ¬ Qs b ∧ v.ownBlock ≠ some b) → Prs w' m.a m.c m.e.a.ps ∧ (m.e.a.ps ≠ [] → ∀ b o sp, m.a = some ⟨b, o, sp⟩ → ¬ Qs b ∧ (Value.slice ao (M.length + ms.length) cap).ownBlock ≠ some b) := fun m ⟨p1, p2⟩ => by
      refine ⟨prs_onlyC p1 hO (fun hp b o sp e hh => (p2 hp b o sp e).2 hh), fun hp b o sp e => ⟨(p2 hp b o sp e).1, fun hh => ?_⟩⟩
      rcases hk b hh with e' | e'
      · exact (p2 hp b o sp e).2 e'
      · have := lt_of _ _ _ p1 hp b o sp e; omega
    rcases List.mem_append.1 hx with hx | hx
    · exact key x (h.prs x hx)
    · exact key x (hp x hx)
section
variable {w : World} {ops : Array Oper} {o : Oper} {a : Act} {K : Act → World → Prop} {Q : Exit → Act → World → Prop} {E : Prop}
/-- Nodes are appended, as a step of a region that draws its order. -/
theorem step_evs (hg : o.guard = none) (s x : Operand) (hop : o.op = Op.call { callee := Callee.builtin Builtin.append, args := #[s, x], argTypes := #[23, 23] })
    (Qs : Nat → Prop) (v : Value) (M ms : List RE) (hs : a.eval s = v) (h : ERow w Qs v M) (hQ : ∀ k, Qs k → k < w.heap.size)
    (hp : ∀ m ∈ ms, Prs w m.a m.c m.e.a.ps ∧ (m.e.a.ps ≠ [] → ∀ b o sp, m.a = some ⟨b, o, sp⟩ → ¬ Qs b ∧ v.ownBlock ≠ some b))
    (xv : Value) (hx : a.eval x = xv) (hsrc : Source w xv ms.length (cellsE ms)) (hl : M.length + ms.length ≤ 100000) (n : Nat) (hn : M.length + ms.length = n)
    (H : ∀ ao cap w', cap ≤ maxLen → n ≤ cap → ERow w' Qs (.slice ao n cap) (M ++ ms) → Only (fun k => v.ownBlock = some k) w w' → K (a.put o.dst (.slice ao n cap)) w') :
    if Region.wanted o (yielded ops a.tmps) = true then Oper.wp Try.prog o a w K Q else E := by
  subst hn
  obtain ⟨i, hi, hz, hs1, hs2⟩ := info_parts infoEvent
  refine step_own_append hg s x 23 hop 36 i _ 12 112 Try.underlying23 hi hz hs1 hs2 rfl (by decide) v M.length (cellsE M) hs h.row xv ms.length (cellsE ms) hx hsrc (cellsE_len ms) (fun u hu => cellsE_one ms u hu) (by unfold maxLen; omega) (by omega) ?_
  intro v' w' hown hgr hk
  obtain ⟨ao, cap, rfl, h1, h2, h3, h4⟩ := evs_post h hQ hp hown hgr hk
  exact H ao cap w' h1 h2 h3 h4
end

theorem cellsE_inv (M : List RE) (j : Nat) (u : Value) (h : (cellsE M)[j]? = some u) : ∃ (i r : Nat) (m : RE), j = i * 12 + r ∧ M[i]? = some m ∧ (cellE m)[r]? = some u := by
  have hl := (List.getElem?_eq_some_iff.1 h).1
  rw [cellsE_len] at hl
  have h12 : j % 12 < 12 := Nat.mod_lt _ (by decide)
  obtain ⟨m, hm⟩ : ∃ m, M[j / 12]? = some m := ⟨_, List.getElem?_eq_getElem (by omega)⟩
  obtain ⟨v, hv⟩ : ∃ v, (cellE m)[j % 12]? = some v := ⟨_, List.getElem?_eq_getElem (by simpa [cellE, evC] using h12)⟩
  have := cellsE_get M _ m hm _ v hv
  rw [show j / 12 * 12 + j % 12 = j by omega, h] at this
  cases this
  exact ⟨j / 12, j % 12, m, by omega, hm, hv⟩
/-- A slice of events is what an append takes. -/
theorem src_evs {w : World} {a : Option Addr} {cap : Nat} {N : List EvD} (h : Es w a cap N) (hz : a = none → cap = 0) :
    ∃ M : List RE, M.map (fun m => m.e) = N ∧ M.length = N.length ∧ Source w (.slice a N.length cap) M.length (cellsE M) ∧ ∀ m ∈ M, Prs w m.a m.c m.e.a.ps := by
  cases a with
  | none =>
    obtain rfl := hz rfl
    have : N = [] := by
      cases N with
      | nil => rfl
      | cons x l =>
        obtain ⟨_, _, _, _, e, _⟩ := h.2.2 0 x rfl
        cases e
    subst this
    exact ⟨[], rfl, rfl, .inl ⟨rfl, rfl, rfl⟩, fun m hm => by cases hm⟩
  | some ad =>
    have each : ∀ i, i < N.length → ∃ m : RE, N[i]? = some m.e ∧ ∃ b o, ad = ⟨b, o, none⟩ ∧ EA w b (o + i * 12) m.a m.c m.e := by
      intro i hi
      obtain ⟨b, o, pa, pc, e, hc⟩ := h.2.2 i _ (List.getElem?_eq_getElem hi)
      exact ⟨⟨N[i], pa, pc⟩, List.getElem?_eq_getElem hi, b, o, by cases e; rfl, hc⟩
    haveI : Inhabited RE := ⟨⟨zEv, none, 0⟩⟩
    obtain ⟨f, hf⟩ := choose_lt each
    have hlen : ((List.range N.length).map f).length = N.length := by simp
    refine ⟨(List.range N.length).map f, ?_, hlen, ?_, ?_⟩
    · apply List.ext_getElem?
      intro i
      by_cases hi : i < N.length
      · rw [List.getElem?_map, List.getElem?_map, List.getElem?_range hi, (hf i hi).1]; rfl
      · rw [List.getElem?_eq_none (by simpa using hi), List.getElem?_eq_none (by omega)]
    · refine .inr ⟨ad, cap, by rw [hlen], fun j u hu => ?_⟩
      obtain ⟨i, r, m, rfl, hm, hr⟩ := cellsE_inv _ _ _ hu
      have hi : i < N.length := by have := (List.getElem?_eq_some_iff.1 hm).1; simpa using this
      rw [List.getElem?_map, List.getElem?_range hi] at hm
      simp at hm
      subst hm
      obtain ⟨_, b, o, rfl, hea⟩ := hf i hi
      rw [add_lit, ← Nat.add_assoc]
      exact hea.at_ r u hr
    · intro m hm
      obtain ⟨i, hi, rfl⟩ := List.mem_map.1 hm
      obtain ⟨_, b, o, _, hea⟩ := hf i (List.mem_range.1 hi)
      exact hea.ps
theorem src_keep {w W : World} {x : Value} {m : Nat} {news : List Value} (h : Source w x m news) (hb : Below w.heap.size w W) : Source W x m news := by
  rcases h with h | ⟨ad, c, h1, h2⟩
  · exact .inl h
  · exact .inr ⟨ad, c, h1, fun j u hj => pkc hb (h2 j u hj)⟩
/-- A row of events that is made behind W0. -/
structure TW (W0 W : World) (v : Value) (M : List RE) : Prop where
  row : ERow W (fun _ => False) v M
  own : ∀ k, v.ownBlock = some k → W0.heap.size ≤ k
  be : Below W0.heap.size W0 W
theorem TW.a0 {W0 W : World} (hb : Below W0.heap.size W0 W) : TW W0 (W.alloc (.cells #[] 36)) (.slice (some ⟨W.heap.size, 0, none⟩) 0 0) [] :=
  ⟨⟨World.ownsRow_lit (base := 0) (size := 12) W #[] 0 (Nat.zero_le _) (Nat.zero_le _) rfl, fun k _ h => h, fun m hm => by cases hm⟩, fun k hk => by
    simp [Value.ownBlock] at hk; have := hb.size; omega, hb.alloc hb.size _⟩
theorem TW.keep {W0 W W' : World} {v : Value} {M : List RE} (h : TW W0 W v M) (hb : Below W.heap.size W W') : TW W0 W' v M := ⟨h.row.keep hb, h.own, h.be.trans (hb.mono h.be.size)⟩
theorem TW.lt {W0 W : World} {v : Value} {M : List RE} (h : TW W0 W v M) : ∀ k, v.ownBlock = some k → k < W.heap.size := fun k hk => (h.row.row.lt k hk).2
theorem TW.es {W0 W : World} {ao : Option Addr} {n cap : Nat} {M : List RE} (h : TW W0 W (.slice ao n cap) M) : n = M.length ∧ Es W ao cap (M.map (fun m => m.e)) := h.row.ns
section
variable {w : World} {ops : Array Oper} {o : Oper} {a : Act} {K : Act → World → Prop} {Q : Exit → Act → World → Prop} {E : Prop}
theorem step_tw (hg : o.guard = none) (s x : Operand) (hop : o.op = Op.call { callee := Callee.builtin Builtin.append, args := #[s, x], argTypes := #[23, 23] })
    (W0 : World) (v : Value) (M ms : List RE) (hs : a.eval s = v) (h : TW W0 w v M) (hp : ∀ m ∈ ms, Prs W0 m.a m.c m.e.a.ps)
    (xv : Value) (hx : a.eval x = xv) (hsrc : Source w xv ms.length (cellsE ms)) (hl : M.length + ms.length ≤ 100000) (n : Nat) (hn : M.length + ms.length = n)
    (H : ∀ ao cap w', cap ≤ maxLen → n ≤ cap → TW W0 w' (.slice ao n cap) (M ++ ms) → Only (fun k => v.ownBlock = some k) w w' → (∀ k, (Value.slice ao n cap).ownBlock = some k → v.ownBlock = some k ∨ w.heap.size ≤ k) → K (a.put o.dst (.slice ao n cap)) w') :
    if Region.wanted o (yielded ops a.tmps) = true then Oper.wp Try.prog o a w K Q else E := by
  subst hn
  obtain ⟨i, hi, hz, hs1, hs2⟩ := info_parts infoEvent
  refine step_own_append hg s x 23 hop 36 i _ 12 112 Try.underlying23 hi hz hs1 hs2 rfl (by decide) v M.length (cellsE M) hs h.row.row xv ms.length (cellsE ms) hx hsrc (cellsE_len ms) (fun u hu => cellsE_one ms u hu) (by unfold maxLen; omega) (by omega) ?_
  intro v' w' hown hgr hk
  have hpp : ∀ m ∈ ms, Prs w m.a m.c m.e.a.ps ∧ (m.e.a.ps ≠ [] → ∀ b o sp, m.a = some ⟨b, o, sp⟩ → ¬ (fun _ => False) b ∧ v.ownBlock ≠ some b) := fun m hm => by
    have h1 := hp m hm
    refine ⟨h1.below h.be, fun hne b o sp e => ⟨fun x => x, fun hh => ?_⟩⟩
    have := h.own b hh
    obtain ⟨q, l, hl'⟩ := List.exists_cons_of_ne_nil hne
    rw [hl'] at h1
    obtain ⟨b', o', e', c0, _⟩ := h1.2.2.1 0 q rfl
    rw [e] at e'; cases e'
    have := World.block_lt_of_cell? W0 _ c0
    dsimp only at this
    omega
  obtain ⟨ao, cap, rfl, h1, h2, h3, h4⟩ := evs_post h.row (fun k hk => hk.elim) hpp hown hgr hk
  refine H ao cap w' h1 h2 ⟨h3, fun k hk' => ?_, h.be.trans (h4.below (fun i hi => h.own i hi) h.be.size)⟩ h4 hk
  rcases hk k hk' with x | x
  · exact h.own k x
  · exact Nat.le_trans h.be.size x
end
/-- An event's box is what an append takes. -/
theorem src_ev {g : Nat} {W : World} {m : RE} (h : Bq W g (cellE m)) : Source W (.slice (some ⟨g, 0, none⟩) 1 1) [m].length (cellsE [m]) :=
  .inr ⟨_, _, rfl, fun j u hj => by
    rw [show (⟨g, 0, none⟩ : Addr).add j = ⟨g, j, none⟩ from by unfold Addr.add; split <;> simp_all]
    refine h.at_ j u ?_
    simpa [cellsE] using hj⟩
section
variable {H : Type} {enc : TypeId × Value → H} {w : World} {fuel : Nat} {x : DataW H × List MemPlace}
theorem open_eventsz {v : Value} (h : DataW.trod enc Try.prog w 0 (fun _ => true) true fuel 23 [v] = some x) (hb : ∀ n ∈ x.1.weights Try.prog 23, n ≤ reachBytes) : ∃ a cap N, v = .slice a N.length cap ∧ (Es w a cap N ∧ (a = none → cap = 0)) ∧ MidE N := by
  obtain ⟨a, cap, N, rfl, h1, h2⟩ := open_events h hb
  refine ⟨a, cap, N, rfl, ⟨h1, fun e => ?_⟩, h2⟩
  subst e
  rcases open_slice Try.underlying23 h with ⟨hcs, _⟩ | ⟨y, len, cap', m, n, D, Pl, hcs, _⟩
  · simp at hcs; exact hcs.2
  · simp at hcs
end
end Go.Proofs.Ytadfnbmogobopaa
