/- osierref1's plan: what its node tells, what holds of the plan all along. No condition: definitions and lemmas. -/
import Derived.Test.YtlpjbgojijkdjaaTrR
namespace Go.Proofs.Ytlpjbgojijkdjaa
open Go.RowKit
set_option linter.all false

/-- A bound of keys: none, or one number in a block. -/
abbrev Bd := Option (Nat × Int)
def bdv : Bd → Value
  | none => .slice none 0 0
  | some (g, _) => .slice (some ⟨g, 0, none⟩) 1 1
def bdo (o : Bd) : Option Int := o.map (fun z => z.2)
/-- The bound is read; its block is none of Q, nor the row's. -/
def BdOk (W : World) (Q : Nat → Prop) (vo : Value) (o : Bd) : Prop := ∀ g x, o = some (g, x) → W.cell? ⟨g, 0, none⟩ = some (.int .i64 x) ∧ ¬ Q g ∧ vo.ownBlock ≠ some g

/-- A plan in memory. -/
structure Pn (w0 : World) (W : World) (pb gs : Nat) (T : Int) (a : Option Addr) (cap : Nat) (N : List Nd) (sc : Nat) (vo : Value) (M : List RN) (sn : List Bool) (bad : Bool) : Prop where
  b : Bk W pb [.int .i64 T, .slice a N.length cap, vo, .slice (some ⟨gs, 0, none⟩) N.length sc, .bool bad]
  s : Bs W gs sn
  sl : sn.length = N.length
  r : NRow W (fun k => k < w0.heap.size ∨ k = pb ∨ k = gs) vo M
  z : Below w0.heap.size w0 W
  hp : w0.heap.size ≤ pb
  hs : w0.heap.size ≤ gs
  ne : pb ≠ gs
section
variable {w0 W W' : World} {pb gs : Nat} {T : Int} {a : Option Addr} {cap : Nat} {N : List Nd} {sc : Nat} {vo vo' : Value} {M M' : List RN} {sn : List Bool} {bad : Bool}
theorem Pn.keep (h : Pn w0 W pb gs T a cap N sc vo M sn bad) (hb : Below W.heap.size W W') : Pn w0 W' pb gs T a cap N sc vo M sn bad :=
  ⟨h.b.keep hb, h.s.keep hb, h.sl, h.r.keep hb, h.z.trans (hb.mono h.z.size), h.hp, h.hs, h.ne⟩
theorem Pn.drew (h : Pn w0 W pb gs T a cap N sc vo M sn bad) : Pn w0 W.drew pb gs T a cap N sc vo M sn bad := h.keep ((Below.refl _ _).drew)
theorem only_pb (x : Value) (j : Nat) : Only (fun k => k = pb) W (W.setCell ⟨pb, j, none⟩ x) := (Only.refl _ W).setCell (S := fun k => k = pb) (p := ⟨pb, j, none⟩) (.inl rfl) _
theorem only_gs (x : Value) (j : Nat) : Only (fun k => k = gs) W (W.setCell ⟨gs, j, none⟩ x) := (Only.refl _ W).setCell (S := fun k => k = gs) (p := ⟨gs, j, none⟩) (.inl rfl) _
/-- The plan is bad, or not, from now on. -/
theorem Pn.setBad (h : Pn w0 W pb gs T a cap N sc vo M sn bad) (b' : Bool) : Pn w0 (W.setCell ⟨pb, 4, none⟩ (.bool b')) pb gs T a cap N sc vo M sn b' := by
  have hO := only_pb (W := W) (pb := pb) (.bool b') 4
  refine ⟨h.b.set 4 _ (by simp), ⟨Nat.lt_of_lt_of_le h.s.lt hO.size, fun j v hj => hO.cell (h.s.at_ j v hj) (fun e => h.ne e.symm), fun j => by rw [World.frozen?_setCell]; exact h.s.fr j⟩, h.sl, h.r.only hO (fun k hk => .inr (.inl hk)), h.z.setCell h.hp _, h.hp, h.hs, h.ne⟩
theorem Pn.mark (h : Pn w0 W pb gs T a cap N sc vo M sn bad) (i : Nat) (hi : i < sn.length) : Pn w0 (W.setCell ⟨gs, i, none⟩ (.bool true)) pb gs T a cap N sc vo M (sn.set i true) bad := by
  have hO := only_gs (W := W) (gs := gs) (.bool true) i
  exact ⟨h.b.only hO (fun e => h.ne e), h.s.set i hi true, by rw [List.length_set]; exact h.sl, h.r.only hO (fun k hk => .inr (.inr hk)), h.z.setCell h.hs _, h.hp, h.hs, h.ne⟩
/-- Another row, told to the plan. -/
theorem Pn.row (h : Pn w0 W pb gs T a cap N sc vo M sn bad) (hR : NRow W' (fun k => k < w0.heap.size ∨ k = pb ∨ k = gs) vo' M') (hO : Only (fun k => vo.ownBlock = some k) W W') :
    Pn w0 (W'.setCell ⟨pb, 2, none⟩ vo') pb gs T a cap N sc vo' M' sn bad := by
  have hq : ∀ k, vo.ownBlock = some k → ¬ (k < w0.heap.size ∨ k = pb ∨ k = gs) := h.r.own
  have hO2 := only_pb (W := W') (pb := pb) vo' 2
  have hb := h.b.only hO (fun e => hq pb e (.inr (.inl rfl)))
  refine ⟨hb.set 2 _ (by simp), ⟨Nat.lt_of_lt_of_le h.s.lt (Nat.le_trans hO.size hO2.size), fun j v hj => hO2.cell (hO.cell (h.s.at_ j v hj) (fun e => hq gs e (.inr (.inr rfl)))) (fun e => h.ne e.symm), fun j => ?_⟩, h.sl, hR.only hO2 (fun k hk => .inr (.inl hk)), (h.z.trans (hO.below (B := w0.heap.size) (fun i hi => ?_) h.z.size)).setCell h.hp _, h.hp, h.hs, h.ne⟩
  · rw [World.frozen?_setCell]
    exact (World.frozen?_of_block (w := W) (a := ⟨gs, j, none⟩) (hO.block gs h.s.lt (fun e => hq gs e (.inr (.inr rfl))))).trans (h.s.fr j)
  · rcases Nat.lt_or_ge i w0.heap.size with h' | h'
    · exact absurd (.inl h') (hq i hi)
    · exact h'
end
/-- What comes of node: of a plan that is bad nothing; else the part that hangs there, if there is one. -/
def Po (N : List Nd) (sn : List Bool) (t : Int) (lo hi : Option Int) (M : List RN) (bad : Bool) (r : Int) (M' : List RN) (sn' : List Bool) (bad' : Bool) : Prop :=
  M.length ≤ M'.length ∧ (cnt sn' ≤ cnt sn ∧ M'.length + cnt sn' ≤ M.length + cnt sn) ∧ (bad = true → bad' = true) ∧
  (bad = false → (bad' = false → ∃ s, Part N sn t lo hi s ∧ r = M.length ∧ sn' = mark sn s.pre ∧ M'.map (fun z => z.n) = M.map (fun z => z.n) ++ lay N s M.length) ∧ (bad' = true → ∀ s, ¬ Part N sn t lo hi s))
def PnIs (w0 : World) (pb gs : Nat) (T : Int) (a : Option Addr) (cap : Nat) (N : List Nd) (sc : Nat) (vo : Value) (M : List RN) (sn : List Bool) (bad : Bool) (t : Int) (lo hi : Option Int) (W : World) (e : Ending) (w' : World) : Prop :=
  ∃ r vo' M' sn' bad', e = .returned (.int .i64 r) ∧ Pn w0 w' pb gs T a cap N sc vo' M' sn' bad' ∧ Only (fun k => k = pb ∨ k = gs ∨ vo.ownBlock = some k) W w' ∧ (∀ k, vo'.ownBlock = some k → vo.ownBlock = some k ∨ W.heap.size ≤ k) ∧ Po N sn t lo hi M bad r M' sn' bad'
/-- node does as it should, where fewer than f nodes have not been come to. -/
def PnOk (w0 : World) (pb gs : Nat) (T : Int) (a : Option Addr) (cap : Nat) (N : List Nd) (sc : Nat) (f : Nat) : Prop :=
  ∀ (W : World) (vo : Value) (M : List RN) (sn : List Bool) (bad : Bool) (t : Int) (lo hi : Bd), cnt sn < f → M.length + cnt sn ≤ N.length → Pn w0 W pb gs T a cap N sc vo M sn bad →
    BdOk W (fun k => k = pb ∨ k = gs) vo lo → BdOk W (fun k => k = pb ∨ k = gs) vo hi →
    Calls Try.prog 36 #[.pointer (some ⟨pb, 0, none⟩), .int .i64 t, bdv lo, bdv hi] W (PnIs w0 pb gs T a cap N sc vo M sn bad t (bdo lo) (bdo hi) W)

/-- The row's two cells of a node are written. -/
theorem Pn.cells {w0 W : World} {pb gs : Nat} {T : Int} {a : Option Addr} {cap : Nat} {N : List Nd} {sc : Nat} {g n c : Nat} {M : List RN} {sn : List Bool} {bad : Bool} (h : Pn w0 W pb gs T a cap N sc (.slice (some ⟨g, 0, none⟩) n c) M sn bad) {i : Nat} {m : RN} (hm : M[i]? = some m) (x y : Int) :
    Pn w0 ((W.setCell ⟨g, i * 6 + 2, none⟩ (.int .i64 x)).setCell ⟨g, i * 6 + 3, none⟩ (.int .i64 y)) pb gs T a cap N sc (.slice (some ⟨g, 0, none⟩) n c) (M.set i ⟨⟨m.n.r, m.n.k, x, y, m.n.p, m.n.s⟩, m.a, m.c⟩) sn bad := by
  have hq := h.r.own g rfl
  have hi := (List.getElem?_eq_some_iff.1 hm).1
  obtain ⟨p1, p2⟩ := h.r.prs m (List.mem_of_getElem? hm)
  have sep : m.n.p ≠ [] → ∀ b o sp, m.a = some ⟨b, o, sp⟩ → ¬ (b < w0.heap.size ∨ b = pb ∨ b = gs) ∧ g ≠ b := fun hp b o sp e => ⟨(p2 hp b o sp e).1, fun e' => (p2 hp b o sp e).2 (by rw [← e']; rfl)⟩
  have r1 := h.r.cell hm ⟨⟨m.n.r, m.n.k, x, m.n.b, m.n.p, m.n.s⟩, m.a, m.c⟩ 2 (.int .i64 x) (by decide) rfl p1 sep
  have hO1 : Only (fun k => k = g) W (W.setCell ⟨g, i * 6 + 2, none⟩ (.int .i64 x)) := (Only.refl _ W).setCell (S := fun k => k = g) (p := ⟨g, i * 6 + 2, none⟩) (.inl rfl) _
  have p1' := prs_only p1 hO1 (fun hp b o sp e hb => (sep hp b o sp e).2 hb.symm)
  have r2 := r1.cell (List.getElem?_set_self hi) ⟨⟨m.n.r, m.n.k, x, y, m.n.p, m.n.s⟩, m.a, m.c⟩ 3 (.int .i64 y) (by decide) rfl p1' sep
  rw [List.set_set] at r2
  have hO : Only (fun k => k = g) W ((W.setCell ⟨g, i * 6 + 2, none⟩ (.int .i64 x)).setCell ⟨g, i * 6 + 3, none⟩ (.int .i64 y)) := hO1.setCell (S := fun k => k = g) (p := ⟨g, i * 6 + 3, none⟩) (.inl rfl) _
  refine ⟨h.b.only hO (fun e => hq (.inr (.inl e.symm))), ⟨Nat.lt_of_lt_of_le h.s.lt hO.size, fun j v hj => hO.cell (h.s.at_ j v hj) (fun e => hq (.inr (.inr e.symm))), fun j => ?_⟩, h.sl, r2, h.z.trans (hO.below (B := w0.heap.size) (fun i hi => ?_) h.z.size), h.hp, h.hs, h.ne⟩
  · exact (World.frozen?_of_block (w := W) (a := ⟨gs, j, none⟩) (hO.block gs h.s.lt (fun e => hq (.inr (.inr e.symm))))).trans (h.s.fr j)
  · rcases Nat.lt_or_ge i w0.heap.size with h' | h'
    · exact absurd (.inl (by rw [← hi]; exact h')) hq
    · exact h'
section
variable {N : List Nd} {sn : List Bool} {t : Int} {lo hi : Option Int} {M : List RN} {r : Int}
theorem po_bad : Po N sn t lo hi M true r M sn true := ⟨Nat.le_refl _, ⟨Nat.le_refl _, Nat.le_refl _⟩, fun _ => rfl, fun h => (by cases h)⟩
theorem po_no {sn' : List Bool} (h : ∀ s, ¬ Part N sn t lo hi s) (hc : cnt sn' ≤ cnt sn) : Po N sn t lo hi M false r M sn' true :=
  ⟨Nat.le_refl _, ⟨hc, by omega⟩, fun _ => rfl, fun _ => ⟨fun h => (by cases h), fun _ => h⟩⟩
theorem po_leaf {i : Nat} {n : Nd} (ht : t = (i : Int)) (hn : N[i]? = some n) (hr : n.r = false) (hs : sn[i]? = some false) (B : Bool) (hB : B = false ↔ okL n lo hi) (m : RN) (hm : m.n = n) : Po N sn t lo hi M false (M.length : Int) (M ++ [m]) (sn.set i true) B := by
  refine ⟨by simp, ⟨cnt_set_le _ _, by have := cnt_set hs; simp; omega⟩, fun h => (by cases h), fun _ => ⟨fun hb => ⟨.lf i, part_lf ht hn hr hs (hB.1 hb), rfl, rfl, ?_⟩, fun hb => part_lf_no ht hn hr (fun h => by rw [hB.2 h] at hb; cases hb)⟩⟩
  simp [lay, nd_of hn, hm]
theorem po_rt {i : Nat} {n : Nd} (ht : t = (i : Int)) (hn : N[i]? = some n) (hr : n.r = true) (hs : sn[i]? = some false) (h : okR n lo hi) {M1 M2 : List RN} {sn1 sn2 : List Bool} {r1 r2 : Int} {bad1 bad2 : Bool} {m0 m : RN}
    (h1 : Po N (sn.set i true) n.a lo (some n.k) (M ++ [m0]) false r1 M1 sn1 bad1) (h2 : Po N sn1 n.b (some n.k) hi M1 bad1 r2 M2 sn2 bad2) (hm0 : m0.n = ⟨true, n.k, 0, 0, [], 0⟩) (hm : M2[M.length]? = some m) :
    Po N sn t lo hi M false (M.length : Int) (M2.set M.length ⟨⟨m.n.r, m.n.k, r1, r2, m.n.p, m.n.s⟩, m.a, m.c⟩) sn2 bad2 := by
  obtain ⟨a1, a2, a3, a4⟩ := h1
  obtain ⟨b1, b2, b3, b4⟩ := h2
  have hl1 : M.length + 1 ≤ M1.length := by simpa using a1
  have hcs := cnt_set hs
  have a2' := a2.2
  simp at a2'
  refine ⟨by rw [List.length_set]; omega, ⟨Nat.le_trans b2.1 (Nat.le_trans a2.1 (cnt_set_le _ _)), by rw [List.length_set]; omega⟩, fun h => (by cases h), fun _ => ⟨fun hb => ?_, fun hb => ?_⟩⟩
  · have hb1 : bad1 = false := by
      cases bad1
      · rfl
      · have := b3 rfl; rw [hb] at this; cases this
    obtain ⟨sl, p1, q1, r1', s1⟩ := (a4 rfl).1 hb1
    obtain ⟨sr, p2, q2, r2', s2⟩ := (b4 hb1).1 hb
    rw [r1'] at p2 r2'
    have hM1 : M1.length = M.length + 1 + sl.pre.length := by
      have := congrArg List.length s1
      simp [lay_len] at this
      omega
    refine ⟨.rt i sl sr, part_rt ht hn hr hs h p1 p2, rfl, ?_, ?_⟩
    · rw [r2']
      show mark (mark (sn.set i true) sl.pre) sr.pre = mark sn (i :: (sl.pre ++ sr.pre))
      rw [mark_cons, mark_app]
    · have hmn : m.n = m0.n := by
        have h1 : (M2.map (fun z => z.n))[M.length]? = some m.n := by rw [List.getElem?_map, hm]; rfl
        rw [s2, s1] at h1
        simpa [hM1, List.getElem?_append] using h1.symm
      rw [List.map_set, s2, s1, hmn, hm0, q1, q2, hM1]
      simp only [List.map_append, List.map_cons, List.map_nil, lay, nd_of hn, List.append_assoc]
      rw [List.set_append_right _ _ (by simp)]
      simp
  · intro s hp
    cases hb1 : bad1 with
    | true =>
      exact part_left_no ht hn hr ((a4 rfl).2 hb1) s hp
    | false =>
      obtain ⟨sl, p1, q1, r1', s1⟩ := (a4 rfl).1 hb1
      have h2 := (b4 hb1).2 hb
      rw [r1'] at h2
      exact part_right_no ht hn hr p1 h2 s hp
end
end Go.Proofs.Ytlpjbgojijkdjaa
