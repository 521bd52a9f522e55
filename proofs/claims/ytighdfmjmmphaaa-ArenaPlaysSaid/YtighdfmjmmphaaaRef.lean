/- What is known in memory of the plain row of records and cells with which a statement compares: its items, its row, the values of each record; definitions and lemmas, no condition. -/
import Derived.Test.YtighdfmjmmphaaaArgs
namespace Go.Proofs.Ytighdfmjmmphaaa
open Go.RowKit
set_option linter.unusedVariables false

def valsOf (x : It) : List Int := if x.1 = 0 then [] else x.2
def holdsOf (x : It) : Int := if x.1 = 0 then x.2.getD 0 0 else 0

def rowR : List It → List Value → List Value
  | x :: l, s :: ss => .int .i64 x.1 :: s :: .bool (decide (x.1 = 0)) :: .int .i64 (holdsOf x) :: rowR l ss
  | _, _ => []

theorem rowR_len : ∀ (l : List It) (ss : List Value), ss.length = l.length → (rowR l ss).length = l.length * 4
  | [], [], _ => rfl
  | x :: l, s :: ss, h => by
    have := rowR_len l ss (by simpa using h)
    simp only [rowR, List.length_cons, this]; omega
  | [], s :: ss, h => by simp at h
  | x :: l, [], h => by simp at h

theorem rowR_snoc (x : It) (s : Value) : ∀ (l : List It) (ss : List Value), ss.length = l.length → rowR (l ++ [x]) (ss ++ [s]) = rowR l ss ++ [.int .i64 x.1, s, .bool (decide (x.1 = 0)), .int .i64 (holdsOf x)]
  | [], [], _ => rfl
  | y :: l, t :: ss, h => by
    have := rowR_snoc x s l ss (by simpa using h)
    simp only [List.cons_append, rowR, this]
  | [], s :: ss, h => by simp at h
  | x :: l, [], h => by simp at h

theorem rowR_get : ∀ (l : List It) (ss : List Value) (i : Nat) (x : It) (s : Value), l[i]? = some x → ss[i]? = some s →
    (rowR l ss)[i * 4]? = some (.int .i64 x.1) ∧ (rowR l ss)[i * 4 + 1]? = some s ∧ (rowR l ss)[i * 4 + 2]? = some (.bool (decide (x.1 = 0))) ∧ (rowR l ss)[i * 4 + 3]? = some (.int .i64 (holdsOf x))
  | y :: l, t :: ss, 0, x, s, h1, h2 => by
    simp only [List.getElem?_cons_zero, Option.some.injEq] at h1 h2
    subst h1; subst h2
    exact ⟨rfl, rfl, rfl, rfl⟩
  | y :: l, t :: ss, i + 1, x, s, h1, h2 => by
    simp only [List.getElem?_cons_succ] at h1 h2
    have := rowR_get l ss i x s h1 h2
    rw [show (i + 1) * 4 = i * 4 + 1 + 1 + 1 + 1 by omega, show i * 4 + 1 + 1 + 1 + 1 + 1 = i * 4 + 1 + 1 + 1 + 1 + 1 from rfl]
    exact this
  | [], _, i, x, s, h1, _ => by simp at h1
  | _ :: _, [], i, x, s, _, h2 => by simp at h2

theorem rowR_set (v u : Int) : ∀ (l : List It) (ss : List Value) (i : Nat), ss.length = l.length → l[i]? = some (0, [u]) → rowR (l.set i (0, [v])) ss = (rowR l ss).set (i * 4 + 3) (.int .i64 v)
  | y :: l, t :: ss, 0, _, h1 => by
    simp only [List.getElem?_cons_zero, Option.some.injEq] at h1
    subst h1; rfl
  | y :: l, t :: ss, i + 1, h, h1 => by
    simp only [List.getElem?_cons_succ] at h1
    have := rowR_set v u l ss i (by simpa using h) h1
    rw [show (i + 1) * 4 + 3 = i * 4 + 3 + 1 + 1 + 1 + 1 by omega]
    simp only [List.set_cons_succ, rowR, this]
  | [], _, i, _, h1 => by simp at h1
  | _ :: _, [], i, h, _ => by simp at h

/-- A record's values: a row of their own. -/
def OwnVals (w : World) (s : Value) (x : It) : Prop := w.ownsRow 0 3 1 s (valsOf x).length ((valsOf x).map (Value.int .i64))

/-- The plain row at block q. -/
structure RefIs (w : World) (q : Nat) (lv : Value) (max mv : Int) (l : List It) (ss : List Value) : Prop where
  c0 : w.cell? ⟨q, 0, none⟩ = some (.int .i64 max)
  c1 : w.cell? ⟨q, 1, none⟩ = some lv
  c2 : w.cell? ⟨q, 2, none⟩ = some (.int .i64 mv)
  fr : ∀ j, w.frozen? ⟨q, j, none⟩ = false
  rl : w.ownsRow 0 54 4 lv l.length (rowR l ss)
  nl : lv.ownBlock ≠ some q
  len : ss.length = l.length
  own : ∀ (i : Nat) (x : It) (s : Value), l[i]? = some x → ss[i]? = some s → OwnVals w s x ∧ s.ownBlock ≠ some q ∧ ∀ k, s.ownBlock = some k → lv.ownBlock ≠ some k
  ok : ∀ x ∈ l, ItOk x
  fits : (l.length : Int) ≤ max
  top : max ≤ 60000

def FootR (q : Nat) (lv : Value) (ss : List Value) (k : Nat) : Prop := k = q ∨ lv.ownBlock = some k ∨ ∃ s ∈ ss, s.ownBlock = some k

def Ref (w : World) (q : Nat) (G : Nat → Prop) (max mv : Int) (l : List It) : Prop := ∃ lv ss, RefIs w q lv max mv l ss ∧ ∀ k, FootR q lv ss k → G k

section
variable {w w' : World} {q : Nat} {lv : Value} {G G' : Nat → Prop} {max mv : Int} {l : List It} {ss : List Value}

theorem RefIs.item (h : RefIs w q lv max mv l ss) {i : Nat} {s : Value} (hs : ss[i]? = some s) : ∃ x, l[i]? = some x := by
  have := (List.getElem?_eq_some_iff.1 hs).1
  exact ⟨_, List.getElem?_eq_getElem (by rw [← h.len]; exact this)⟩
theorem RefIs.slice (h : RefIs w q lv max mv l ss) {i : Nat} {x : It} (hx : l[i]? = some x) : ∃ s, ss[i]? = some s := by
  have := (List.getElem?_eq_some_iff.1 hx).1
  exact ⟨_, List.getElem?_eq_getElem (by rw [h.len]; exact this)⟩

theorem RefIs.lt (h : RefIs w q lv max mv l ss) : ∀ k, FootR q lv ss k → k < w.heap.size := by
  intro k hk
  rcases hk with rfl | hk | ⟨s, hs, hk⟩
  · exact World.block_lt_of_cell? w _ h.c0
  · exact (h.rl.lt k hk).2
  · obtain ⟨i, hi⟩ := List.mem_iff_getElem?.1 hs
    obtain ⟨x, hx⟩ := h.item hi
    exact ((h.own i x s hx hi).1.lt k hk).2

theorem RefIs.only {S : Nat → Prop} (h : RefIs w q lv max mv l ss) (o : Only S w w') (hS : ∀ k, FootR q lv ss k → ¬ S k) : RefIs w' q lv max mv l ss :=
  ⟨o.cell h.c0 (hS _ (.inl rfl)), o.cell h.c1 (hS _ (.inl rfl)), o.cell h.c2 (hS _ (.inl rfl)),
   fun j => (World.frozen?_of_block (a := ⟨q, j, none⟩) (o.block q (World.block_lt_of_cell? w _ h.c0) (hS _ (.inl rfl)))).trans (h.fr j),
   o.row h.rl (fun k hk => hS k (.inr (.inl hk))), h.nl, h.len,
   fun i x s hx hs => ⟨o.row (h.own i x s hx hs).1 (fun k hk => hS k (.inr (.inr ⟨s, List.mem_of_getElem? hs, hk⟩))), (h.own i x s hx hs).2⟩, h.ok, h.fits, h.top⟩

theorem RefIs.below (h : RefIs w q lv max mv l ss) (o : Below w.heap.size w w') : RefIs w' q lv max mv l ss := h.only (S := fun _ => False) (Only.ofBelow o) (fun _ _ => id)

theorem RefIs.setMv (h : RefIs w q lv max mv l ss) (t : Int) : RefIs (w.setCell ⟨q, 2, none⟩ (.int .i64 t)) q lv max t l ss := by
  have g := setCell_grown w ⟨q, 2, none⟩ (.int .i64 t)
  exact ⟨(World.cell?_setCell_other _ _ _ _ (by simp)).trans h.c0, (World.cell?_setCell_other _ _ _ _ (by simp)).trans h.c1, World.cell?_setCell_same _ _ _ h.c2, fun j => (World.frozen?_setCell _ _ _ _).trans (h.fr j),
    h.rl.kept g (.inr h.nl), h.nl, h.len, fun i x s hx hs => ⟨(h.own i x s hx hs).1.kept g (.inr (h.own i x s hx hs).2.1), (h.own i x s hx hs).2⟩, h.ok, h.fits, h.top⟩

/-- A cell's value put anew. -/
theorem RefIs.setVal {g cap : Nat} (h : RefIs w q (.slice (some ⟨g, 0, none⟩) l.length cap) max mv l ss) (i : Nat) (u v : Int) (hi : l[i]? = some (0, [u])) :
    RefIs (w.setCell ⟨g, i * 4 + 3, none⟩ (.int .i64 v)) q (.slice (some ⟨g, 0, none⟩) l.length cap) max mv (l.set i (0, [v])) ss := by
  have hgq : g ≠ q := fun e => h.nl (by rw [← e]; rfl)
  have gr := setCell_grown w ⟨g, i * 4 + 3, none⟩ (.int .i64 v)
  have hr := (h.rl.stored (i * 4 + 3) (.int .i64 v)).1
  refine ⟨(World.cell?_setCell_other _ _ _ _ (by simp [hgq])).trans h.c0, (World.cell?_setCell_other _ _ _ _ (by simp [hgq])).trans h.c1, (World.cell?_setCell_other _ _ _ _ (by simp [hgq])).trans h.c2, fun j => (World.frozen?_setCell _ _ _ _).trans (h.fr j),
    by rw [List.length_set, rowR_set v u l ss i h.len hi]; exact hr, h.nl, by rw [List.length_set]; exact h.len, fun j x s hx hs => ?_, fun x hx => ?_, by simpa using h.fits, h.top⟩
  · have hold : ∃ x', l[j]? = some x' ∧ valsOf x' = valsOf x := by
      rw [List.getElem?_set] at hx
      split at hx
      · next e =>
        subst e
        split at hx
        · simp at hx; subst hx; exact ⟨_, hi, rfl⟩
        · cases hx
      · exact ⟨x, hx, rfl⟩
    obtain ⟨x', hx', he⟩ := hold
    have ho := h.own j x' s hx' hs
    refine ⟨?_, ho.2⟩
    have h1 := ho.1
    unfold OwnVals at h1 ⊢
    rw [← he]
    exact h1.kept gr (by
      cases hb : s.ownBlock with
      | none => exact .inl rfl
      | some k => exact .inr (fun e => ho.2.2 k hb e.symm))
  · rcases List.mem_or_eq_of_mem_set hx with hx | rfl
    · exact h.ok x hx
    · exact ⟨Int.le_refl _, by simp, fun _ => ⟨v, rfl⟩⟩

/-- One item more: its values have been made, the row has grown. -/
theorem RefIs.add {W w2 : World} {lv' s : Value} {x : It} (h : RefIs w q lv max mv l ss) (hb : Below w.heap.size w W) (hs : OwnVals W s x) (hsb : ∀ k, s.ownBlock = some k → w.heap.size ≤ k)
    (hg : W.grownBy w2 lv.ownBlock) (hr : w2.ownsRow 0 54 4 lv' (l.length + 1) (rowR l ss ++ [.int .i64 x.1, s, .bool (decide (x.1 = 0)), .int .i64 (holdsOf x)]))
    (hk : ∀ k, lv'.ownBlock = some k → lv.ownBlock = some k ∨ W.heap.size ≤ k) (hx : ItOk x) (hfit : (l.length : Int) < max) :
    RefIs (w2.setCell ⟨q, 1, none⟩ lv') q lv' max mv (l ++ [x]) (ss ++ [s]) := by
  have hW := h.below hb
  have hq := World.block_lt_of_cell? w _ h.c0
  have hqW := World.block_lt_of_cell? W _ hW.c0
  have hne : some q ≠ lv.ownBlock := fun e => h.nl e.symm
  have nl' : lv'.ownBlock ≠ some q := fun e => by
    rcases hk q e with e' | e'
    · exact h.nl e'
    · exact absurd hqW (by dsimp only; omega)
  have gs := setCell_grown w2 ⟨q, 1, none⟩ lv'
  have kept : ∀ {s : Value} {n : Nat} {xs : List Value}, W.ownsRow 0 3 1 s n xs → s.ownBlock ≠ some q → (∀ k, s.ownBlock = some k → lv.ownBlock ≠ some k) → (w2.setCell ⟨q, 1, none⟩ lv').ownsRow 0 3 1 s n xs := fun {s n xs} ho h1 h2 =>
    (ho.kept hg (by
      cases hb : s.ownBlock with
      | none => exact .inl rfl
      | some k => exact .inr (fun e => h2 k hb e.symm))).kept gs (.inr h1)
  refine ⟨(World.cell?_setCell_other _ _ _ _ (by simp)).trans (hg.cell hW.c0 hne), World.cell?_setCell_same _ _ _ (hg.cell hW.c1 hne), (World.cell?_setCell_other _ _ _ _ (by simp)).trans (hg.cell hW.c2 hne),
    fun j => (World.frozen?_setCell _ _ _ _).trans ((World.frozen?_of_block (a := ⟨q, j, none⟩) (hg.block q hqW hne)).trans (hW.fr j)),
    by rw [List.length_append, List.length_singleton, rowR_snoc x s l ss h.len]; exact hr.kept gs (.inr nl'), nl', by simp [h.len], fun i y t hy ht => ?_, fun y hy => ?_, by simp; omega, h.top⟩
  · rcases Nat.lt_or_ge i l.length with hi | hi
    · rw [List.getElem?_append_left hi] at hy
      rw [List.getElem?_append_left (by rw [h.len]; exact hi)] at ht
      have ho := hW.own i y t hy ht
      refine ⟨kept ho.1 ho.2.1 ho.2.2, ho.2.1, fun k e e2 => ?_⟩
      rcases hk k e2 with e' | e'
      · exact ho.2.2 k e e'
      · have := (ho.1.lt k e).2; omega
    · rw [List.getElem?_append_right hi] at hy
      rw [List.getElem?_append_right (by rw [h.len]; exact hi)] at ht
      have hi0 : i - l.length = 0 := by
        rcases Nat.eq_zero_or_pos (i - l.length) with h | h
        · exact h
        · rw [List.getElem?_eq_none (by simp; omega)] at hy; cases hy
      rw [hi0] at hy
      rw [h.len, hi0] at ht
      simp only [List.getElem?_cons_zero, Option.some.injEq] at hy ht
      subst hy; subst ht
      have n1 : s.ownBlock ≠ some q := fun e => by have := hsb q e; dsimp only at hq; omega
      have n2 : ∀ k, s.ownBlock = some k → lv.ownBlock ≠ some k := fun k e e2 => by have := hsb k e; have := (h.rl.lt k e2).2; omega
      refine ⟨kept hs n1 n2, n1, fun k e e2 => ?_⟩
      rcases hk k e2 with e' | e'
      · exact n2 k e e'
      · have := (hs.lt k e).2; omega
  · rcases List.mem_append.1 hy with hy | hy
    · exact h.ok y hy
    · simp at hy; subst hy; exact hx

theorem Ref.lt (h : Ref w q G max mv l) : q < w.heap.size := by
  obtain ⟨_, _, h, _⟩ := h
  exact h.lt q (.inl rfl)
theorem Ref.mine (h : Ref w q G max mv l) : G q := by
  obtain ⟨_, _, h, hf⟩ := h
  exact hf q (.inl rfl)
theorem Ref.mono (h : Ref w q G max mv l) (hG : ∀ k, G k → k < w.heap.size → G' k) : Ref w q G' max mv l := by
  obtain ⟨lv, ss, h, hf⟩ := h
  exact ⟨lv, ss, h, fun k hk => hG k (hf k hk) (h.lt k hk)⟩
theorem Ref.only {S : Nat → Prop} (h : Ref w q G max mv l) (o : Only S w w') (hS : ∀ k, G k → k < w.heap.size → ¬ S k) : Ref w' q G max mv l := by
  obtain ⟨lv, ss, h, hf⟩ := h
  exact ⟨lv, ss, h.only o (fun k hk => hS k (hf k hk) (h.lt k hk)), hf⟩
theorem Ref.below (h : Ref w q G max mv l) (o : Below w.heap.size w w') : Ref w' q G max mv l := by
  obtain ⟨lv, ss, h, hf⟩ := h
  exact ⟨lv, ss, h.below o, hf⟩
end
end Go.Proofs.Ytighdfmjmmphaaa
