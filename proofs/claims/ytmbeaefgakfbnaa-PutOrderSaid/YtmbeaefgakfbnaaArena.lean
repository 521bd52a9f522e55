/- What is known of an arena in memory: its items, its two rows, which blocks are its own; and the plain mathematics of these rows. No condition: definitions and lemmas. -/
import Derived.Test.YtmbeaefgakfbnaaRows
import Derived.Below
import Derived.Laws.OwnMore
import Derived.Deep.RegionLaw
import Derived.Deep.Draws
import Derived.Lib.Hide
namespace Go.Proofs.Ytmbeaefgakfbnaa
open Go.RowKit
set_option linter.unusedVariables false

/-! ### The plain mathematics -/

/-- An item: its kind (0: a cell), its values. -/
abbrev It := Int × List Int

/-- The row of slots: kind, where its values begin, how many. -/
def rowS : Nat → List It → List Value
  | _, [] => []
  | f, x :: l => .int .i64 x.1 :: .int .i64 (f : Int) :: .int .i64 (x.2.length : Int) :: rowS (f + x.2.length) l

def flat : List It → List Int
  | [] => []
  | x :: l => x.2 ++ flat l

/-- The row of values. -/
def rowV (l : List It) : List Value := (flat l).map (Value.int .i64)

theorem flat_app (a b : List It) : flat (a ++ b) = flat a ++ flat b := by
  induction a with
  | nil => rfl
  | cons x a ih => simp [flat, ih]

theorem rowS_len (l : List It) : ∀ f, (rowS f l).length = l.length * 3 := by
  induction l with
  | nil => intro f; rfl
  | cons x l ih => intro f; simp only [rowS, List.length_cons, ih]; omega

theorem rowS_snoc (l : List It) (x : It) : ∀ f, rowS f (l ++ [x]) = rowS f l ++ [.int .i64 x.1, .int .i64 ((f + (flat l).length : Nat) : Int), .int .i64 (x.2.length : Int)] := by
  induction l with
  | nil => intro f; simp [rowS, flat]
  | cons y l ih => intro f; simp only [List.cons_append, rowS, ih, flat, List.length_append]; simp [Nat.add_assoc]

theorem rowV_snoc (l : List It) (x : It) : rowV (l ++ [x]) = rowV l ++ x.2.map (Value.int .i64) := by
  simp [rowV, flat_app, flat]

theorem rowV_len (l : List It) : (rowV l).length = (flat l).length := by simp [rowV]

/-- Where the values of item i begin. -/
def fst (l : List It) (i : Nat) : Nat := (flat (l.take i)).length

theorem rowS_get (l : List It) : ∀ (f i : Nat) (x : It), l[i]? = some x →
    (rowS f l)[i * 3]? = some (.int .i64 x.1) ∧ (rowS f l)[i * 3 + 1]? = some (.int .i64 ((f + fst l i : Nat) : Int)) ∧ (rowS f l)[i * 3 + 2]? = some (.int .i64 (x.2.length : Int)) := by
  induction l with
  | nil => intro f i x h; simp at h
  | cons y l ih =>
    intro f i x h
    cases i with
    | zero =>
      simp only [List.getElem?_cons_zero, Option.some.injEq] at h
      subst h
      simp [rowS, fst, flat]
    | succ i =>
      simp only [List.getElem?_cons_succ] at h
      have := ih (f + y.2.length) i x h
      have e : (i + 1) * 3 = i * 3 + 1 + 1 + 1 := by omega
      have e2 : (i + 1) * 3 + 1 = (i * 3 + 1) + 1 + 1 + 1 := by omega
      have e3 : (i + 1) * 3 + 2 = (i * 3 + 2) + 1 + 1 + 1 := by omega
      rw [e3, e2, e]
      simp only [rowS, List.getElem?_cons_succ]
      refine ⟨this.1, ?_, this.2.2⟩
      rw [this.2.1]
      simp [fst, flat]
      omega

theorem flat_split (l : List It) (i : Nat) (x : It) (h : l[i]? = some x) : flat l = flat (l.take i) ++ (x.2 ++ flat (l.drop (i + 1))) := by
  obtain ⟨hi, hx⟩ := List.getElem?_eq_some_iff.1 h
  conv => lhs; rw [← List.take_append_drop i l, List.drop_eq_getElem_cons hi, hx]
  rw [flat_app]; rfl

theorem flat_get (l : List It) (i : Nat) (x : It) (h : l[i]? = some x) (j : Nat) (hj : j < x.2.length) : (flat l)[fst l i + j]? = x.2[j]? := by
  rw [flat_split l i x h, List.getElem?_append_right (by unfold fst; omega)]
  rw [show fst l i + j - (flat (l.take i)).length = j by unfold fst; omega]
  exact List.getElem?_append_left hj

theorem fst_le (l : List It) (i : Nat) (x : It) (h : l[i]? = some x) : fst l i + x.2.length ≤ (flat l).length := by
  rw [flat_split l i x h]; simp [fst]

theorem rowV_get (l : List It) (i : Nat) (x : It) (h : l[i]? = some x) (j : Nat) (hj : j < x.2.length) : (rowV l)[fst l i + j]? = some (.int .i64 (x.2.getD j 0)) := by
  unfold rowV
  rw [List.getElem?_map, flat_get l i x h j hj, List.getElem?_eq_getElem hj]
  simp [List.getD, List.getElem?_eq_getElem hj]

/-- A cell's value put anew: its row of slots is as it was. -/
theorem rowS_set (l : List It) : ∀ (f i : Nat) (x y : It), l[i]? = some x → y.1 = x.1 → y.2.length = x.2.length → rowS f (l.set i y) = rowS f l := by
  induction l with
  | nil => intro f i x y h; simp at h
  | cons z l ih =>
    intro f i x y h h1 h2
    cases i with
    | zero =>
      simp only [List.getElem?_cons_zero, Option.some.injEq] at h
      subst h
      simp [rowS, h1, h2]
    | succ i =>
      simp only [List.getElem?_cons_succ] at h
      simp [rowS, ih _ i x y h h1 h2]

theorem rowV_set (l : List It) : ∀ (i : Nat) (x : It) (k : Int) (v u : Int), l[i]? = some x → x.2 = [u] → rowV (l.set i (k, [v])) = (rowV l).set (fst l i) (.int .i64 v) := by
  induction l with
  | nil => intro i x k v u h; simp at h
  | cons z l ih =>
    intro i x k v u h hx
    cases i with
    | zero =>
      simp only [List.getElem?_cons_zero, Option.some.injEq] at h
      subst h
      simp [rowV, flat, fst, hx]
    | succ i =>
      simp only [List.getElem?_cons_succ] at h
      have := ih i x k v u h hx
      unfold rowV at this ⊢
      simp only [List.set_cons_succ, flat, List.map_append, this, fst, List.take_succ_cons, List.length_append]
      rw [List.set_append_right _ _ (by simp)]
      simp

/-- What may be an item. -/
def ItOk (x : It) : Prop := 0 ≤ x.1 ∧ x.2.length ≤ 12 ∧ (x.1 = 0 → ∃ u, x.2 = [u])

theorem flat_small (l : List It) (h : ∀ x ∈ l, ItOk x) : (flat l).length ≤ 12 * l.length := by
  induction l with
  | nil => simp [flat]
  | cons x l ih =>
    have h1 := (h x (by simp)).2.1
    have h2 := ih (fun y hy => h y (by simp [hy]))
    simp only [flat, List.length_append, List.length_cons]
    omega

theorem below_drewN {B : Nat} {a w : World} (h : Below B a w) (n : Nat) : Below B a (w.drewN n) := ⟨h.os, h.tape, h.output, h.size, h.block⟩

/-! ### Only these blocks have turned -/

structure Only (S : Nat → Prop) (w w' : World) : Prop where
  os : w'.os = w.os
  tape : w'.tape = w.tape
  output : w'.output = w.output
  size : w.heap.size ≤ w'.heap.size
  block : ∀ k, k < w.heap.size → ¬ S k → w'.heap[k]? = w.heap[k]?

section
variable {S T : Nat → Prop} {a b w w' : World}

theorem Only.refl (S : Nat → Prop) (w : World) : Only S w w := ⟨rfl, rfl, rfl, Nat.le_refl _, fun _ _ _ => rfl⟩
theorem Only.trans (h : Only S a b) (k : Only T b w) (hT : ∀ i, T i → i < a.heap.size → S i) : Only S a w :=
  ⟨k.os.trans h.os, k.tape.trans h.tape, k.output.trans h.output, Nat.le_trans h.size k.size, fun i hi hn =>
    (k.block i (Nat.lt_of_lt_of_le hi h.size) (fun ht => hn (hT i ht hi))).trans (h.block i hi hn)⟩
theorem Only.mono (h : Only S a b) (hT : ∀ i, S i → i < a.heap.size → T i) : Only T a b :=
  ⟨h.os, h.tape, h.output, h.size, fun i hi hn => h.block i hi (fun hs => hn (hT i hs hi))⟩
theorem Only.drew (h : Only S a b) : Only S a b.drew := ⟨h.os, h.tape, h.output, h.size, h.block⟩
theorem Only.drewN (h : Only S a b) (n : Nat) : Only S a (b.drewN n) := ⟨h.os, h.tape, h.output, h.size, h.block⟩
theorem Only.alloc (h : Only S a b) (o : Obj) : Only S a (b.alloc o) :=
  ⟨h.os, h.tape, h.output, Nat.le_trans h.size (by simp), fun i hi hn => (Below.heap_alloc b o i (Nat.lt_of_lt_of_le hi h.size)).trans (h.block i hi hn)⟩
theorem Only.setCell (h : Only S a b) {p : Addr} (hp : S p.block ∨ a.heap.size ≤ p.block) (u : Value) : Only S a (b.setCell p u) :=
  ⟨h.os, h.tape, h.output, by simpa [World.setCell] using h.size, fun i hi hn => (Below.heap_setCell b p u i (by
    rintro rfl
    rcases hp with hp | hp
    · exact hn hp
    · omega)).trans (h.block i hi hn)⟩
theorem Only.grown {row : Option Nat} (h : Only S a b) (hg : b.grownBy w row) (hr : ∀ k, row = some k → k < a.heap.size → S k) : Only S a w :=
  ⟨hg.os.trans h.os, hg.tape.trans h.tape, hg.output.trans h.output, Nat.le_trans h.size hg.size, fun i hi hn =>
    (hg.block i (Nat.lt_of_lt_of_le hi h.size) (fun e => hn (hr i e.symm hi))).trans (h.block i hi hn)⟩
theorem Only.below (h : Only S a b) {B : Nat} (hS : ∀ i, S i → B ≤ i) (hB : B ≤ a.heap.size) : Below B a b :=
  ⟨h.os, h.tape, h.output, h.size, fun i hi => h.block i (by omega) (fun hs => by have := hS i hs; omega)⟩
theorem Only.ofBelow (h : Below a.heap.size a b) : Only S a b := ⟨h.os, h.tape, h.output, h.size, fun i hi _ => h.block i hi⟩
theorem Only.cell (h : Only S a b) {p : Addr} {v : Value} (hc : a.cell? p = some v) (hp : ¬ S p.block) : b.cell? p = some v :=
  (World.cell?_of_block (h.block p.block (World.block_lt_of_cell? a p hc) hp)).trans hc
theorem Only.row (h : Only S a b) {base : Nat} {e : TypeId} {size : Nat} {v : Value} {n : Nat} {xs : List Value} (ho : a.ownsRow base e size v n xs) (hp : ∀ k, v.ownBlock = some k → ¬ S k) : b.ownsRow base e size v n xs := by
  refine ⟨ho.1, ?_⟩
  rcases ho.2 with hn | ⟨g, cap, cur, rfl, hb, hgg, rest⟩
  · exact .inl hn
  · refine .inr ⟨g, cap, cur, rfl, hb, ?_, rest⟩
    rw [h.block g (Array.getElem?_eq_some_iff.1 hgg).1 (hp g rfl)]
    exact hgg
end

/-! ### An append onto a row of one's own: where the new row lies -/

/-- What is appended: nothing, by a nil slice; or the cells behind an address. -/
def Source (w : World) (x : Value) (m : Nat) (news : List Value) : Prop :=
  (x = .slice none 0 0 ∧ m = 0 ∧ news = []) ∨ ∃ ad c, x = .slice (some ad) m c ∧ ∀ j u, news[j]? = some u → w.cell? (ad.add j) = some u

theorem own_append {P : Program} (w : World) (t ty e : TypeId) (i : TypeInfo) (z : Value) (size bytes : Nat) (ht : P.underlying t = some (.slice e)) (hi : P.info? e = some i) (hz : i.zero = some z)
    (hsize : i.size = size) (hby : i.bytes = bytes) (hzs : z.cells.size = size) (hsz : 0 < size)
    (v : Value) (n : Nat) (xs : List Value) (hown : w.ownsRow 0 e size v n xs)
    (x : Value) (m : Nat) (news : List Value) (hx : Source w x m news) (hl : news.length = m * size) (h1 : ∀ u ∈ news, u.oneCell' = true)
    (h63 : n + m ≤ maxLen) (hbytes : (n + m) * bytes ≤ 140737488355328) :
    ∃ v' w', (Builtin.append_ #[t, t] ty #[v, x]).run P w = .ok v' w' ∧ w'.ownsRow 0 e size v' (n + m) (xs ++ news) ∧ w.grownBy w' v.ownBlock ∧
      ∀ k, v'.ownBlock = some k → v.ownBlock = some k ∨ w.heap.size ≤ k := by
  rcases hx with ⟨rfl, rfl, rfl⟩ | ⟨ad, c, rfl, hnews⟩
  · exact ⟨v, w, run_append_owned_none w 0 t ty e i size ht hi v n xs hown, by simpa using hown, ⟨rfl, rfl, rfl, Nat.le_refl _, fun _ _ _ => rfl⟩, fun k hk => .inl hk⟩
  · rcases hown.2 with ⟨rfl, rfl⟩ | ⟨g, cap, cur, rfl, _, hg, hnc, hcm, hcs, htake⟩
    · obtain rfl : xs = [] := List.eq_nil_of_length_eq_zero (by simpa using hown.1)
      obtain ⟨v', w', hrun, r1, r2, _⟩ := run_append_own (P := P) w w.heap.size t ty e i z size bytes ht hi hz hsize hby hzs hsz (.slice none 0 0) 0 [] (World.ownsRow_nil w _ e size) ad m c news hl hnews h1 h63 hbytes (Nat.le_refl _)
      refine ⟨v', w', hrun, ?_, r2, fun k hk => .inr (r1.lt k hk).1⟩
      exact ⟨r1.1, r1.2.imp id fun ⟨g, cap, cur, a1, a2, a3⟩ => ⟨g, cap, cur, a1, Nat.zero_le _, a3⟩⟩
    · by_cases hroom : n + m ≤ cap
      · obtain ⟨w', hrun, r1, r2⟩ := run_append_fits (P := P) w 0 t ty e i size ht hi hsize g n cap xs hown ad m c news hl hnews h1 hroom
        exact ⟨_, w', hrun, r1, r2, fun k hk => .inl hk⟩
      · obtain ⟨v', w', hrun, r1, r2⟩ := run_append_arg_grows (P := P) w t ty e i z size bytes ht hi hz hsize hby hzs hsz ⟨g, 0, none⟩ n cap xs hown.1 (hown.cells (g := g) rfl) ad m c news hl hnews (by omega) h63 hbytes
        refine ⟨v', w', hrun, ?_, ⟨r2.os, r2.tape, r2.output, r2.size, fun k hk _ => r2.block k hk (by simp)⟩, fun k hk => .inr (r1.lt k hk).1⟩
        exact ⟨r1.1, r1.2.imp id fun ⟨g, cap, cur, a1, a2, a3⟩ => ⟨g, cap, cur, a1, Nat.zero_le _, a3⟩⟩

/-- The same as one step of a region that draws its order. -/
theorem step_own_append {P : Program} {ops : Array Oper} {o : Oper} {a : Act} {w : World} {K : Act → World → Prop} {Q : Exit → Act → World → Prop} {E : Prop}
    (hg : o.guard = none) (s x : Operand) (t : TypeId) (hop : o.op = Op.call { callee := Callee.builtin Builtin.append, args := #[s, x], argTypes := #[t, t] })
    (e : TypeId) (i : TypeInfo) (z : Value) (size bytes : Nat) (h1 : P.underlying t = some (.slice e)) (h2 : P.info? e = some i) (h3 : i.zero = some z) (h4 : i.size = size) (h5 : i.bytes = bytes) (h6 : z.cells.size = size) (h7 : 0 < size)
    (v : Value) (n : Nat) (xs : List Value) (hs : a.eval s = v) (hown : w.ownsRow 0 e size v n xs)
    (xv : Value) (m : Nat) (news : List Value) (hx : a.eval x = xv) (hsrc : Source w xv m news) (hl : news.length = m * size) (h1c : ∀ u ∈ news, u.oneCell' = true)
    (b1 : n + m ≤ maxLen) (b2 : (n + m) * bytes ≤ 140737488355328)
    (hK : ∀ v' w', w'.ownsRow 0 e size v' (n + m) (xs ++ news) → w.grownBy w' v.ownBlock → (∀ k, v'.ownBlock = some k → v.ownBlock = some k ∨ w.heap.size ≤ k) → K (a.put o.dst v') w') :
    if Region.wanted o (yielded ops a.tmps) = true then Oper.wp P o a w K Q else E := by
  have hw : Region.wanted o (yielded ops a.tmps) = true := by simp [Region.wanted, hg]
  rw [if_pos hw]
  obtain ⟨v', w', hrun, r1, r2, r3⟩ := own_append (P := P) w t o.type e i z size bytes h1 h2 h3 h4 h5 h6 h7 v n xs hown xv m news hsrc hl h1c b1 b2
  unfold Oper.wp
  simp [execOp, hop, resolve, invoke, builtin, hs, hx, hrun, Result.andThen]
  exact hK v' w' r1 r2 r3

/-- The same in a walk in the text's order. -/
theorem wpList_own_append {P : Program} {w : World} {ops : Array Oper} {rest : List Oper} {o : Oper} {a : Act} {Q : Exit → Act → World → Prop} (hgd : o.guard = none) (s x : Operand) (t : TypeId)
    (ho : o.op = .call { callee := .builtin .append, args := #[s, x], argTypes := #[t, t] })
    (e : TypeId) (i : TypeInfo) (z : Value) (size bytes : Nat) (h1 : P.underlying t = some (.slice e)) (h2 : P.info? e = some i) (h3 : i.zero = some z) (h4 : i.size = size) (h5 : i.bytes = bytes) (h6 : z.cells.size = size) (h7 : 0 < size)
    (v : Value) (n : Nat) (xs : List Value) (hs : a.eval s = v) (hown : w.ownsRow 0 e size v n xs)
    (xv : Value) (m : Nat) (news : List Value) (hx : a.eval x = xv) (hsrc : Source w xv m news) (hl : news.length = m * size) (h1c : ∀ u ∈ news, u.oneCell' = true)
    (b1 : n + m ≤ maxLen) (b2 : (n + m) * bytes ≤ 140737488355328)
    (h : ∀ v' w', w'.ownsRow 0 e size v' (n + m) (xs ++ news) → w.grownBy w' v.ownBlock → (∀ k, v'.ownBlock = some k → v.ownBlock = some k ∨ w.heap.size ≤ k) → wpList P ops Q rest (a.put o.dst v') w') : wpList P ops Q (o :: rest) a w :=
  wpList_plain hgd fun K hK => by
    obtain ⟨v', w', hr, r1, r2, r3⟩ := own_append (P := P) w t o.type e i z size bytes h1 h2 h3 h4 h5 h6 h7 v n xs hown xv m news hsrc hl h1c b1 b2
    unfold Oper.wp execOp
    simp only [ho, resolve, invoke, builtin, Sem.run_bind, Sem.run_pure, Result.andThen_ok, List.map_toArray, List.map_cons, List.map_nil, hs, hx, hr]
    exact hK _ _ (h v' w' r1 r2 r3)

/-- What a new block holds, cell by cell. -/
theorem cells_new (w : World) (cs : Array Value) (t : TypeId) : ∀ j u, cs.toList[j]? = some u → (w.alloc (.cells cs t)).cell? ((⟨w.heap.size, 0, none⟩ : Addr).add j) = some u := by
  intro j u hu
  have : (⟨w.heap.size, 0, none⟩ : Addr).add j = ⟨w.heap.size, j, none⟩ := by unfold Addr.add; split <;> simp_all
  rw [this, World.cell?_alloc_new]
  simpa using hu

/-! ### The arena -/

/-- The arena's own four cells at block p, and its two rows; the blocks of its two rows are sv's and vv's. -/
structure Raw (w : World) (p : Nat) (sv vv : Value) (room st : Int) (n : Nat) (xs : List Value) (m : Nat) (ys : List Value) : Prop where
  c0 : w.cell? ⟨p, 0, none⟩ = some (.int .i64 room)
  c1 : w.cell? ⟨p, 1, none⟩ = some (.int .i64 st)
  c2 : w.cell? ⟨p, 2, none⟩ = some sv
  c3 : w.cell? ⟨p, 3, none⟩ = some vv
  fr : ∀ j, w.frozen? ⟨p, j, none⟩ = false
  rs : w.ownsRow 0 71 3 sv n xs
  rv : w.ownsRow 0 3 1 vv m ys
  ns : sv.ownBlock ≠ some p
  nv : vv.ownBlock ≠ some p
  nn : ∀ k, sv.ownBlock = some k → vv.ownBlock ≠ some k

/-- The arena at block p: its room, its steps, its items. -/
structure ArenaIs (w : World) (p : Nat) (sv vv : Value) (room st : Int) (l : List It) : Prop extends Raw w p sv vv room st l.length (rowS 0 l) (flat l).length (rowV l) where
  ok : ∀ x ∈ l, ItOk x
  fits : (l.length : Int) ≤ room
  max : room ≤ 60000

def Foot (p : Nat) (sv vv : Value) (k : Nat) : Prop := k = p ∨ sv.ownBlock = some k ∨ vv.ownBlock = some k

/-- The arena at block p, all of whose blocks are among F. -/
def Arena (w : World) (p : Nat) (F : Nat → Prop) (room st : Int) (l : List It) : Prop :=
  ∃ sv vv, ArenaIs w p sv vv room st l ∧ ∀ k, Foot p sv vv k → F k

/-- F, and what is new. -/
def Plus (F : Nat → Prop) (w w' : World) (k : Nat) : Prop := F k ∨ (w.heap.size ≤ k ∧ k < w'.heap.size)

theorem setCell_grown (w : World) (p : Addr) (u : Value) : w.grownBy (w.setCell p u) (some p.block) :=
  ⟨rfl, rfl, rfl, by simp [World.setCell], fun k _ hk => Below.heap_setCell w p u k (fun e => hk (by rw [e]))⟩

section
variable {w w' : World} {p : Nat} {sv vv : Value} {F G : Nat → Prop} {room st : Int} {n m : Nat} {xs ys : List Value} {l : List It}

theorem Raw.lt (h : Raw w p sv vv room st n xs m ys) : ∀ k, Foot p sv vv k → k < w.heap.size := by
  intro k hk
  rcases hk with rfl | hk | hk
  · exact World.block_lt_of_cell? w _ h.c0
  · exact (h.rs.lt k hk).2
  · exact (h.rv.lt k hk).2

theorem Raw.only {S : Nat → Prop} (h : Raw w p sv vv room st n xs m ys) (o : Only S w w') (hS : ∀ k, Foot p sv vv k → ¬ S k) : Raw w' p sv vv room st n xs m ys :=
  ⟨o.cell h.c0 (hS _ (.inl rfl)), o.cell h.c1 (hS _ (.inl rfl)), o.cell h.c2 (hS _ (.inl rfl)), o.cell h.c3 (hS _ (.inl rfl)),
   fun j => (World.frozen?_of_block (a := ⟨p, j, none⟩) (o.block p (World.block_lt_of_cell? w _ h.c0) (hS _ (.inl rfl)))).trans (h.fr j),
   o.row h.rs (fun k hk => hS k (.inr (.inl hk))), o.row h.rv (fun k hk => hS k (.inr (.inr hk))), h.ns, h.nv, h.nn⟩

theorem Raw.below (h : Raw w p sv vv room st n xs m ys) (o : Below w.heap.size w w') : Raw w' p sv vv room st n xs m ys :=
  h.only (S := fun _ => False) (Only.ofBelow o) (fun _ _ => id)

/-- The step count put anew. -/
theorem Raw.setSt (h : Raw w p sv vv room st n xs m ys) (t : Int) : Raw (w.setCell ⟨p, 1, none⟩ (.int .i64 t)) p sv vv room t n xs m ys :=
  ⟨(World.cell?_setCell_other _ _ _ _ (by simp)).trans h.c0, World.cell?_setCell_same _ _ _ h.c1, (World.cell?_setCell_other _ _ _ _ (by simp)).trans h.c2, (World.cell?_setCell_other _ _ _ _ (by simp)).trans h.c3,
   fun j => (World.frozen?_setCell _ _ _ _).trans (h.fr j), h.rs.kept (setCell_grown w _ _) (.inr h.ns), h.rv.kept (setCell_grown w _ _) (.inr h.nv), h.ns, h.nv, h.nn⟩

/-- The slots put anew, in a world where they have grown. -/
theorem Raw.setS {sv' : Value} {n' : Nat} {xs' : List Value} (h : Raw w p sv vv room st n xs m ys) (hg : w.grownBy w' sv.ownBlock) (hr : w'.ownsRow 0 71 3 sv' n' xs') (hk : ∀ k, sv'.ownBlock = some k → sv.ownBlock = some k ∨ w.heap.size ≤ k) :
    Raw (w'.setCell ⟨p, 2, none⟩ sv') p sv' vv room st n' xs' m ys := by
  have hp := World.block_lt_of_cell? w _ h.c0
  have ns' : sv'.ownBlock ≠ some p := fun e => by
    rcases hk p e with e' | e'
    · exact h.ns e'
    · exact absurd hp (by dsimp only; omega)
  have hne : some p ≠ sv.ownBlock := fun e => h.ns e.symm
  refine ⟨(World.cell?_setCell_other _ _ _ _ (by simp)).trans (hg.cell h.c0 hne), (World.cell?_setCell_other _ _ _ _ (by simp)).trans (hg.cell h.c1 hne), World.cell?_setCell_same _ _ _ (hg.cell h.c2 hne),
    (World.cell?_setCell_other _ _ _ _ (by simp)).trans (hg.cell h.c3 hne), fun j => (World.frozen?_setCell _ _ _ _).trans ((World.frozen?_of_block (a := ⟨p, j, none⟩) (hg.block p hp hne)).trans (h.fr j)),
    hr.kept (setCell_grown w' _ _) (.inr ns'), ?_, ns', h.nv, fun k e e2 => ?_⟩
  · refine (h.rv.kept hg ?_).kept (setCell_grown w' _ _) (.inr h.nv)
    cases hv : vv.ownBlock with
    | none => exact .inl rfl
    | some k => exact .inr (fun e => h.nn k e.symm hv)
  · rcases hk k e with e' | e'
    · exact h.nn k e' e2
    · have := (h.rv.lt k e2).2
      omega

/-- The values put anew, in a world where they have grown. -/
theorem Raw.setV {vv' : Value} {m' : Nat} {ys' : List Value} (h : Raw w p sv vv room st n xs m ys) (hg : w.grownBy w' vv.ownBlock) (hr : w'.ownsRow 0 3 1 vv' m' ys') (hk : ∀ k, vv'.ownBlock = some k → vv.ownBlock = some k ∨ w.heap.size ≤ k) :
    Raw (w'.setCell ⟨p, 3, none⟩ vv') p sv vv' room st n xs m' ys' := by
  have hp := World.block_lt_of_cell? w _ h.c0
  have nv' : vv'.ownBlock ≠ some p := fun e => by
    rcases hk p e with e' | e'
    · exact h.nv e'
    · exact absurd hp (by dsimp only; omega)
  have hne : some p ≠ vv.ownBlock := fun e => h.nv e.symm
  refine ⟨(World.cell?_setCell_other _ _ _ _ (by simp)).trans (hg.cell h.c0 hne), (World.cell?_setCell_other _ _ _ _ (by simp)).trans (hg.cell h.c1 hne), (World.cell?_setCell_other _ _ _ _ (by simp)).trans (hg.cell h.c2 hne),
    World.cell?_setCell_same _ _ _ (hg.cell h.c3 hne), fun j => (World.frozen?_setCell _ _ _ _).trans ((World.frozen?_of_block (a := ⟨p, j, none⟩) (hg.block p hp hne)).trans (h.fr j)),
    ?_, hr.kept (setCell_grown w' _ _) (.inr nv'), h.ns, nv', fun k e e2 => ?_⟩
  · refine (h.rs.kept hg ?_).kept (setCell_grown w' _ _) (.inr h.ns)
    cases hv : sv.ownBlock with
    | none => exact .inl rfl
    | some k => exact .inr (fun e => h.nn k hv e.symm)
  · rcases hk k e2 with e' | e'
    · exact h.nn k e e'
    · have := (h.rs.lt k e).2
      omega

/-- The four cells where one of the two rows has grown. -/
theorem Raw.cells (h : Raw w p sv vv room st n xs m ys) {row : Option Nat} (hg : w.grownBy w' row) (hr : row ≠ some p) :
    w'.cell? ⟨p, 0, none⟩ = some (.int .i64 room) ∧ w'.cell? ⟨p, 1, none⟩ = some (.int .i64 st) ∧ w'.cell? ⟨p, 2, none⟩ = some sv ∧ w'.cell? ⟨p, 3, none⟩ = some vv ∧ (∀ j, w'.frozen? ⟨p, j, none⟩ = false) ∧ p < w'.heap.size := by
  have hp := World.block_lt_of_cell? w _ h.c0
  have hne : some p ≠ row := fun e => hr e.symm
  exact ⟨hg.cell h.c0 hne, hg.cell h.c1 hne, hg.cell h.c2 hne, hg.cell h.c3 hne, fun j => (World.frozen?_of_block (a := ⟨p, j, none⟩) (hg.block p hp hne)).trans (h.fr j), Nat.lt_of_lt_of_le hp hg.size⟩

theorem ArenaIs.lt (h : ArenaIs w p sv vv room st l) : ∀ k, Foot p sv vv k → k < w.heap.size := h.toRaw.lt
theorem ArenaIs.only {S : Nat → Prop} (h : ArenaIs w p sv vv room st l) (o : Only S w w') (hS : ∀ k, Foot p sv vv k → ¬ S k) : ArenaIs w' p sv vv room st l :=
  ⟨h.toRaw.only o hS, h.ok, h.fits, h.max⟩
theorem ArenaIs.below (h : ArenaIs w p sv vv room st l) (o : Below w.heap.size w w') : ArenaIs w' p sv vv room st l := ⟨h.toRaw.below o, h.ok, h.fits, h.max⟩
theorem ArenaIs.setSt (h : ArenaIs w p sv vv room st l) (t : Int) : ArenaIs (w.setCell ⟨p, 1, none⟩ (.int .i64 t)) p sv vv room t l := ⟨h.toRaw.setSt t, h.ok, h.fits, h.max⟩

/-- A cell's value put anew. -/
theorem ArenaIs.setVal {g cap : Nat} (h : ArenaIs w p sv (.slice (some ⟨g, 0, none⟩) (flat l).length cap) room st l) (i : Nat) (u v : Int) (hi : l[i]? = some (0, [u])) :
    ArenaIs (w.setCell ⟨g, fst l i, none⟩ (.int .i64 v)) p sv (.slice (some ⟨g, 0, none⟩) (flat l).length cap) room st (l.set i (0, [v])) := by
  have hgp : g ≠ p := fun e => h.nv (by rw [← e]; rfl)
  have hpp := World.block_lt_of_cell? w _ h.c0
  have hr := (h.rv.stored (fst l i) (.int .i64 v)).1
  have hl : (flat (l.set i (0, [v]))).length = (flat l).length := by
    rw [← rowV_len, ← rowV_len, rowV_set l i (0, [u]) 0 v u hi rfl, List.length_set]
  refine ⟨⟨(World.cell?_setCell_other _ _ _ _ (by simp [hgp])).trans h.c0, (World.cell?_setCell_other _ _ _ _ (by simp [hgp])).trans h.c1, (World.cell?_setCell_other _ _ _ _ (by simp [hgp])).trans h.c2, (World.cell?_setCell_other _ _ _ _ (by simp [hgp])).trans h.c3,
   fun j => (World.frozen?_setCell _ _ _ _).trans (h.fr j), ?_, ?_, h.ns, h.nv, h.nn⟩, ?_, by simpa using h.fits, h.max⟩
  · rw [List.length_set, rowS_set l 0 i (0, [u]) (0, [v]) hi rfl rfl]
    exact h.rs.kept (setCell_grown w _ _) (.inr (fun e => h.nn g e rfl))
  · rw [hl, rowV_set l i (0, [u]) 0 v u hi rfl]
    exact hr
  · intro x hx
    rcases List.mem_or_eq_of_mem_set hx with hx | rfl
    · exact h.ok x hx
    · exact ⟨Int.le_refl _, by simp, fun _ => ⟨v, rfl⟩⟩

theorem row_form {base : Nat} {e : TypeId} {size n : Nat} {v : Value} {xs : List Value} (h : w.ownsRow base e size v n xs) : ∃ ao cap, v = .slice ao n cap ∧ n ≤ cap ∧ cap ≤ maxLen := by
  rcases h.2 with ⟨rfl, rfl⟩ | ⟨g, cap, cur, rfl, _, _, hn, hm, _⟩
  · exact ⟨none, 0, rfl, Nat.le_refl _, Nat.zero_le _⟩
  · exact ⟨some ⟨g, 0, none⟩, cap, rfl, hn, hm⟩

/-- A row that is not empty lies in a block. -/
theorem row_at {base : Nat} {e : TypeId} {size n : Nat} {v : Value} {xs : List Value} (h : w.ownsRow base e size v n xs) (hn : 0 < n) :
    ∃ g cap, v = .slice (some ⟨g, 0, none⟩) n cap ∧ n ≤ cap ∧ cap ≤ maxLen ∧ ∀ j, w.frozen? ⟨g, j, none⟩ = false := by
  rcases h.2 with ⟨rfl, rfl⟩ | ⟨g, cap, cur, rfl, _, hg, hc, hm, _⟩
  · omega
  · exact ⟨g, cap, rfl, hc, hm, h.frozenAt⟩

theorem Arena.lt (h : Arena w p F room st l) : p < w.heap.size := by
  obtain ⟨sv, vv, h, _⟩ := h
  exact h.lt p (.inl rfl)
theorem Arena.own (h : Arena w p F room st l) : F p := by
  obtain ⟨sv, vv, h, hf⟩ := h
  exact hf p (.inl rfl)
theorem Arena.mono (h : Arena w p F room st l) (hG : ∀ k, F k → k < w.heap.size → G k) : Arena w p G room st l := by
  obtain ⟨sv, vv, h, hf⟩ := h
  exact ⟨sv, vv, h, fun k hk => hG k (hf k hk) (h.lt k hk)⟩
theorem Arena.only {S : Nat → Prop} (h : Arena w p F room st l) (o : Only S w w') (hS : ∀ k, F k → k < w.heap.size → ¬ S k) : Arena w' p F room st l := by
  obtain ⟨sv, vv, h, hf⟩ := h
  exact ⟨sv, vv, h.only o (fun k hk => hS k (hf k hk) (h.lt k hk)), hf⟩
theorem Arena.below (h : Arena w p F room st l) (o : Below w.heap.size w w') : Arena w' p F room st l := by
  obtain ⟨sv, vv, h, hf⟩ := h
  exact ⟨sv, vv, h.below o, hf⟩
theorem Arena.ok (h : Arena w p F room st l) : (∀ x ∈ l, ItOk x) ∧ (l.length : Int) ≤ room ∧ room ≤ 60000 := by
  obtain ⟨sv, vv, h, _⟩ := h
  exact ⟨h.ok, h.fits, h.max⟩
end
end Go.Proofs.Ytmbeaefgakfbnaa
