/- What is known of an arena in memory: its items, its two rows, which blocks are its own; and the plain mathematics of these rows. No condition: definitions and lemmas. Contracts of the arena's small functions: New, Used, Room, Steps, at. Contracts of the arena's readings: at, Kind, Val, step. Contracts of the arena's steps: step, Load, Swap, Once. Contracts of the arena's makings: add, Make, Cell. Contracts of the arena's makings: Make, Cell. An arena that a law holds since the world w0: all its blocks are new since then, and nothing older has turned; each call of the arena in these words. -/
import Derived.Test.YtbmlpdkbiipcmaaRows
import Derived.Below
import Derived.Laws.OwnMore
import Derived.Deep.RegionLaw
import Derived.Deep.Draws
import Derived.Lib.Hide
import Derived.LoopTactic
import Derived.WalkKit
import Derived.ProofKit
import Derived.Deep.QuietTactic
import Derived.BigQuiet
import Derived.Calls
import Derived.IntWalk
import Derived.RegionTactic
import Derived.ChangeAlike
namespace Go.Proofs.Ytbmlpdkbiipcmaa
open Go.RowKit
set_option linter.all false

/-! ### The plain mathematics -/

/-- An item: its kind (0: a cell), its values. -/
abbrev It := Int × List Int

/-- The row of slots: kind, where its values begin, how many. -/
def rowS : Nat → List It → List Value
  | _, [] => []
  | f, x :: l => .int .i64 x.1 :: .int .i64 (f : Int) :: .int .i64 (x.2.length : Int) :: rowS (f + x.2.length) l

def flat : List It → List Int
  | [] => []
  | x :: l => x.2 ++ flat l

/-- The row of values. -/
def rowV (l : List It) : List Value := (flat l).map (Value.int .i64)

theorem flat_app (a b : List It) : flat (a ++ b) = flat a ++ flat b := by
  induction a with
  | nil => rfl
  | cons x a ih => simp [flat, ih]

theorem rowS_len (l : List It) : ∀ f, (rowS f l).length = l.length * 3 := by
  induction l with
  | nil => intro f; rfl
  | cons x l ih => intro f; simp only [rowS, List.length_cons, ih]; omega

theorem rowS_snoc (l : List It) (x : It) : ∀ f, rowS f (l ++ [x]) = rowS f l ++ [.int .i64 x.1, .int .i64 ((f + (flat l).length : Nat) : Int), .int .i64 (x.2.length : Int)] := by
  induction l with
  | nil => intro f; simp [rowS, flat]
  | cons y l ih => intro f; simp only [List.cons_append, rowS, ih, flat, List.length_append]; simp [Nat.add_assoc]

theorem rowV_snoc (l : List It) (x : It) : rowV (l ++ [x]) = rowV l ++ x.2.map (Value.int .i64) := by
  simp [rowV, flat_app, flat]

theorem rowV_len (l : List It) : (rowV l).length = (flat l).length := by simp [rowV]

/-- Where the values of item i begin. -/
def fst (l : List It) (i : Nat) : Nat := (flat (l.take i)).length

theorem rowS_get (l : List It) : ∀ (f i : Nat) (x : It), l[i]? = some x →
    (rowS f l)[i * 3]? = some (.int .i64 x.1) ∧ (rowS f l)[i * 3 + 1]? = some (.int .i64 ((f + fst l i : Nat) : Int)) ∧ (rowS f l)[i * 3 + 2]? = some (.int .i64 (x.2.length : Int)) := by
  induction l with
  | nil => intro f i x h; simp at h
  | cons y l ih =>
    intro f i x h
    cases i with
    | zero =>
      simp only [List.getElem?_cons_zero, Option.some.injEq] at h
      subst h
      simp [rowS, fst, flat]
    | succ i =>
      simp only [List.getElem?_cons_succ] at h
      have := ih (f + y.2.length) i x h
      have e : (i + 1) * 3 = i * 3 + 1 + 1 + 1 := by omega
      have e2 : (i + 1) * 3 + 1 = (i * 3 + 1) + 1 + 1 + 1 := by omega
      have e3 : (i + 1) * 3 + 2 = (i * 3 + 2) + 1 + 1 + 1 := by omega
      rw [e3, e2, e]
      simp only [rowS, List.getElem?_cons_succ]
      refine ⟨this.1, ?_, this.2.2⟩
      rw [this.2.1]
      simp [fst, flat]
      omega

theorem flat_split (l : List It) (i : Nat) (x : It) (h : l[i]? = some x) : flat l = flat (l.take i) ++ (x.2 ++ flat (l.drop (i + 1))) := by
  obtain ⟨hi, hx⟩ := List.getElem?_eq_some_iff.1 h
  conv => lhs; rw [← List.take_append_drop i l, List.drop_eq_getElem_cons hi, hx]
  rw [flat_app]; rfl

theorem flat_get (l : List It) (i : Nat) (x : It) (h : l[i]? = some x) (j : Nat) (hj : j < x.2.length) : (flat l)[fst l i + j]? = x.2[j]? := by
  rw [flat_split l i x h, List.getElem?_append_right (by unfold fst; omega)]
  rw [show fst l i + j - (flat (l.take i)).length = j by unfold fst; omega]
  exact List.getElem?_append_left hj

theorem fst_le (l : List It) (i : Nat) (x : It) (h : l[i]? = some x) : fst l i + x.2.length ≤ (flat l).length := by
  rw [flat_split l i x h]; simp [fst]

theorem rowV_get (l : List It) (i : Nat) (x : It) (h : l[i]? = some x) (j : Nat) (hj : j < x.2.length) : (rowV l)[fst l i + j]? = some (.int .i64 (x.2.getD j 0)) := by
  unfold rowV
  rw [List.getElem?_map, flat_get l i x h j hj, List.getElem?_eq_getElem hj]
  simp [List.getD, List.getElem?_eq_getElem hj]

/-- A cell's value put anew: its row of slots is as it was. -/
theorem rowS_set (l : List It) : ∀ (f i : Nat) (x y : It), l[i]? = some x → y.1 = x.1 → y.2.length = x.2.length → rowS f (l.set i y) = rowS f l := by
  induction l with
  | nil => intro f i x y h; simp at h
  | cons z l ih =>
    intro f i x y h h1 h2
    cases i with
    | zero =>
      simp only [List.getElem?_cons_zero, Option.some.injEq] at h
      subst h
      simp [rowS, h1, h2]
    | succ i =>
      simp only [List.getElem?_cons_succ] at h
      simp [rowS, ih _ i x y h h1 h2]

theorem rowV_set (l : List It) : ∀ (i : Nat) (x : It) (k : Int) (v u : Int), l[i]? = some x → x.2 = [u] → rowV (l.set i (k, [v])) = (rowV l).set (fst l i) (.int .i64 v) := by
  induction l with
  | nil => intro i x k v u h; simp at h
  | cons z l ih =>
    intro i x k v u h hx
    cases i with
    | zero =>
      simp only [List.getElem?_cons_zero, Option.some.injEq] at h
      subst h
      simp [rowV, flat, fst, hx]
    | succ i =>
      simp only [List.getElem?_cons_succ] at h
      have := ih i x k v u h hx
      unfold rowV at this ⊢
      simp only [List.set_cons_succ, flat, List.map_append, this, fst, List.take_succ_cons, List.length_append]
      rw [List.set_append_right _ _ (by simp)]
      simp

/-- What may be an item. -/
def ItOk (x : It) : Prop := 0 ≤ x.1 ∧ x.2.length ≤ 12 ∧ (x.1 = 0 → ∃ u, x.2 = [u])

theorem flat_small (l : List It) (h : ∀ x ∈ l, ItOk x) : (flat l).length ≤ 12 * l.length := by
  induction l with
  | nil => simp [flat]
  | cons x l ih =>
    have h1 := (h x (by simp)).2.1
    have h2 := ih (fun y hy => h y (by simp [hy]))
    simp only [flat, List.length_append, List.length_cons]
    omega

theorem below_drewN {B : Nat} {a w : World} (h : Below B a w) (n : Nat) : Below B a (w.drewN n) := ⟨h.os, h.tape, h.output, h.size, h.block⟩

/-! ### Only these blocks have turned -/

structure Only (S : Nat → Prop) (w w' : World) : Prop where
  os : w'.os = w.os
  tape : w'.tape = w.tape
  output : w'.output = w.output
  size : w.heap.size ≤ w'.heap.size
  block : ∀ k, k < w.heap.size → ¬ S k → w'.heap[k]? = w.heap[k]?

section
variable {S T : Nat → Prop} {a b w w' : World}

theorem Only.refl (S : Nat → Prop) (w : World) : Only S w w := ⟨rfl, rfl, rfl, Nat.le_refl _, fun _ _ _ => rfl⟩
theorem Only.trans (h : Only S a b) (k : Only T b w) (hT : ∀ i, T i → i < a.heap.size → S i) : Only S a w :=
  ⟨k.os.trans h.os, k.tape.trans h.tape, k.output.trans h.output, Nat.le_trans h.size k.size, fun i hi hn =>
    (k.block i (Nat.lt_of_lt_of_le hi h.size) (fun ht => hn (hT i ht hi))).trans (h.block i hi hn)⟩
theorem Only.mono (h : Only S a b) (hT : ∀ i, S i → i < a.heap.size → T i) : Only T a b :=
  ⟨h.os, h.tape, h.output, h.size, fun i hi hn => h.block i hi (fun hs => hn (hT i hs hi))⟩
theorem Only.drew (h : Only S a b) : Only S a b.drew := ⟨h.os, h.tape, h.output, h.size, h.block⟩
theorem Only.drewN (h : Only S a b) (n : Nat) : Only S a (b.drewN n) := ⟨h.os, h.tape, h.output, h.size, h.block⟩
theorem Only.alloc (h : Only S a b) (o : Obj) : Only S a (b.alloc o) :=
  ⟨h.os, h.tape, h.output, Nat.le_trans h.size (by simp), fun i hi hn => (Below.heap_alloc b o i (Nat.lt_of_lt_of_le hi h.size)).trans (h.block i hi hn)⟩
theorem Only.setCell (h : Only S a b) {p : Addr} (hp : S p.block ∨ a.heap.size ≤ p.block) (u : Value) : Only S a (b.setCell p u) :=
  ⟨h.os, h.tape, h.output, by simpa [World.setCell] using h.size, fun i hi hn => (Below.heap_setCell b p u i (by
    rintro rfl
    rcases hp with hp | hp
    · exact hn hp
    · omega)).trans (h.block i hi hn)⟩
theorem Only.grown {row : Option Nat} (h : Only S a b) (hg : b.grownBy w row) (hr : ∀ k, row = some k → k < a.heap.size → S k) : Only S a w :=
  ⟨hg.os.trans h.os, hg.tape.trans h.tape, hg.output.trans h.output, Nat.le_trans h.size hg.size, fun i hi hn =>
    (hg.block i (Nat.lt_of_lt_of_le hi h.size) (fun e => hn (hr i e.symm hi))).trans (h.block i hi hn)⟩
theorem Only.below (h : Only S a b) {B : Nat} (hS : ∀ i, S i → B ≤ i) (hB : B ≤ a.heap.size) : Below B a b :=
  ⟨h.os, h.tape, h.output, h.size, fun i hi => h.block i (by omega) (fun hs => by have := hS i hs; omega)⟩
theorem Only.ofBelow (h : Below a.heap.size a b) : Only S a b := ⟨h.os, h.tape, h.output, h.size, fun i hi _ => h.block i hi⟩
theorem Only.cell (h : Only S a b) {p : Addr} {v : Value} (hc : a.cell? p = some v) (hp : ¬ S p.block) : b.cell? p = some v :=
  (World.cell?_of_block (h.block p.block (World.block_lt_of_cell? a p hc) hp)).trans hc
theorem Only.row (h : Only S a b) {base : Nat} {e : TypeId} {size : Nat} {v : Value} {n : Nat} {xs : List Value} (ho : a.ownsRow base e size v n xs) (hp : ∀ k, v.ownBlock = some k → ¬ S k) : b.ownsRow base e size v n xs := by
  refine ⟨ho.1, ?_⟩
  rcases ho.2 with hn | ⟨g, cap, cur, rfl, hb, hgg, rest⟩
  · exact .inl hn
  · refine .inr ⟨g, cap, cur, rfl, hb, ?_, rest⟩
    rw [h.block g (Array.getElem?_eq_some_iff.1 hgg).1 (hp g rfl)]
    exact hgg
end

/-! ### An append onto a row of one's own: where the new row lies -/

/-- What is appended: nothing, by a nil slice; or the cells behind an address. -/
def Source (w : World) (x : Value) (m : Nat) (news : List Value) : Prop :=
  (x = .slice none 0 0 ∧ m = 0 ∧ news = []) ∨ ∃ ad c, x = .slice (some ad) m c ∧ ∀ j u, news[j]? = some u → w.cell? (ad.add j) = some u

theorem own_append {P : Program} (w : World) (t ty e : TypeId) (i : TypeInfo) (z : Value) (size bytes : Nat) (ht : P.underlying t = some (.slice e)) (hi : P.info? e = some i) (hz : i.zero = some z)
    (hsize : i.size = size) (hby : i.bytes = bytes) (hzs : z.cells.size = size) (hsz : 0 < size)
    (v : Value) (n : Nat) (xs : List Value) (hown : w.ownsRow 0 e size v n xs)
    (x : Value) (m : Nat) (news : List Value) (hx : Source w x m news) (hl : news.length = m * size) (h1 : ∀ u ∈ news, u.oneCell' = true)
    (h63 : n + m ≤ maxLen) (hbytes : (n + m) * bytes ≤ 140737488355328) :
    ∃ v' w', (Builtin.append_ #[t, t] ty #[v, x]).run P w = .ok v' w' ∧ w'.ownsRow 0 e size v' (n + m) (xs ++ news) ∧ w.grownBy w' v.ownBlock ∧
      ∀ k, v'.ownBlock = some k → v.ownBlock = some k ∨ w.heap.size ≤ k := by
  rcases hx with ⟨rfl, rfl, rfl⟩ | ⟨ad, c, rfl, hnews⟩
  · exact ⟨v, w, run_append_owned_none w 0 t ty e i size ht hi v n xs hown, by simpa using hown, ⟨rfl, rfl, rfl, Nat.le_refl _, fun _ _ _ => rfl⟩, fun k hk => .inl hk⟩
  · rcases hown.2 with ⟨rfl, rfl⟩ | ⟨g, cap, cur, rfl, _, hg, hnc, hcm, hcs, htake⟩
    · obtain rfl : xs = [] := List.eq_nil_of_length_eq_zero (by simpa using hown.1)
      obtain ⟨v', w', hrun, r1, r2, _⟩ := run_append_own (P := P) w w.heap.size t ty e i z size bytes ht hi hz hsize hby hzs hsz (.slice none 0 0) 0 [] (World.ownsRow_nil w _ e size) ad m c news hl hnews h1 h63 hbytes (Nat.le_refl _)
      refine ⟨v', w', hrun, ?_, r2, fun k hk => .inr (r1.lt k hk).1⟩
      exact ⟨r1.1, r1.2.imp id fun ⟨g, cap, cur, a1, a2, a3⟩ => ⟨g, cap, cur, a1, Nat.zero_le _, a3⟩⟩
    · by_cases hroom : n + m ≤ cap
      · obtain ⟨w', hrun, r1, r2⟩ := run_append_fits (P := P) w 0 t ty e i size ht hi hsize g n cap xs hown ad m c news hl hnews h1 hroom
        exact ⟨_, w', hrun, r1, r2, fun k hk => .inl hk⟩
      · obtain ⟨v', w', hrun, r1, r2⟩ := run_append_arg_grows (P := P) w t ty e i z size bytes ht hi hz hsize hby hzs hsz ⟨g, 0, none⟩ n cap xs hown.1 (hown.cells (g := g) rfl) ad m c news hl hnews (by omega) h63 hbytes
        refine ⟨v', w', hrun, ?_, ⟨r2.os, r2.tape, r2.output, r2.size, fun k hk _ => r2.block k hk (by simp)⟩, fun k hk => .inr (r1.lt k hk).1⟩
        exact ⟨r1.1, r1.2.imp id fun ⟨g, cap, cur, a1, a2, a3⟩ => ⟨g, cap, cur, a1, Nat.zero_le _, a3⟩⟩

/-- The same as one step of a region that draws its order. -/
theorem step_own_append {P : Program} {ops : Array Oper} {o : Oper} {a : Act} {w : World} {K : Act → World → Prop} {Q : Exit → Act → World → Prop} {E : Prop}
    (hg : o.guard = none) (s x : Operand) (t : TypeId) (hop : o.op = Op.call { callee := Callee.builtin Builtin.append, args := #[s, x], argTypes := #[t, t] })
    (e : TypeId) (i : TypeInfo) (z : Value) (size bytes : Nat) (h1 : P.underlying t = some (.slice e)) (h2 : P.info? e = some i) (h3 : i.zero = some z) (h4 : i.size = size) (h5 : i.bytes = bytes) (h6 : z.cells.size = size) (h7 : 0 < size)
    (v : Value) (n : Nat) (xs : List Value) (hs : a.eval s = v) (hown : w.ownsRow 0 e size v n xs)
    (xv : Value) (m : Nat) (news : List Value) (hx : a.eval x = xv) (hsrc : Source w xv m news) (hl : news.length = m * size) (h1c : ∀ u ∈ news, u.oneCell' = true)
    (b1 : n + m ≤ maxLen) (b2 : (n + m) * bytes ≤ 140737488355328)
    (hK : ∀ v' w', w'.ownsRow 0 e size v' (n + m) (xs ++ news) → w.grownBy w' v.ownBlock → (∀ k, v'.ownBlock = some k → v.ownBlock = some k ∨ w.heap.size ≤ k) → K (a.put o.dst v') w') :
    if Region.wanted o (yielded ops a.tmps) = true then Oper.wp P o a w K Q else E := by
  have hw : Region.wanted o (yielded ops a.tmps) = true := by simp [Region.wanted, hg]
  rw [if_pos hw]
  obtain ⟨v', w', hrun, r1, r2, r3⟩ := own_append (P := P) w t o.type e i z size bytes h1 h2 h3 h4 h5 h6 h7 v n xs hown xv m news hsrc hl h1c b1 b2
  unfold Oper.wp
  simp [execOp, hop, resolve, invoke, builtin, hs, hx, hrun, Result.andThen]
  exact hK v' w' r1 r2 r3

/-- The same in a walk in the text's order. -/
theorem wpList_own_append {P : Program} {w : World} {ops : Array Oper} {rest : List Oper} {o : Oper} {a : Act} {Q : Exit → Act → World → Prop} (hgd : o.guard = none) (s x : Operand) (t : TypeId)
    (ho : o.op = .call { callee := .builtin .append, args := #[s, x], argTypes := #[t, t] })
    (e : TypeId) (i : TypeInfo) (z : Value) (size bytes : Nat) (h1 : P.underlying t = some (.slice e)) (h2 : P.info? e = some i) (h3 : i.zero = some z) (h4 : i.size = size) (h5 : i.bytes = bytes) (h6 : z.cells.size = size) (h7 : 0 < size)
    (v : Value) (n : Nat) (xs : List Value) (hs : a.eval s = v) (hown : w.ownsRow 0 e size v n xs)
    (xv : Value) (m : Nat) (news : List Value) (hx : a.eval x = xv) (hsrc : Source w xv m news) (hl : news.length = m * size) (h1c : ∀ u ∈ news, u.oneCell' = true)
    (b1 : n + m ≤ maxLen) (b2 : (n + m) * bytes ≤ 140737488355328)
    (h : ∀ v' w', w'.ownsRow 0 e size v' (n + m) (xs ++ news) → w.grownBy w' v.ownBlock → (∀ k, v'.ownBlock = some k → v.ownBlock = some k ∨ w.heap.size ≤ k) → wpList P ops Q rest (a.put o.dst v') w') : wpList P ops Q (o :: rest) a w :=
  wpList_plain hgd fun K hK => by
    obtain ⟨v', w', hr, r1, r2, r3⟩ := own_append (P := P) w t o.type e i z size bytes h1 h2 h3 h4 h5 h6 h7 v n xs hown xv m news hsrc hl h1c b1 b2
    unfold Oper.wp execOp
    simp only [ho, resolve, invoke, builtin, Sem.run_bind, Sem.run_pure, Result.andThen_ok, List.map_toArray, List.map_cons, List.map_nil, hs, hx, hr]
    exact hK _ _ (h v' w' r1 r2 r3)

/-- What a new block holds, cell by cell. -/
theorem cells_new (w : World) (cs : Array Value) (t : TypeId) : ∀ j u, cs.toList[j]? = some u → (w.alloc (.cells cs t)).cell? ((⟨w.heap.size, 0, none⟩ : Addr).add j) = some u := by
  intro j u hu
  have : (⟨w.heap.size, 0, none⟩ : Addr).add j = ⟨w.heap.size, j, none⟩ := by unfold Addr.add; split <;> simp_all
  rw [this, World.cell?_alloc_new]
  simpa using hu

/-! ### The arena -/

/-- The arena's own four cells at block p, and its two rows; the blocks of its two rows are sv's and vv's. -/
structure Raw (w : World) (p : Nat) (sv vv : Value) (room st : Int) (n : Nat) (xs : List Value) (m : Nat) (ys : List Value) : Prop where
  c0 : w.cell? ⟨p, 0, none⟩ = some (.int .i64 room)
  c1 : w.cell? ⟨p, 1, none⟩ = some (.int .i64 st)
  c2 : w.cell? ⟨p, 2, none⟩ = some sv
  c3 : w.cell? ⟨p, 3, none⟩ = some vv
  fr : ∀ j, w.frozen? ⟨p, j, none⟩ = false
  rs : w.ownsRow 0 90 3 sv n xs
  rv : w.ownsRow 0 3 1 vv m ys
  ns : sv.ownBlock ≠ some p
  nv : vv.ownBlock ≠ some p
  nn : ∀ k, sv.ownBlock = some k → vv.ownBlock ≠ some k

/-- The arena at block p: its room, its steps, its items. -/
structure ArenaIs (w : World) (p : Nat) (sv vv : Value) (room st : Int) (l : List It) : Prop extends Raw w p sv vv room st l.length (rowS 0 l) (flat l).length (rowV l) where
  ok : ∀ x ∈ l, ItOk x
  fits : (l.length : Int) ≤ room
  max : room ≤ 60000

def Foot (p : Nat) (sv vv : Value) (k : Nat) : Prop := k = p ∨ sv.ownBlock = some k ∨ vv.ownBlock = some k

/-- The arena at block p, all of whose blocks are among F. -/
def Arena (w : World) (p : Nat) (F : Nat → Prop) (room st : Int) (l : List It) : Prop :=
  ∃ sv vv, ArenaIs w p sv vv room st l ∧ ∀ k, Foot p sv vv k → F k

/-- F, and what is new. -/
def Plus (F : Nat → Prop) (w w' : World) (k : Nat) : Prop := F k ∨ (w.heap.size ≤ k ∧ k < w'.heap.size)

theorem setCell_grown (w : World) (p : Addr) (u : Value) : w.grownBy (w.setCell p u) (some p.block) :=
  ⟨rfl, rfl, rfl, by simp [World.setCell], fun k _ hk => Below.heap_setCell w p u k (fun e => hk (by rw [e]))⟩

section
variable {w w' : World} {p : Nat} {sv vv : Value} {F G : Nat → Prop} {room st : Int} {n m : Nat} {xs ys : List Value} {l : List It}

theorem Raw.lt (h : Raw w p sv vv room st n xs m ys) : ∀ k, Foot p sv vv k → k < w.heap.size := by
  intro k hk
  rcases hk with rfl | hk | hk
  · exact World.block_lt_of_cell? w _ h.c0
  · exact (h.rs.lt k hk).2
  · exact (h.rv.lt k hk).2

theorem Raw.only {S : Nat → Prop} (h : Raw w p sv vv room st n xs m ys) (o : Only S w w') (hS : ∀ k, Foot p sv vv k → ¬ S k) : Raw w' p sv vv room st n xs m ys :=
  ⟨o.cell h.c0 (hS _ (.inl rfl)), o.cell h.c1 (hS _ (.inl rfl)), o.cell h.c2 (hS _ (.inl rfl)), o.cell h.c3 (hS _ (.inl rfl)),
   fun j => (World.frozen?_of_block (a := ⟨p, j, none⟩) (o.block p (World.block_lt_of_cell? w _ h.c0) (hS _ (.inl rfl)))).trans (h.fr j),
   o.row h.rs (fun k hk => hS k (.inr (.inl hk))), o.row h.rv (fun k hk => hS k (.inr (.inr hk))), h.ns, h.nv, h.nn⟩

theorem Raw.below (h : Raw w p sv vv room st n xs m ys) (o : Below w.heap.size w w') : Raw w' p sv vv room st n xs m ys :=
  h.only (S := fun _ => False) (Only.ofBelow o) (fun _ _ => id)

/-- The step count put anew. -/
theorem Raw.setSt (h : Raw w p sv vv room st n xs m ys) (t : Int) : Raw (w.setCell ⟨p, 1, none⟩ (.int .i64 t)) p sv vv room t n xs m ys :=
  ⟨(World.cell?_setCell_other _ _ _ _ (by simp)).trans h.c0, World.cell?_setCell_same _ _ _ h.c1, (World.cell?_setCell_other _ _ _ _ (by simp)).trans h.c2, (World.cell?_setCell_other _ _ _ _ (by simp)).trans h.c3,
   fun j => (World.frozen?_setCell _ _ _ _).trans (h.fr j), h.rs.kept (setCell_grown w _ _) (.inr h.ns), h.rv.kept (setCell_grown w _ _) (.inr h.nv), h.ns, h.nv, h.nn⟩

/-- The slots put anew, in a world where they have grown. -/
theorem Raw.setS {sv' : Value} {n' : Nat} {xs' : List Value} (h : Raw w p sv vv room st n xs m ys) (hg : w.grownBy w' sv.ownBlock) (hr : w'.ownsRow 0 90 3 sv' n' xs') (hk : ∀ k, sv'.ownBlock = some k → sv.ownBlock = some k ∨ w.heap.size ≤ k) :
    Raw (w'.setCell ⟨p, 2, none⟩ sv') p sv' vv room st n' xs' m ys := by
  have hp := World.block_lt_of_cell? w _ h.c0
  have ns' : sv'.ownBlock ≠ some p := fun e => by
    rcases hk p e with e' | e'
    · exact h.ns e'
    · exact absurd hp (by dsimp only; omega)
  have hne : some p ≠ sv.ownBlock := fun e => h.ns e.symm
  refine ⟨(World.cell?_setCell_other _ _ _ _ (by simp)).trans (hg.cell h.c0 hne), (World.cell?_setCell_other _ _ _ _ (by simp)).trans (hg.cell h.c1 hne), World.cell?_setCell_same _ _ _ (hg.cell h.c2 hne),
    (World.cell?_setCell_other _ _ _ _ (by simp)).trans (hg.cell h.c3 hne), fun j => (World.frozen?_setCell _ _ _ _).trans ((World.frozen?_of_block (a := ⟨p, j, none⟩) (hg.block p hp hne)).trans (h.fr j)),
    hr.kept (setCell_grown w' _ _) (.inr ns'), ?_, ns', h.nv, fun k e e2 => ?_⟩
  · refine (h.rv.kept hg ?_).kept (setCell_grown w' _ _) (.inr h.nv)
    cases hv : vv.ownBlock with
    | none => exact .inl rfl
    | some k => exact .inr (fun e => h.nn k e.symm hv)
  · rcases hk k e with e' | e'
    · exact h.nn k e' e2
    · have := (h.rv.lt k e2).2
      omega

/-- The values put anew, in a world where they have grown. -/
theorem Raw.setV {vv' : Value} {m' : Nat} {ys' : List Value} (h : Raw w p sv vv room st n xs m ys) (hg : w.grownBy w' vv.ownBlock) (hr : w'.ownsRow 0 3 1 vv' m' ys') (hk : ∀ k, vv'.ownBlock = some k → vv.ownBlock = some k ∨ w.heap.size ≤ k) :
    Raw (w'.setCell ⟨p, 3, none⟩ vv') p sv vv' room st n xs m' ys' := by
  have hp := World.block_lt_of_cell? w _ h.c0
  have nv' : vv'.ownBlock ≠ some p := fun e => by
    rcases hk p e with e' | e'
    · exact h.nv e'
    · exact absurd hp (by dsimp only; omega)
  have hne : some p ≠ vv.ownBlock := fun e => h.nv e.symm
  refine ⟨(World.cell?_setCell_other _ _ _ _ (by simp)).trans (hg.cell h.c0 hne), (World.cell?_setCell_other _ _ _ _ (by simp)).trans (hg.cell h.c1 hne), (World.cell?_setCell_other _ _ _ _ (by simp)).trans (hg.cell h.c2 hne),
    World.cell?_setCell_same _ _ _ (hg.cell h.c3 hne), fun j => (World.frozen?_setCell _ _ _ _).trans ((World.frozen?_of_block (a := ⟨p, j, none⟩) (hg.block p hp hne)).trans (h.fr j)),
    ?_, hr.kept (setCell_grown w' _ _) (.inr nv'), h.ns, nv', fun k e e2 => ?_⟩
  · refine (h.rs.kept hg ?_).kept (setCell_grown w' _ _) (.inr h.ns)
    cases hv : sv.ownBlock with
    | none => exact .inl rfl
    | some k => exact .inr (fun e => h.nn k hv e.symm)
  · rcases hk k e2 with e' | e'
    · exact h.nn k e e'
    · have := (h.rs.lt k e).2
      omega

/-- The four cells where one of the two rows has grown. -/
theorem Raw.cells (h : Raw w p sv vv room st n xs m ys) {row : Option Nat} (hg : w.grownBy w' row) (hr : row ≠ some p) :
    w'.cell? ⟨p, 0, none⟩ = some (.int .i64 room) ∧ w'.cell? ⟨p, 1, none⟩ = some (.int .i64 st) ∧ w'.cell? ⟨p, 2, none⟩ = some sv ∧ w'.cell? ⟨p, 3, none⟩ = some vv ∧ (∀ j, w'.frozen? ⟨p, j, none⟩ = false) ∧ p < w'.heap.size := by
  have hp := World.block_lt_of_cell? w _ h.c0
  have hne : some p ≠ row := fun e => hr e.symm
  exact ⟨hg.cell h.c0 hne, hg.cell h.c1 hne, hg.cell h.c2 hne, hg.cell h.c3 hne, fun j => (World.frozen?_of_block (a := ⟨p, j, none⟩) (hg.block p hp hne)).trans (h.fr j), Nat.lt_of_lt_of_le hp hg.size⟩

theorem ArenaIs.lt (h : ArenaIs w p sv vv room st l) : ∀ k, Foot p sv vv k → k < w.heap.size := h.toRaw.lt
theorem ArenaIs.only {S : Nat → Prop} (h : ArenaIs w p sv vv room st l) (o : Only S w w') (hS : ∀ k, Foot p sv vv k → ¬ S k) : ArenaIs w' p sv vv room st l :=
  ⟨h.toRaw.only o hS, h.ok, h.fits, h.max⟩
theorem ArenaIs.below (h : ArenaIs w p sv vv room st l) (o : Below w.heap.size w w') : ArenaIs w' p sv vv room st l := ⟨h.toRaw.below o, h.ok, h.fits, h.max⟩
theorem ArenaIs.setSt (h : ArenaIs w p sv vv room st l) (t : Int) : ArenaIs (w.setCell ⟨p, 1, none⟩ (.int .i64 t)) p sv vv room t l := ⟨h.toRaw.setSt t, h.ok, h.fits, h.max⟩

/-- A cell's value put anew. -/
theorem ArenaIs.setVal {g cap : Nat} (h : ArenaIs w p sv (.slice (some ⟨g, 0, none⟩) (flat l).length cap) room st l) (i : Nat) (u v : Int) (hi : l[i]? = some (0, [u])) :
    ArenaIs (w.setCell ⟨g, fst l i, none⟩ (.int .i64 v)) p sv (.slice (some ⟨g, 0, none⟩) (flat l).length cap) room st (l.set i (0, [v])) := by
  have hgp : g ≠ p := fun e => h.nv (by rw [← e]; rfl)
  have hpp := World.block_lt_of_cell? w _ h.c0
  have hr := (h.rv.stored (fst l i) (.int .i64 v)).1
  have hl : (flat (l.set i (0, [v]))).length = (flat l).length := by
    rw [← rowV_len, ← rowV_len, rowV_set l i (0, [u]) 0 v u hi rfl, List.length_set]
  refine ⟨⟨(World.cell?_setCell_other _ _ _ _ (by simp [hgp])).trans h.c0, (World.cell?_setCell_other _ _ _ _ (by simp [hgp])).trans h.c1, (World.cell?_setCell_other _ _ _ _ (by simp [hgp])).trans h.c2, (World.cell?_setCell_other _ _ _ _ (by simp [hgp])).trans h.c3,
   fun j => (World.frozen?_setCell _ _ _ _).trans (h.fr j), ?_, ?_, h.ns, h.nv, h.nn⟩, ?_, by simpa using h.fits, h.max⟩
  · rw [List.length_set, rowS_set l 0 i (0, [u]) (0, [v]) hi rfl rfl]
    exact h.rs.kept (setCell_grown w _ _) (.inr (fun e => h.nn g e rfl))
  · rw [hl, rowV_set l i (0, [u]) 0 v u hi rfl]
    exact hr
  · intro x hx
    rcases List.mem_or_eq_of_mem_set hx with hx | rfl
    · exact h.ok x hx
    · exact ⟨Int.le_refl _, by simp, fun _ => ⟨v, rfl⟩⟩

theorem row_form {base : Nat} {e : TypeId} {size n : Nat} {v : Value} {xs : List Value} (h : w.ownsRow base e size v n xs) : ∃ ao cap, v = .slice ao n cap ∧ n ≤ cap ∧ cap ≤ maxLen := by
  rcases h.2 with ⟨rfl, rfl⟩ | ⟨g, cap, cur, rfl, _, _, hn, hm, _⟩
  · exact ⟨none, 0, rfl, Nat.le_refl _, Nat.zero_le _⟩
  · exact ⟨some ⟨g, 0, none⟩, cap, rfl, hn, hm⟩

/-- A row that is not empty lies in a block. -/
theorem row_at {base : Nat} {e : TypeId} {size n : Nat} {v : Value} {xs : List Value} (h : w.ownsRow base e size v n xs) (hn : 0 < n) :
    ∃ g cap, v = .slice (some ⟨g, 0, none⟩) n cap ∧ n ≤ cap ∧ cap ≤ maxLen ∧ ∀ j, w.frozen? ⟨g, j, none⟩ = false := by
  rcases h.2 with ⟨rfl, rfl⟩ | ⟨g, cap, cur, rfl, _, hg, hc, hm, _⟩
  · omega
  · exact ⟨g, cap, rfl, hc, hm, h.frozenAt⟩

theorem Arena.lt (h : Arena w p F room st l) : p < w.heap.size := by
  obtain ⟨sv, vv, h, _⟩ := h
  exact h.lt p (.inl rfl)
theorem Arena.own (h : Arena w p F room st l) : F p := by
  obtain ⟨sv, vv, h, hf⟩ := h
  exact hf p (.inl rfl)
theorem Arena.mono (h : Arena w p F room st l) (hG : ∀ k, F k → k < w.heap.size → G k) : Arena w p G room st l := by
  obtain ⟨sv, vv, h, hf⟩ := h
  exact ⟨sv, vv, h, fun k hk => hG k (hf k hk) (h.lt k hk)⟩
theorem Arena.only {S : Nat → Prop} (h : Arena w p F room st l) (o : Only S w w') (hS : ∀ k, F k → k < w.heap.size → ¬ S k) : Arena w' p F room st l := by
  obtain ⟨sv, vv, h, hf⟩ := h
  exact ⟨sv, vv, h.only o (fun k hk => hS k (hf k hk) (h.lt k hk)), hf⟩
theorem Arena.below (h : Arena w p F room st l) (o : Below w.heap.size w w') : Arena w' p F room st l := by
  obtain ⟨sv, vv, h, hf⟩ := h
  exact ⟨sv, vv, h.below o, hf⟩
theorem Arena.ok (h : Arena w p F room st l) : (∀ x ∈ l, ItOk x) ∧ (l.length : Int) ≤ room ∧ room ≤ 60000 := by
  obtain ⟨sv, vv, h, _⟩ := h
  exact ⟨h.ok, h.fits, h.max⟩
end
end Go.Proofs.Ytbmlpdkbiipcmaa

namespace Go.Proofs.Ytbmlpdkbiipcmaa
open Go.RowKit
set_option linter.all false

theorem add_lit (b o j : Nat) : Addr.add ⟨b, o, none⟩ j = ⟨b, o + j, none⟩ := by unfold Addr.add; split <;> simp_all

theorem room_nil (w : World) :
    Calls Try.prog 53 #[.pointer none] w fun e w' => e = .returned (.int .i64 0) ∧ w = w' := by
  go_enter Try.func53, Try.ntmps53
  go_wp2
  go_ret
  exact ⟨rfl, rfl⟩

set_option maxHeartbeats 400000 in
theorem room_any (w : World) (p : Nat) (F : Nat → Prop) (room st : Int) (l : List It) (h : Arena w p F room st l) :
    Calls Try.prog 53 #[.pointer (some ⟨p, 0, none⟩)] w fun e w' => e = .returned (.int .i64 (room - l.length)) ∧ ∃ n, w' = w.drewN n := by
  obtain ⟨sv, vv, h, hf⟩ := h
  obtain ⟨ao, cap, rfl, h1, h2⟩ := row_form h.rs
  have c2 := h.c2
  have c0 := h.c0
  unfold maxLen at h2
  have hmx := h.max
  have hfi := h.fits
  clear h hf
  go_enter Try.func53, Try.ntmps53
  go_wp2
  go_quiet (fail)
  go_wp2
  go_ret
  exact ⟨rfl, _, rfl⟩

set_option maxHeartbeats 400000 in
theorem new_any (room : Int) (w : World) :
    Calls Try.prog 8 #[.int .i64 room] w fun e w' => e = .returned (.pointer (some ⟨w.heap.size, 0, none⟩)) ∧ w' = w.alloc (.cells #[.int .i64 (min (max room 0) 60000), .int .i64 0, .slice none 0 0, .slice none 0 0] 67) := by
  by_cases h0 : room < 0
  · have e : min (max room 0) 60000 = 0 := by omega
    rw [e]; clear e
    go_enter Try.func8, Try.ntmps8
    go_wp2
    go_ret
    exact ⟨rfl, rfl⟩
  by_cases h1 : 60000 < room
  · have e : min (max room 0) 60000 = 60000 := by omega
    rw [e]; clear e
    go_enter Try.func8, Try.ntmps8
    go_wp2
    go_ret
    exact ⟨rfl, rfl⟩
  · have e : min (max room 0) 60000 = room := by omega
    rw [e]; clear e
    have h0' : 0 ≤ room := by omega
    have h1' : room ≤ 60000 := by omega
    go_enter Try.func8, Try.ntmps8
    go_wp2
    go_ret
    exact ⟨rfl, rfl⟩

theorem new_arena (r : Int) (w : World) (h0 : 0 ≤ r) (h1 : r ≤ 60000) :
    Arena (w.alloc (.cells #[.int .i64 r, .int .i64 0, .slice none 0 0, .slice none 0 0] 67)) w.heap.size (fun k => k = w.heap.size) r 0 [] :=
  ⟨.slice none 0 0, .slice none 0 0, ⟨⟨by simp, by simp, by simp, by simp, fun j => by simp, World.ownsRow_nil _ _ _ _, World.ownsRow_nil _ _ _ _, by simp [Value.ownBlock], by simp [Value.ownBlock], by simp [Value.ownBlock]⟩,
    by simp, by simpa using h0, h1⟩, fun k hk => by simpa [Foot, Value.ownBlock] using hk⟩

set_option maxHeartbeats 400000 in
theorem at_nil (id : Int) (w : World) :
    Calls Try.prog 52 #[.pointer none, .int .i64 id] w fun e w' => e = .returned (.tuple #[.agg #[.int .i64 0, .int .i64 0, .int .i64 0], .bool false]) ∧ Below w.heap.size w w' := by
  go_enter Try.func52, Try.ntmps52
  go_wp2
  exact bodyPost_ret (v := .tuple #[.agg #[.int .i64 0, .int .i64 0, .int .i64 0], .bool false]) (by simp [results, Try.results52, go_sem]) rfl ⟨rfl, (Below.refl _ _).alloc (Nat.le_refl _) _⟩

set_option maxHeartbeats 400000 in
theorem at_no (id : Int) (w : World) (p : Nat) (F : Nat → Prop) (room st : Int) (l : List It) (h : Arena w p F room st l) (hid : id < 1 ∨ (l.length : Int) < id) :
    Calls Try.prog 52 #[.pointer (some ⟨p, 0, none⟩), .int .i64 id] w fun e w' => e = .returned (.tuple #[.agg #[.int .i64 0, .int .i64 0, .int .i64 0], .bool false]) ∧ Below w.heap.size w w' := by
  obtain ⟨sv, vv, h, hf⟩ := h
  obtain ⟨ao, cap, rfl, h1, h2⟩ := row_form h.rs
  have c2 := h.c2
  have hp := h.lt p (.inl rfl)
  unfold maxLen at h2
  clear h hf
  by_cases hlo : id < 1
  · clear hid
    go_enter Try.func52, Try.ntmps52
    go_wp2
    exact bodyPost_ret (v := .tuple #[.agg #[.int .i64 0, .int .i64 0, .int .i64 0], .bool false]) (by simp [results, Try.results52, go_sem]) rfl ⟨rfl, (Below.refl _ _).alloc (Nat.le_refl _) _⟩
  · have hhi : (l.length : Int) < id := by omega
    have hlo' : 1 ≤ id := by omega
    clear hid hlo
    go_enter Try.func52, Try.ntmps52
    go_wp2
    exact bodyPost_ret (v := .tuple #[.agg #[.int .i64 0, .int .i64 0, .int .i64 0], .bool false]) (by simp [results, Try.results52, go_sem]) rfl ⟨rfl, (Below.refl _ _).alloc (Nat.le_refl _) _⟩

end Go.Proofs.Ytbmlpdkbiipcmaa

namespace Go.Proofs.Ytbmlpdkbiipcmaa
open Go.RowKit
set_option linter.all false

/-- What stands in item i's slot. -/
theorem ArenaIs.slot {w : World} {p : Nat} {sv vv : Value} {room st : Int} {l : List It} (h : ArenaIs w p sv vv room st l) (i : Nat) (x : It) (hx : l[i]? = some x) :
    ∃ g cap, sv = .slice (some ⟨g, 0, none⟩) l.length cap ∧ l.length ≤ cap ∧ cap ≤ maxLen ∧ g < w.heap.size ∧ w.cell? ⟨g, i * 3, none⟩ = some (.int .i64 x.1) ∧
      w.cell? ⟨g, i * 3 + 1, none⟩ = some (.int .i64 (fst l i : Nat)) ∧ w.cell? ⟨g, i * 3 + 2, none⟩ = some (.int .i64 (x.2.length : Nat)) := by
  have hi : i < l.length := (List.getElem?_eq_some_iff.1 hx).1
  obtain ⟨g, cap, rfl, hc, hm, _⟩ := row_at h.rs (by omega)
  have hs := rowS_get l 0 i x hx
  rw [Nat.zero_add] at hs
  refine ⟨g, cap, rfl, hc, hm, (h.rs.lt g rfl).2, ?_, ?_, ?_⟩
  · rw [h.rs.cellAt _ (by omega)]; exact hs.1
  · rw [h.rs.cellAt _ (by omega)]; exact hs.2.1
  · rw [h.rs.cellAt _ (by omega)]; exact hs.2.2

set_option maxHeartbeats 800000 in
theorem at_yes (i : Nat) (x : It) (w : World) (p : Nat) (F : Nat → Prop) (room st : Int) (l : List It) (h : Arena w p F room st l) (hx : l[i]? = some x) :
    Calls Try.prog 52 #[.pointer (some ⟨p, 0, none⟩), .int .i64 ((i : Int) + 1)] w fun e w' => e = .returned (.tuple #[.agg #[.int .i64 x.1, .int .i64 (fst l i : Nat), .int .i64 (x.2.length : Nat)], .bool true]) ∧ Below w.heap.size w w' := by
  have hi : i < l.length := (List.getElem?_eq_some_iff.1 hx).1
  obtain ⟨sv, vv, h, hf⟩ := h
  obtain ⟨g, cap, rfl, h1, h2, hg, s0, s1, s2⟩ := h.slot i x hx
  have c2 := h.c2
  have hp := h.lt p (.inl rfl)
  unfold maxLen at h2
  have hlo : (1 : Int) ≤ (i : Int) + 1 := by omega
  have hhi : (i : Int) + 1 ≤ (l.length : Int) := by omega
  have hi' : (i : Int) < (l.length : Int) := by omega
  clear h hf hx
  go_enter Try.func52, Try.ntmps52
  go_wp2
  exact bodyPost_ret (v := .tuple #[.agg #[.int .i64 x.1, .int .i64 (fst l i : Nat), .int .i64 (x.2.length : Nat)], .bool true]) (by simp [results, Try.results52, go_sem]) rfl ⟨rfl, (Below.refl _ _).alloc (Nat.le_refl _) _⟩

/-- The item of a number. -/
def itemAt (l : List It) (id : Int) : Option It := if id < 1 then none else l[(id - 1).toNat]?
def kindL (l : List It) (id : Int) : Int := ((itemAt l id).map (·.1)).getD 0
def valL (l : List It) (id i : Int) : Int := match itemAt l id with
  | none => 0
  | some x => if x.1 = 0 ∨ i < 0 ∨ (x.2.length : Int) ≤ i then 0 else x.2.getD i.toNat 0

theorem itemAt_none {l : List It} {id : Int} (h : itemAt l id = none) : id < 1 ∨ (l.length : Int) < id := by
  unfold itemAt at h
  split at h
  · exact .inl ‹_›
  · rw [List.getElem?_eq_none_iff] at h; omega
theorem itemAt_some {l : List It} {id : Int} {x : It} (h : itemAt l id = some x) : ∃ i : Nat, id = (i : Int) + 1 ∧ l[i]? = some x ∧ i < l.length := by
  unfold itemAt at h
  split at h
  · cases h
  · exact ⟨(id - 1).toNat, by omega, h, (List.getElem?_eq_some_iff.1 h).1⟩

set_option maxHeartbeats 800000 in
theorem kind_any (id : Int) (w : World) (p : Nat) (F : Nat → Prop) (room st : Int) (l : List It) (h : Arena w p F room st l) :
    Calls Try.prog 38 #[.pointer (some ⟨p, 0, none⟩), .int .i64 id] w fun e w' => e = .returned (.int .i64 (kindL l id)) ∧ Below w.heap.size w w' := by
  unfold kindL
  cases hx : itemAt l id with
  | none =>
    have c := at_no id w p F room st l h (itemAt_none hx)
    clear hx h
    go_enter Try.func38, Try.ntmps38
    go_wp2_with (go_at_call 52; ((with_reducible refine c.mono ?_); rintro e w' ⟨rfl, hb⟩))
    go_ret
    have hz := hb.size
    refine ⟨rfl, hb.trans ?_⟩
    repeat' (first | exact Below.refl _ _ | refine Below.setCell ?_ (by simp; omega) _ | refine Below.alloc ?_ (by (try simp); omega) _ | refine below_drewN ?_ _)
  | some x =>
    obtain ⟨i, rfl, hx', hi⟩ := itemAt_some hx
    have c := at_yes i x w p F room st l h hx'
    clear hx h hx' hi
    go_enter Try.func38, Try.ntmps38
    go_wp2_with (go_at_call 52; ((with_reducible refine c.mono ?_); rintro e w' ⟨rfl, hb⟩))
    go_ret
    have hz := hb.size
    refine ⟨rfl, hb.trans ?_⟩
    repeat' (first | exact Below.refl _ _ | refine Below.setCell ?_ (by simp; omega) _ | refine Below.alloc ?_ (by (try simp); omega) _ | refine below_drewN ?_ _)

theorem kind_nil (id : Int) (w : World) :
    Calls Try.prog 38 #[.pointer none, .int .i64 id] w fun e w' => e = .returned (.int .i64 0) ∧ Below w.heap.size w w' := by
  have c := at_nil id w
  go_enter Try.func38, Try.ntmps38
  go_wp2_with (go_at_call 52; ((with_reducible refine c.mono ?_); rintro e w' ⟨rfl, hb⟩))
  go_ret
  have hz := hb.size
  refine ⟨rfl, hb.trans ?_⟩
  repeat' (first | exact Below.refl _ _ | refine Below.setCell ?_ (by simp; omega) _ | refine Below.alloc ?_ (by (try simp); omega) _ | refine below_drewN ?_ _)

theorem val_nil (id i : Int) (w : World) :
    Calls Try.prog 39 #[.pointer none, .int .i64 id, .int .i64 i] w fun e w' => e = .returned (.int .i64 0) ∧ Below w.heap.size w w' := by
  have c := at_nil id w
  go_enter Try.func39, Try.ntmps39
  go_wp2_with (go_at_call 52; ((with_reducible refine c.mono ?_); rintro e w' ⟨rfl, hb⟩))
  go_ret
  have hz := hb.size
  refine ⟨rfl, hb.trans ?_⟩
  repeat' (first | exact Below.refl _ _ | refine Below.setCell ?_ (by simp; omega) _ | refine Below.alloc ?_ (by (try simp); omega) _ | refine below_drewN ?_ _)

/-- What stands at item i's value j. -/
theorem ArenaIs.value {w : World} {p : Nat} {sv vv : Value} {room st : Int} {l : List It} (h : ArenaIs w p sv vv room st l) (i : Nat) (x : It) (hx : l[i]? = some x) (j : Nat) (hj : j < x.2.length) :
    ∃ g cap, vv = .slice (some ⟨g, 0, none⟩) (flat l).length cap ∧ (flat l).length ≤ cap ∧ cap ≤ maxLen ∧ g < w.heap.size ∧ fst l i + j < (flat l).length ∧ w.cell? ⟨g, fst l i + j, none⟩ = some (.int .i64 (x.2.getD j 0)) ∧ ∀ j, w.frozen? ⟨g, j, none⟩ = false := by
  have hle := fst_le l i x hx
  obtain ⟨g, cap, rfl, hc, hm, hz⟩ := row_at h.rv (by omega)
  refine ⟨g, cap, rfl, hc, hm, (h.rv.lt g rfl).2, by omega, ?_, hz⟩
  rw [h.rv.cellAt _ (by omega)]; exact rowV_get l i x hx j hj

set_option maxHeartbeats 1600000 in
theorem val_any (id i : Int) (w : World) (p : Nat) (F : Nat → Prop) (room st : Int) (l : List It) (h : Arena w p F room st l) :
    Calls Try.prog 39 #[.pointer (some ⟨p, 0, none⟩), .int .i64 id, .int .i64 i] w fun e w' => e = .returned (.int .i64 (valL l id i)) ∧ Below w.heap.size w w' := by
  unfold valL
  cases hx : itemAt l id with
  | none =>
    have c := at_no id w p F room st l h (itemAt_none hx)
    clear hx h
    go_enter Try.func39, Try.ntmps39
    go_wp2_with (go_at_call 52; ((with_reducible refine c.mono ?_); rintro e w' ⟨rfl, hb⟩))
    go_ret
    have hz := hb.size
    refine ⟨rfl, hb.trans ?_⟩
    repeat' (first | exact Below.refl _ _ | refine Below.setCell ?_ (by simp; omega) _ | refine Below.alloc ?_ (by (try simp); omega) _ | refine below_drewN ?_ _)
  | some x =>
    obtain ⟨n, rfl, hx', hi⟩ := itemAt_some hx
    have c := at_yes n x w p F room st l h hx'
    have hl := h.lt
    clear hx
    obtain ⟨x1, x2⟩ := x
    dsimp only at c ⊢
    by_cases hk : x1 = 0
    · subst hk
      simp only [true_or, if_true]
      clear h hx' hi
      go_enter Try.func39, Try.ntmps39
      go_wp2_with (go_at_call 52; ((with_reducible refine c.mono ?_); rintro e w' ⟨rfl, hb⟩))
      go_ret
      have hz := hb.size
      refine ⟨rfl, hb.trans ?_⟩
      repeat' (first | exact Below.refl _ _ | refine Below.setCell ?_ (by simp; omega) _ | refine Below.alloc ?_ (by (try simp); omega) _ | refine below_drewN ?_ _)
    · have hk1 : (x1 == 0) = false := by simp [hk]
      by_cases hlo : i < 0
      · rw [if_pos (.inr (.inl hlo))]
        clear h hx' hi hk
        go_enter Try.func39, Try.ntmps39
        go_wp2_with (go_at_call 52; ((with_reducible refine c.mono ?_); rintro e w' ⟨rfl, hb⟩))
        go_ret
        have hz := hb.size
        refine ⟨rfl, hb.trans ?_⟩
        repeat' (first | exact Below.refl _ _ | refine Below.setCell ?_ (by simp; omega) _ | refine Below.alloc ?_ (by (try simp); omega) _ | refine below_drewN ?_ _)
      · by_cases hhi : (x2.length : Int) ≤ i
        · rw [if_pos (.inr (.inr hhi))]
          have hlo' : 0 ≤ i := by omega
          clear h hx' hi hk hlo
          go_enter Try.func39, Try.ntmps39
          go_wp2_with (go_at_call 52; ((with_reducible refine c.mono ?_); rintro e w' ⟨rfl, hb⟩))
          go_ret
          have hz := hb.size
          refine ⟨rfl, hb.trans ?_⟩
          repeat' (first | exact Below.refl _ _ | refine Below.setCell ?_ (by simp; omega) _ | refine Below.alloc ?_ (by (try simp); omega) _ | refine below_drewN ?_ _)
        · rw [if_neg (by rintro (h1 | h1 | h1) <;> omega)]
          obtain ⟨j, rfl⟩ : ∃ j : Nat, i = (j : Int) := ⟨i.toNat, by omega⟩
          have hj : j < x2.length := by omega
          obtain ⟨sv, vv, h, hf⟩ := h
          obtain ⟨g, cap, rfl, h1, h2, hg, hlt, hcv, _⟩ := h.value n (x1, x2) hx' j hj
          have c3 := h.c3
          have hf1 : ((fst l n : Nat) : Int) + (j : Int) < ((flat l).length : Int) := by omega
          have hf0 : 0 ≤ ((fst l n : Nat) : Int) + (j : Int) := by omega
          unfold maxLen at h2
          have hlo' : (0 : Int) ≤ (j : Int) := by omega
          have hhi' : (j : Int) < (x2.length : Int) := by omega
          have hwr : IntKind.i64.wrap (((fst l n : Nat) : Int) + (j : Int)) = ((fst l n + j : Nat) : Int) := by rw [IntWalk.i64_in _ (by omega)]; omega
          have htn : (((fst l n : Nat) : Int) + (j : Int)).toNat = fst l n + j := by omega
          simp only [Int.toNat_natCast]
          obtain ⟨u, hu⟩ : ∃ u, x2.getD j 0 = u := ⟨_, rfl⟩
          rw [hu] at hcv ⊢
          clear hu
          clear h hf hx' hi hk hlo hhi
          go_enter Try.func39, Try.ntmps39
          go_wp2_with (go_at_call 52; ((with_reducible refine c.mono ?_); rintro e w' ⟨rfl, hb⟩))
          have hcc := hb.cell (p := ⟨g, fst l n + j, none⟩) hg
          have hcp := hb.cell (p := ⟨p, 3, none⟩) hl
          rw [hcv] at hcc
          rw [c3] at hcp
          have hz := hb.size
          have hp' : p < w'.heap.size := by omega
          have hg' : g < w'.heap.size := by omega
          go_quiet (fail)
          go_wp2
          go_ret
          refine ⟨rfl, hb.trans ?_⟩
          repeat' (first | exact Below.refl _ _ | refine Below.setCell ?_ (by simp; omega) _ | refine Below.alloc ?_ (by (try simp); omega) _ | refine below_drewN ?_ _)

end Go.Proofs.Ytbmlpdkbiipcmaa

namespace Go.Proofs.Ytbmlpdkbiipcmaa
open Go.RowKit
set_option linter.all false

/-- What the cell of a number holds. -/
def cellL (l : List It) (id : Int) : Option Int := match itemAt l id with
  | none => none
  | some x => if x.1 = 0 then x.2.head? else none
def setL (l : List It) (id v : Int) : List It := l.set (id - 1).toNat (0, [v])
def stepped (c : Option Int) (st : Int) : Int := match c with
  | none => st
  | some _ => wrap64 (st + 1)

theorem cellL_some {l : List It} {id u : Int} (hl : ∀ x ∈ l, ItOk x) (h : cellL l id = some u) : ∃ i : Nat, id = (i : Int) + 1 ∧ l[i]? = some (0, [u]) ∧ i < l.length := by
  unfold cellL at h
  cases hx : itemAt l id with
  | none => rw [hx] at h; cases h
  | some x =>
    rw [hx] at h
    obtain ⟨i, rfl, h1, h2⟩ := itemAt_some hx
    refine ⟨i, rfl, ?_, h2⟩
    by_cases h0 : x.1 = 0
    · simp only [h0, if_true] at h
      obtain ⟨v, hv⟩ := (hl x (List.mem_of_getElem? h1)).2.2 h0
      rw [h1]
      obtain ⟨x1, x2⟩ := x
      simp_all
    · simp only [h0, if_false] at h; cases h

/-- What a step on item i leaves. -/
def Stepped (w : World) (p : Nat) (sv vv : Value) (room st : Int) (l : List It) (i : Nat) (e : Ending) (w' : World) : Prop :=
  ∃ g cap, vv = .slice (some ⟨g, 0, none⟩) (flat l).length cap ∧ e = .returned (.pointer (some ⟨g, fst l i, none⟩)) ∧ ArenaIs w' p sv vv room (wrap64 (st + 1)) l ∧ Only (fun k => k = p) w w'

/-- What a call leaves that steps on the arena. -/
def Moved (w : World) (p : Nat) (F : Nat → Prop) (room st : Int) (l : List It) (w' : World) : Prop :=
  Arena w' p F room st l ∧ Only F w w'

theorem Moved.ofBelow {w w' : World} {p : Nat} {F : Nat → Prop} {room st : Int} {l : List It} (h : Arena w p F room st l) (hb : Below w.heap.size w w') : Moved w p F room st l w' :=
  ⟨h.below hb, Only.ofBelow hb⟩

/-- What a Swap leaves of the items. -/
def swapL (l : List It) (id old now : Int) : List It := if cellL l id = some old then setL l id now else l
def onceL (l : List It) (id v : Int) : List It := if cellL l id = some 0 ∧ v ≠ 0 then setL l id v else l

end Go.Proofs.Ytbmlpdkbiipcmaa

namespace Go.Proofs.Ytbmlpdkbiipcmaa
open Go.RowKit
set_option linter.all false

theorem infoSlot : (Try.prog.info? 90).map (fun i => (i.zero, i.size, i.bytes)) = some (some (.agg #[.int .i64 0, .int .i64 0, .int .i64 0]), 3, 24) := by kernel_rfl
theorem infoInt : (Try.prog.info? 3).map (fun i => (i.zero, i.size, i.bytes)) = some (some (.int .i64 0), 1, 8) := by kernel_rfl

/-- A slice of integers that is read, and lies in no block of F. -/
def Ints (F : Nat → Prop) (w : World) (x : Value) (vs : List Int) : Prop :=
  (x = .slice none 0 0 ∧ vs = []) ∨ ∃ ad c, x = .slice (some ad) vs.length c ∧ (vs = [] ∨ ¬ F ad.block) ∧ vs.length ≤ maxLen ∧ ∀ j, j < vs.length → w.cell? (ad.add j) = some (.int .i64 (vs.getD j 0))

theorem Ints.source {F : Nat → Prop} {w w' : World} {x : Value} {vs : List Int} (h : Ints F w x vs) (o : Only F w w') : Source w' x vs.length (vs.map (Value.int .i64)) := by
  rcases h with ⟨rfl, rfl⟩ | ⟨ad, c, rfl, hF, _, hc⟩
  · exact .inl ⟨rfl, rfl, rfl⟩
  · refine .inr ⟨_, c, rfl, fun j u hu => ?_⟩
    rw [List.getElem?_map] at hu
    have hj : j < vs.length := by
      rcases Nat.lt_or_ge j vs.length with h | h
      · exact h
      · rw [List.getElem?_eq_none h] at hu; cases hu
    have := hc j hj
    rw [List.getElem?_eq_getElem hj] at hu
    simp only [Option.map_some, Option.some.injEq] at hu
    subst hu
    have hn : ¬ F (ad.add j).block := by
      rw [show (ad.add j).block = ad.block by unfold Addr.add; split <;> rfl]
      rcases hF with rfl | hF
      · simp at hj
      · exact hF
    rw [o.cell this hn]
    simp [List.getD, List.getElem?_eq_getElem hj]

theorem Ints.value {F : Nat → Prop} {w : World} {x : Value} {vs : List Int} (h : Ints F w x vs) : ∃ ao c, x = .slice ao vs.length c ∧ vs.length ≤ maxLen := by
  rcases h with ⟨rfl, rfl⟩ | ⟨ad, c, rfl, hF, hm, hc⟩
  · exact ⟨none, 0, rfl, Nat.zero_le _⟩
  · exact ⟨_, c, rfl, hm⟩

set_option maxHeartbeats 800000 in
theorem add_full (k : Int) (x : Value) (w : World) (p : Nat) (F : Nat → Prop) (room st : Int) (l : List It) (h : Arena w p F room st l) (hf : room = l.length) :
    Calls Try.prog 40 #[.pointer (some ⟨p, 0, none⟩), .int .i64 k, x] w fun e w' => e = .returned (.tuple #[.int .i64 0, .int .i64 2]) ∧ Below w.heap.size w w' := by
  have c := room_any w p F room st l h
  subst hf
  rw [Int.sub_self] at c
  clear h
  go_enter Try.func40, Try.ntmps40
  go_wp2_with (go_at_call 53; ((with_reducible refine c.mono ?_); rintro e w' ⟨rfl, n, rfl⟩))
  go_ret2
  exact ⟨rfl, below_drewN (Below.refl _ _) _⟩

theorem add_end {W : World} {p : Nat} {sv vv : Value} {room st k : Int} {l : List It} {vs : List Int} (h : ∀ x ∈ l, ItOk x) (hm : room ≤ 60000) (hr : (l.length : Int) < room) (hk : ItOk (k, vs))
    (R : Raw W p sv vv room st (l.length + 1) (rowS 0 l ++ [.int .i64 k, .int .i64 ((flat l).length : Nat), .int .i64 (vs.length : Nat)]) ((flat l).length + vs.length) (rowV l ++ vs.map (Value.int .i64))) :
    ArenaIs W p sv vv room st (l ++ [(k, vs)]) := by
  have e1 : (l ++ [(k, vs)]).length = l.length + 1 := by simp
  have e2 : rowS 0 (l ++ [(k, vs)]) = rowS 0 l ++ [.int .i64 k, .int .i64 ((flat l).length : Nat), .int .i64 (vs.length : Nat)] := by rw [rowS_snoc]; simp
  have e3 : (flat (l ++ [(k, vs)])).length = (flat l).length + vs.length := by rw [flat_app]; simp [flat]
  have e4 : rowV (l ++ [(k, vs)]) = rowV l ++ vs.map (Value.int .i64) := rowV_snoc l (k, vs)
  refine ⟨by rw [e1, e2, e3, e4]; exact R, fun x hx => ?_, by rw [e1]; omega, hm⟩
  rcases List.mem_append.1 hx with hx | hx
  · exact h x hx
  · simp at hx; subst hx; exact hk

set_option maxHeartbeats 1600000 in
theorem add_room (k : Int) (vs : List Int) (x : Value) (w : World) (p : Nat) (F : Nat → Prop) (room st : Int) (l : List It) (h : Arena w p F room st l) (hr : (l.length : Int) < room) (hk : ItOk (k, vs)) (hx : Ints F w x vs) :
    Calls Try.prog 40 #[.pointer (some ⟨p, 0, none⟩), .int .i64 k, x] w fun e w' => e = .returned (.tuple #[.int .i64 ((l.length + 1 : Nat) : Int), .int .i64 0]) ∧ Arena w' p (Plus F w w') room st (l ++ [(k, vs)]) ∧ Only F w w' := by
  have c := room_any w p F room st l h
  have hne : (room - (l.length : Int) == 0) = false := by simp; omega
  obtain ⟨sv, vv, h, hf⟩ := h
  obtain ⟨ao, cap, rfl, hm1, hm2⟩ := row_form h.rs
  obtain ⟨av, cav, rfl, hv1, hv2⟩ := row_form h.rv
  obtain ⟨ax, cx, rfl, hx2⟩ := hx.value
  have c2 := h.c2
  have c3 := h.c3
  have f2 := h.fr 2
  have f3 := h.fr 3
  have hp := h.lt p (.inl rfl)
  have H := Lib.hid h
  have HX := Lib.hid hx
  obtain ⟨i0, hi, hz, hs1, hs2⟩ := info_parts infoSlot
  have hone : ∀ u ∈ [Value.int .i64 k, .int .i64 ((flat l).length : Nat), .int .i64 (vs.length : Nat)], u.oneCell' = true := by
    intro u hu
    simp at hu
    rcases hu with rfl | rfl | rfl <;> rfl
  have hmx := h.max
  have hb1 : l.length + 1 ≤ maxLen := by unfold maxLen; omega
  have hb2 : (l.length + 1) * 24 ≤ 140737488355328 := by omega
  clear h hx
  unfold maxLen at hm2 hv2 hx2
  go_enter Try.func40, Try.ntmps40
  go_wp2_with (go_at_call 53; ((with_reducible refine c.mono ?_); rintro e w' ⟨rfl, n, rfl⟩))
  have hB : Below w.heap.size w ((w.drewN (n + 1)).alloc (.cells #[.int .i64 k, .int .i64 ((flat l).length : Nat), .int .i64 (vs.length : Nat)] 90)) := (below_drewN (Below.refl _ _) _).alloc (Nat.le_refl _) _
  have c2' := (H.out.below hB).c2
  go_region_law (refine step_own_append rfl (.tmp 15) (.tmp 25) 65 rfl 90 i0 _ 3 24 Try.underlying65 hi hz hs1 hs2 rfl (by decide) _ _ _ rfl (H.out.below hB).rs _ 1 [.int .i64 k, .int .i64 ((flat l).length : Nat), .int .i64 (vs.length : Nat)] rfl (.inr ⟨_, _, rfl, cells_new _ #[.int .i64 k, .int .i64 ((flat l).length : Nat), .int .i64 (vs.length : Nat)] _⟩) rfl hone hb1 hb2 ?_; intro v1 w1 hown1 hgr1 hk1; obtain ⟨ao1, cap1, rfl, hm11, hm12⟩ := row_form hown1; unfold maxLen at hm12; obtain ⟨d0, d1, d2, d3, d4, d5⟩ := (H.out.below hB).toRaw.cells hgr1 (H.out.ns); have d42 := d4 2; have d43 := d4 3)
  all_goals
    have R1 := (H.out.below hB).toRaw.setS hgr1 hown1 hk1
    have O1 : Only F w (w1.setCell ⟨p, 2, none⟩ (.slice ao1 (l.length + 1) cap1)) := Only.setCell (p := ⟨p, 2, none⟩) ((Only.ofBelow hB).grown hgr1 (fun k e _ => hf k (.inr (.inl e)))) (.inl (hf p (.inl rfl))) _
    have hN : ∀ k, Foot p (.slice ao1 (l.length + 1) cap1) (.slice av (flat l).length cav) k → F k ∨ (w.heap.size ≤ k) := by
      intro k e
      rcases e with rfl | e | e
      · exact .inl (hf _ (.inl rfl))
      · rcases hk1 k e with e' | e'
        · exact .inl (hf k (.inr (.inl e')))
        · simp at e'; exact .inr (by omega)
      · exact .inl (hf k (.inr (.inr e)))
    clear hown1 hgr1 hk1 d0 d1 d2 d3 d4 d5 d42 d43 c2' c2 c3 f2 f3 hB
    generalize w1.setCell ⟨p, 2, none⟩ (.slice ao1 (l.length + 1) cap1) = W2 at *
    have e3 := R1.c3
    have e3f := R1.fr 3
    have hp2 : p < W2.heap.size := R1.lt p (.inl rfl)
    have HR := Lib.hid R1
    have hsrc : Source W2 (.slice ax vs.length cx) vs.length (vs.map (Value.int .i64)) := HX.out.source O1
    clear R1
    obtain ⟨j0, hj, jz, js1, js2⟩ := info_parts infoInt
    have hone2 : ∀ u ∈ vs.map (Value.int .i64), u.oneCell' = true := by
      intro u hu
      obtain ⟨q, _, rfl⟩ := List.mem_map.1 hu
      rfl
    have hsm := flat_small l H.out.ok
    have hk2 : vs.length ≤ 12 := hk.2.1
    have hb3 : (flat l).length + vs.length ≤ maxLen := by unfold maxLen; omega
    have hb4 : ((flat l).length + vs.length) * 8 ≤ 140737488355328 := by omega
    clear hsm hk2
    go_wp2_with (at_builtin; refine wpList_own_append rfl (.tmp 33) (.tmp 34) 61 rfl 3 j0 _ 1 8 Try.underlying61 hj jz js1 js2 rfl (by decide) _ _ _ rfl HR.out.rv _ vs.length (vs.map (Value.int .i64)) rfl hsrc (by simp) hone2 hb3 hb4 ?_; intro v2 w2 hown2 hgr2 hk2; obtain ⟨ao2, cap2, rfl, hm21, hm22⟩ := row_form hown2; unfold maxLen at hm22; obtain ⟨d0, d1, d2, d3, d4, d5⟩ := HR.out.cells hgr2 HR.out.nv; have d42 := d4 2; have d43 := d4 3)
    go_ret2
    have R2 := HR.out.setV hgr2 hown2 hk2
    refine ⟨rfl, ⟨_, _, add_end H.out.ok H.out.max hr hk R2, fun k' e => ?_⟩, Only.setCell (p := ⟨p, 3, none⟩) (O1.grown hgr2 (fun k' e _ => hf k' (.inr (.inr e)))) (.inl (hf p (.inl rfl))) _⟩
    have hlt := R2.lt k' e
    have hold : F k' ∨ w.heap.size ≤ k' := by
      rcases e with rfl | e | e
      · exact .inl (hf _ (.inl rfl))
      · exact hN k' (.inr (.inl e))
      · rcases hk2 k' e with e' | e'
        · exact .inl (hf k' (.inr (.inr e')))
        · have := O1.size; exact .inr (by omega)
    exact hold.imp id (fun hge => ⟨hge, hlt⟩)

end Go.Proofs.Ytbmlpdkbiipcmaa

namespace Go.Proofs.Ytbmlpdkbiipcmaa
open Go.RowKit
set_option linter.all false

/-! ### Make, Cell -/

theorem Arena.fresh {w : World} {p : Nat} {F : Nat → Prop} {room st : Int} {l : List It} (h : Arena w p F room st l) (o : Obj) : Arena (w.alloc o) p (fun k => F k ∧ k ≠ w.heap.size) room st l :=
  (h.mono (fun k hk hlt => ⟨hk, by omega⟩)).below ((Below.refl _ _).alloc (Nat.le_refl _) _)

theorem make_nil (k : Int) (x : Value) (w : World) :
    Calls Try.prog 19 #[.pointer none, .int .i64 k, x] w fun e w' => e = .returned (.tuple #[.int .i64 0, .int .i64 1]) ∧ w = w' := by
  go_enter Try.func19, Try.ntmps19
  go_wp2
  go_ret2
  exact ⟨rfl, rfl⟩

theorem cell_nil (v : Int) (w : World) :
    Calls Try.prog 30 #[.pointer none, .int .i64 v] w fun e w' => e = .returned (.tuple #[.int .i64 0, .int .i64 1]) ∧ w = w' := by
  go_enter Try.func30, Try.ntmps30
  go_wp2
  go_ret2
  exact ⟨rfl, rfl⟩

set_option maxHeartbeats 400000 in
theorem make_arg (k : Int) (ao : Option Addr) (n c : Nat) (w : World) (p : Nat) (hn : n ≤ maxLen) (h : k < 1 ∨ 12 < n) :
    Calls Try.prog 19 #[.pointer (some ⟨p, 0, none⟩), .int .i64 k, .slice ao n c] w fun e w' => e = .returned (.tuple #[.int .i64 0, .int .i64 1]) ∧ w = w' := by
  unfold maxLen at hn
  by_cases hk : k < 1
  · clear h
    go_enter Try.func19, Try.ntmps19
    go_wp2
    go_ret2
    exact ⟨rfl, rfl⟩
  · have hk1 : 1 ≤ k := by omega
    have hn1 : (12 : Int) < (n : Int) := by omega
    clear h hk
    go_enter Try.func19, Try.ntmps19
    go_wp2
    go_ret2
    exact ⟨rfl, rfl⟩

set_option maxHeartbeats 400000 in
theorem make_full (k : Int) (ao : Option Addr) (n c : Nat) (w : World) (p : Nat) (F : Nat → Prop) (room st : Int) (l : List It) (h : Arena w p F room st l) (hk : 1 ≤ k) (hn : n ≤ 12) (hf : room = l.length) :
    Calls Try.prog 19 #[.pointer (some ⟨p, 0, none⟩), .int .i64 k, .slice ao n c] w fun e w' => e = .returned (.tuple #[.int .i64 0, .int .i64 2]) ∧ Below w.heap.size w w' := by
  have ct := add_full k (.slice ao n c) w p F room st l h hf
  have hn1 : ¬ (12 : Int) < (n : Int) := by omega
  clear h hf
  go_enter Try.func19, Try.ntmps19
  go_wp2_with (go_at_call 40; ((with_reducible refine ct.mono ?_); rintro e w' ⟨rfl, hb⟩))
  go_ret2
  exact ⟨rfl, hb⟩

/-- What a making that goes well leaves. -/
def Made (w : World) (p : Nat) (F : Nat → Prop) (room st : Int) (l : List It) (x : It) (e : Ending) (w' : World) : Prop :=
  e = .returned (.tuple #[.int .i64 ((l.length + 1 : Nat) : Int), .int .i64 0]) ∧ Arena w' p (Plus F w w') room st (l ++ [x]) ∧ Only F w w'

set_option maxHeartbeats 400000 in
theorem make_ok (k : Int) (vs : List Int) (x : Value) (w : World) (p : Nat) (F : Nat → Prop) (room st : Int) (l : List It) (h : Arena w p F room st l) (hk : 1 ≤ k) (hn : vs.length ≤ 12) (hr : (l.length : Int) < room) (hx : Ints F w x vs) :
    Calls Try.prog 19 #[.pointer (some ⟨p, 0, none⟩), .int .i64 k, x] w (Made w p F room st l (k, vs)) := by
  have ct := add_room k vs x w p F room st l h hr ⟨by dsimp only; omega, hn, fun e => by dsimp only at e; omega⟩ hx
  obtain ⟨ao, c, rfl, _⟩ := hx.value
  have hn1 : ¬ (12 : Int) < (vs.length : Int) := by omega
  clear h hr hx
  go_enter Try.func19, Try.ntmps19
  go_wp2_with (go_at_call 40; ((with_reducible refine ct.mono ?_); rintro e w' ⟨rfl, hA, hO⟩))
  go_ret2
  exact ⟨rfl, hA, hO⟩

set_option maxHeartbeats 400000 in
theorem cell_full (v : Int) (w : World) (p : Nat) (F : Nat → Prop) (room st : Int) (l : List It) (h : Arena w p F room st l) (hf : room = l.length) :
    Calls Try.prog 30 #[.pointer (some ⟨p, 0, none⟩), .int .i64 v] w fun e w' => e = .returned (.tuple #[.int .i64 0, .int .i64 2]) ∧ Below w.heap.size w w' := by
  have ct := fun o => add_full 0 (.slice (some ⟨w.heap.size, 0, none⟩) 1 1) (w.alloc o) p _ room st l (h.fresh o) hf
  clear h hf
  go_enter Try.func30, Try.ntmps30
  go_wp2_with (go_at_call 40; ((with_reducible refine (ct _).mono ?_); rintro e w' ⟨rfl, hb⟩))
  go_ret2
  exact ⟨rfl, ((Below.refl _ _).alloc (Nat.le_refl _) _).trans (hb.mono (by simp))⟩

set_option maxHeartbeats 400000 in
theorem cell_ok (v : Int) (w : World) (p : Nat) (F : Nat → Prop) (room st : Int) (l : List It) (h : Arena w p F room st l) (hr : (l.length : Int) < room) :
    Calls Try.prog 30 #[.pointer (some ⟨p, 0, none⟩), .int .i64 v] w (Made w p F room st l (0, [v])) := by
  have ct := add_room 0 [v] (.slice (some ⟨w.heap.size, 0, none⟩) 1 1) (w.alloc (.cells #[.int .i64 v] 3)) p _ room st l (h.fresh _) hr ⟨Int.le_refl _, by simp, fun _ => ⟨v, rfl⟩⟩
    (.inr ⟨⟨w.heap.size, 0, none⟩, 1, rfl, .inr (fun hh => hh.2 rfl), by simp [maxLen], fun j hj => by
      obtain rfl : j = 0 := by simpa using hj
      rw [add_lit]; simp⟩)
  have hlt := h.lt
  clear hr h
  go_enter Try.func30, Try.ntmps30
  go_wp2_with (go_at_call 40; ((with_reducible refine ct.mono ?_); rintro e w' ⟨rfl, hA, hO⟩))
  go_ret2
  refine ⟨rfl, hA.mono (fun k hk hlt => ?_), ?_⟩
  · rcases hk with hk | hk
    · exact .inl hk.1
    · exact .inr ⟨by have := hk.1; simp at this; omega, hk.2⟩
  · exact Only.trans (S := F) ((Only.refl _ _).alloc _) hO (fun i hi _ => hi.1)

end Go.Proofs.Ytbmlpdkbiipcmaa

namespace Go.Proofs.Ytbmlpdkbiipcmaa
open Go.RowKit
set_option linter.all false

structure Held (w0 w : World) (p : Nat) (room st : Int) (l : List It) : Prop where
  a : Arena w p (fun k => w0.heap.size ≤ k) room st l
  b : Below w0.heap.size w0 w

section
variable {w0 w w' : World} {p : Nat} {room st : Int} {l : List It}

theorem Held.below (h : Held w0 w p room st l) (hb : Below w.heap.size w w') : Held w0 w' p room st l := ⟨h.a.below hb, h.b.trans (hb.mono h.b.size)⟩
theorem Held.alloc (h : Held w0 w p room st l) (o : Obj) : Held w0 (w.alloc o) p room st l := h.below ((Below.refl _ _).alloc (Nat.le_refl _) _)
theorem Held.drewN (h : Held w0 w p room st l) (n : Nat) : Held w0 (w.drewN n) p room st l := h.below (below_drewN (Below.refl _ _) _)
theorem Held.only {st' : Int} {l' : List It} {G : Nat → Prop} (h : Held w0 w p room st l) (ha : Arena w' p (Plus G w w') room st' l') (ho : Only G w w') (hG : ∀ k, G k → w0.heap.size ≤ k) : Held w0 w' p room st' l' :=
  ⟨ha.mono (fun k hk hlt => by
    rcases hk with hk | hk
    · exact hG k hk
    · exact Nat.le_trans h.b.size hk.1), h.b.trans (ho.below hG h.b.size)⟩
theorem Held.moved {st' : Int} {l' : List It} (h : Held w0 w p room st l) (hm : Moved w p (fun k => w0.heap.size ≤ k) room st' l' w') : Held w0 w' p room st' l' :=
  ⟨hm.1, h.b.trans (hm.2.below (fun _ hi => hi) h.b.size)⟩
theorem Held.old (h : Held w0 w p room st l) {b o : Nat} {v : Value} (hc : w0.cell? ⟨b, o, none⟩ = some v) : w.cell? ⟨b, o, none⟩ = some v :=
  (h.b.cell (p := ⟨b, o, none⟩) (World.block_lt_of_cell? w0 _ hc)).trans hc
end

section
variable {w0 w : World} {p : Nat} {room st : Int} {l : List It}

theorem new_held (r r' : Int) (w0 w : World) (h : Below w0.heap.size w0 w) (hr : min (max r 0) 60000 = r') :
    Calls Try.prog 8 #[.int .i64 r] w fun e w' => ∃ p, e = .returned (.pointer (some ⟨p, 0, none⟩)) ∧ Held w0 w' p r' 0 [] :=
  (new_any r w).mono fun e w' ⟨he, hw⟩ => ⟨w.heap.size, he, by
    subst hw; subst hr
    exact ⟨(new_arena _ w (by omega) (by omega)).mono (fun k hk _ => by subst hk; exact h.size), h.alloc h.size _⟩⟩

theorem room_held (h : Held w0 w p room st l) (n : Int) (hn : n = room - l.length) :
    Calls Try.prog 53 #[.pointer (some ⟨p, 0, none⟩)] w fun e w' => e = .returned (.int .i64 n) ∧ Held w0 w' p room st l := by
  subst hn
  exact (room_any w p _ room st l h.a).mono fun e w' ⟨he, n, hw⟩ => ⟨he, by subst hw; exact h.drewN n⟩
theorem kind_held (h : Held w0 w p room st l) (id n : Int) (hn : kindL l id = n) :
    Calls Try.prog 38 #[.pointer (some ⟨p, 0, none⟩), .int .i64 id] w fun e w' => e = .returned (.int .i64 n) ∧ Held w0 w' p room st l := by
  subst hn
  exact (kind_any id w p _ room st l h.a).mono fun e w' ⟨he, hb⟩ => ⟨he, h.below hb⟩
theorem val_held (h : Held w0 w p room st l) (id i n : Int) (hn : valL l id i = n) :
    Calls Try.prog 39 #[.pointer (some ⟨p, 0, none⟩), .int .i64 id, .int .i64 i] w fun e w' => e = .returned (.int .i64 n) ∧ Held w0 w' p room st l := by
  subst hn
  exact (val_any id i w p _ room st l h.a).mono fun e w' ⟨he, hb⟩ => ⟨he, h.below hb⟩

theorem cell_held (h : Held w0 w p room st l) (v n : Int) (l' : List It) (hr : (l.length : Int) < room) (hn : n = l.length + 1) (hl : l' = l ++ [(0, [v])]) :
    Calls Try.prog 30 #[.pointer (some ⟨p, 0, none⟩), .int .i64 v] w fun e w' => e = .returned (.tuple #[.int .i64 n, .int .i64 0]) ∧ Held w0 w' p room st l' := by
  subst hn; subst hl
  exact (cell_ok v w p _ room st l h.a hr).mono fun e w' ⟨he, ha, ho⟩ => ⟨by rw [he]; simp, h.only ha ho (fun _ hk => hk)⟩
theorem cell_held_full (h : Held w0 w p room st l) (v : Int) (hr : room = l.length) :
    Calls Try.prog 30 #[.pointer (some ⟨p, 0, none⟩), .int .i64 v] w fun e w' => e = .returned (.tuple #[.int .i64 0, .int .i64 2]) ∧ Held w0 w' p room st l :=
  (cell_full v w p _ room st l h.a hr).mono fun e w' ⟨he, hb⟩ => ⟨he, h.below hb⟩

theorem make_held_full (h : Held w0 w p room st l) (k : Int) (ao : Option Addr) (n c : Nat) (hk : 1 ≤ k) (hn : n ≤ 12) (hr : room = l.length) :
    Calls Try.prog 19 #[.pointer (some ⟨p, 0, none⟩), .int .i64 k, .slice ao n c] w fun e w' => e = .returned (.tuple #[.int .i64 0, .int .i64 2]) ∧ Held w0 w' p room st l :=
  (make_full k ao n c w p _ room st l h.a hk hn hr).mono fun e w' ⟨he, hb⟩ => ⟨he, h.below hb⟩
theorem make_held_arg (h : Held w0 w p room st l) (k : Int) (ao : Option Addr) (n c : Nat) (hn : n ≤ maxLen) (hk : k < 1 ∨ 12 < n) :
    Calls Try.prog 19 #[.pointer (some ⟨p, 0, none⟩), .int .i64 k, .slice ao n c] w fun e w' => e = .returned (.tuple #[.int .i64 0, .int .i64 1]) ∧ w = w' :=
  make_arg k ao n c w p hn hk
/-- Make of values that lay in memory before w0. -/
theorem make_held (h : Held w0 w p room st l) (k : Int) (vs : List Int) (x : Value) (n : Int) (l' : List It) (hk : 1 ≤ k) (hv : vs.length ≤ 12) (hx : Ints (fun k => w0.heap.size ≤ k) w x vs) (hr : (l.length : Int) < room) (hn : n = l.length + 1) (hl : l' = l ++ [(k, vs)]) :
    Calls Try.prog 19 #[.pointer (some ⟨p, 0, none⟩), .int .i64 k, x] w fun e w' => e = .returned (.tuple #[.int .i64 n, .int .i64 0]) ∧ Held w0 w' p room st l' := by
  subst hn; subst hl
  exact (make_ok k vs x w p _ room st l h.a hk hv hr hx).mono fun e w' ⟨he, ha, ho⟩ => ⟨by rw [he]; simp, h.only ha ho (fun _ hk => hk)⟩
/-- Make of values that the caller writes out: they lie in a new block. -/
theorem make_lit (h : Held w0 w p room st l) (k : Int) (vs : List Int) (cs : Array Value) (m : Nat) (n : Int) (l' : List It) (hk : 1 ≤ k) (hv : vs.length ≤ 12) (hm : vs.length = m) (hcs : cs = (vs.map (Value.int .i64)).toArray) (hr : (l.length : Int) < room) (hn : n = l.length + 1) (hl : l' = l ++ [(k, vs)]) :
    Calls Try.prog 19 #[.pointer (some ⟨p, 0, none⟩), .int .i64 k, .slice (some ⟨w.heap.size, 0, none⟩) m m] (w.alloc (.cells cs 3)) fun e w' => e = .returned (.tuple #[.int .i64 n, .int .i64 0]) ∧ Held w0 w' p room st l' := by
  subst hn; subst hl; subst hm; subst hcs
  refine (make_ok k vs _ _ p _ room st l (h.a.fresh _) hk hv hr (.inr ⟨⟨w.heap.size, 0, none⟩, vs.length, rfl, .inr (fun hh => hh.2 rfl), by unfold maxLen; omega, fun j hj => ?_⟩)).mono fun e w' ⟨he, ha, ho⟩ => ⟨by rw [he]; simp, (h.alloc _).only ha ho (fun _ hk => hk.1)⟩
  rw [add_lit, Nat.zero_add, World.cell?_alloc_new]
  simp [List.getD, List.getElem?_eq_getElem hj]
end

end Go.Proofs.Ytbmlpdkbiipcmaa
