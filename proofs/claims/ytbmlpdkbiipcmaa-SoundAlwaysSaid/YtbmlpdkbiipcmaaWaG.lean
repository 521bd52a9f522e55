/- Plain mathematics of walks: the pairs of a range, the pair next above a key. Whom a walk tells its pairs: the closures of walk.Range and walk.Count. Contract of walk's from: the pairs of the range are told, in order. Contract of walk's from over a treap. Contract of walk's from over a treap, where pairs are counted. Contracts of walk.Range, walk.Count, walk.All over the treap of sorted pairs. Contract of walk.Next over the treap of sorted pairs. osierref1.Between exactly: the pairs of a range, in a row of its own; osierref1.SamePairs of the same pairs. Walks over an arena that a law holds. -/
import Derived.Test.YtbmlpdkbiipcmaaNtG
import Derived.Test.YtbmlpdkbiipcmaaPtG
import Derived.Deep.RegionLaw
import Derived.Deep.QuietTactic
import Derived.BigQuiet
import Derived.Deep.RegionHeld3
import Derived.Laws.EntriesVeiled
import Derived.Test.YtbmlpdkbiipcmaaLkG
namespace Go.Proofs.Ytbmlpdkbiipcmaa
set_option linter.all false

/-- The pairs whose keys are lo to hi. -/
def rngL (l : List Pr) (lo hi : Int) : List Pr := l.filter (fun z => decide (lo ≤ z.1) && decide (z.1 ≤ hi))
theorem rngL_nil (lo hi : Int) : rngL [] lo hi = [] := rfl
theorem rngL_mem {l : List Pr} {lo hi : Int} {z : Pr} : z ∈ rngL l lo hi ↔ z ∈ l ∧ lo ≤ z.1 ∧ z.1 ≤ hi := by
  unfold rngL
  rw [List.mem_filter, Bool.and_eq_true, decide_eq_true_iff, decide_eq_true_iff]
theorem rngL_srt {l : List Pr} (h : Srt l) (lo hi : Int) : Srt (rngL l lo hi) := h.filter _
theorem rngL_len (l : List Pr) (lo hi : Int) : (rngL l lo hi).length ≤ l.length := List.length_filter_le _ _
theorem rngL_app (A B : List Pr) (lo hi : Int) : rngL (A ++ B) lo hi = rngL A lo hi ++ rngL B lo hi := List.filter_append ..
theorem rngL_in {q : Pr} {lo hi : Int} (h1 : lo ≤ q.1) (h2 : q.1 ≤ hi) (B : List Pr) : rngL (q :: B) lo hi = q :: rngL B lo hi := List.filter_cons_of_pos (by simp; omega)
theorem rngL_out {q : Pr} {lo hi : Int} (h : ¬ (lo ≤ q.1 ∧ q.1 ≤ hi)) (B : List Pr) : rngL (q :: B) lo hi = rngL B lo hi := List.filter_cons_of_neg (by simp; omega)
theorem rngL_none {l : List Pr} {lo hi : Int} (h : ∀ z ∈ l, ¬ (lo ≤ z.1 ∧ z.1 ≤ hi)) : rngL l lo hi = [] :=
  List.filter_eq_nil_iff.2 (fun z hz => by have := h z hz; simp; omega)
theorem rngL_all {l : List Pr} {lo hi : Int} (h : ∀ z ∈ l, lo ≤ z.1 ∧ z.1 ≤ hi) : rngL l lo hi = l :=
  List.filter_eq_self.2 (fun z hz => by have := h z hz; simp; omega)
theorem rngL_wrong {l : List Pr} {lo hi : Int} (h : hi < lo) : rngL l lo hi = [] := rngL_none (fun z _ hz => by omega)

section
variable {A B : List Pr} {q : Pr} {lo hi : Int}
theorem rngL_both (h1 : lo ≤ q.1) (h2 : q.1 ≤ hi) : rngL (A ++ q :: B) lo hi = rngL A lo hi ++ q :: rngL B lo hi := by rw [rngL_app, rngL_in h1 h2]
theorem rngL_left (hs : Srt (A ++ q :: B)) (h2 : hi < q.1) : rngL (A ++ q :: B) lo hi = rngL A lo hi := by
  obtain ⟨_, _, _, hB⟩ := hs.parts
  rw [rngL_app, rngL_out (by omega), rngL_none (l := B) (fun z hz => by have := hB z hz; omega), List.append_nil]
theorem rngL_right (hs : Srt (A ++ q :: B)) (h1 : q.1 < lo) : rngL (A ++ q :: B) lo hi = rngL B lo hi := by
  obtain ⟨_, _, hA, _⟩ := hs.parts
  rw [rngL_app, rngL_out (by omega), rngL_none (l := A) (fun z hz => by have := hA z hz; omega), List.nil_append]
end

/-- The pair of the lowest key above a key. -/
def nextL (l : List Pr) (k : Int) : Option Pr := l.find? (fun z => decide (k < z.1))
theorem nextL_nil (k : Int) : nextL [] k = none := rfl
theorem nextL_none {l : List Pr} {k : Int} (h : ∀ z ∈ l, z.1 ≤ k) : nextL l k = none := by
  unfold nextL
  rw [List.find?_eq_none]
  intro z hz
  have := h z hz
  simp; omega
theorem nextL_app (A B : List Pr) (k : Int) : nextL (A ++ B) k = (nextL A k).or (nextL B k) := List.find?_append ..
theorem nextL_here {q : Pr} {k : Int} (h : k < q.1) (B : List Pr) : nextL (q :: B) k = some q := List.find?_cons_of_pos (by simpa using h)
theorem nextL_past {q : Pr} {k : Int} (h : q.1 ≤ k) (B : List Pr) : nextL (q :: B) k = nextL B k := List.find?_cons_of_neg (by simp; omega)
section
variable {A B : List Pr} {q : Pr} {k : Int}
theorem nextL_left (h : k < q.1) : nextL (A ++ q :: B) k = (nextL A k).or (some q) := by rw [nextL_app, nextL_here h]
theorem nextL_right (hs : Srt (A ++ q :: B)) (h : q.1 ≤ k) : nextL (A ++ q :: B) k = nextL B k := by
  obtain ⟨_, _, hA, _⟩ := hs.parts
  rw [nextL_app, nextL_past h, nextL_none (l := A) (fun z hz => by have := hA z hz; omega), Option.none_or]
end
end Go.Proofs.Ytbmlpdkbiipcmaa

namespace Go.Proofs.Ytbmlpdkbiipcmaa
open Go.RowKit
set_option linter.all false

theorem Only.keepF {S : Nat → Prop} {W W' : World} {p : Addr} (h : Only S W W') (hl : p.block < W.heap.size) (hf : W.frozen? p = false) (hp : ¬ S p.block) : W'.frozen? p = false :=
  (World.frozen?_of_block (a := p) (h.block p.block hl hp)).trans hf

/-- Told a pair: what it has been told so far; what S has stays. -/
structure Teller (f : Nat) (c : Nat) (I : (Nat → Prop) → List Pr → World → Prop) : Prop where
  stay : ∀ S l W W', I S l W → Only S W W' → I S l W'
  sub : ∀ S S' l W, I S l W → (∀ k, k < W.heap.size → S' k → S k) → I S' l W
  tell : ∀ S l W (q : Pr), I S l W → (∀ k, S k → k < W.heap.size) → l.length ≤ 1000 →
    Calls Try.prog f #[.agg #[.int .i64 q.1, .int .i64 q.2], .pointer (some ⟨c, 0, none⟩)] W fun e w' => e = .returned (.tuple #[]) ∧ I S (l ++ [q]) w' ∧ Only (fun k => ¬ S k) W w'

/-- A variable that holds a row of pairs of one's own. -/
structure RowIn (c : Nat) (S : Nat → Prop) (l : List Pr) (W : World) (v : Value) : Prop where
  cell : W.cell? ⟨c, 0, none⟩ = some v
  free : W.frozen? ⟨c, 0, none⟩ = false
  out : ¬ S c
  row : PRow W (fun k => S k ∨ k = c) v l
def RowAt (c : Nat) (S : Nat → Prop) (l : List Pr) (W : World) : Prop := ∃ v, RowIn c S l W v

/-- A variable that holds a number. -/
structure NumAt (c : Nat) (S : Nat → Prop) (l : List Pr) (W : World) : Prop where
  cell : W.cell? ⟨c, 0, none⟩ = some (.int .i64 (l.length : Int))
  free : W.frozen? ⟨c, 0, none⟩ = false
  out : ¬ S c

theorem PRow.only {W W' : World} {S T : Nat → Prop} {v : Value} {l : List Pr} (h : PRow W S v l) (o : Only T W W') (hT : ∀ k, T k → S k) : PRow W' S v l :=
  ⟨o.row h.row (fun k hk hs => h.av k hk (hT k hs)), h.av⟩

theorem RowAt.stay {c : Nat} {S : Nat → Prop} {l : List Pr} {W W' : World} (h : RowAt c S l W) (o : Only S W W') : RowAt c S l W' := by
  obtain ⟨v, h1, h2, h3, h4⟩ := h
  exact ⟨v, o.cell h1 h3, o.keepF (World.block_lt_of_cell? W _ h1) h2 h3, h3, h4.only o (fun k hk => .inl hk)⟩
theorem RowAt.sub {c : Nat} {S S' : Nat → Prop} {l : List Pr} {W : World} (h : RowAt c S l W) (hS : ∀ k, k < W.heap.size → S' k → S k) : RowAt c S' l W := by
  obtain ⟨v, h1, h2, h3, h4⟩ := h
  exact ⟨v, h1, h2, fun hs => h3 (hS c (World.block_lt_of_cell? W _ h1) hs), h4.sub (fun k hk hs => hs.imp (hS k hk) id)⟩

end Go.Proofs.Ytbmlpdkbiipcmaa

namespace Go.Proofs.Ytbmlpdkbiipcmaa
open Go.RowKit
set_option linter.all false

/-- The walk's own block, as from reads it. -/
structure Ws (W : World) (wb p c f : Nat) (lo hi more : Int) : Prop where
  c0 : W.cell? ⟨wb, 0, none⟩ = some (.pointer (some ⟨p, 0, none⟩))
  c1 : W.cell? ⟨wb, 1, none⟩ = some (.int .i64 lo)
  c2 : W.cell? ⟨wb, 2, none⟩ = some (.int .i64 hi)
  c3 : W.cell? ⟨wb, 3, none⟩ = some (.int .i64 more)
  c4 : W.cell? ⟨wb, 4, none⟩ = some (.func (.func f) #[] #[.pointer (some ⟨c, 0, none⟩)])
  f3 : W.frozen? ⟨wb, 3, none⟩ = false

section
variable {W0 W W' w1 : World} {wb p c f nb : Nat} {lo hi more more' k v x y s h : Int} {S T : Nat → Prop} {I : (Nat → Prop) → List Pr → World → Prop} {told l : List Pr} {e : Ending}
theorem Ws.only (h : Ws W wb p c f lo hi more) (o : Only T W W') (hT : ¬ T wb) : Ws W' wb p c f lo hi more :=
  ⟨o.cell h.c0 hT, o.cell h.c1 hT, o.cell h.c2 hT, o.cell h.c3 hT, o.cell h.c4 hT, o.keepF (World.block_lt_of_cell? _ _ h.c3) h.f3 hT⟩
theorem Ws.keep (h : Ws W wb p c f lo hi more) (hb : Below W.heap.size W W') : Ws W' wb p c f lo hi more := h.only (T := fun _ => False) (Only.ofBelow hb) (fun h => h)
theorem Ws.less (h : Ws W wb p c f lo hi more) (m : Int) : Ws (W.setCell ⟨wb, 3, none⟩ (.int .i64 m)) wb p c f lo hi m :=
  ⟨keepc h.c0 (by decide), keepc h.c1 (by decide), keepc h.c2 (by decide), World.cell?_setCell_same _ _ _ h.c3, keepc h.c4 (by decide), by simpa using h.f3⟩
theorem Ws.lt (h : Ws W wb p c f lo hi more) : wb < W.heap.size := World.block_lt_of_cell? W _ h.c0

/-- What from tells. -/
def FromSays (I : (Nat → Prop) → List Pr → World → Prop) (S : Nat → Prop) (W : World) (wb p c f : Nat) (lo hi more : Int) (told l : List Pr) (e : Ending) (w' : World) : Prop :=
  e = .returned (.tuple #[]) ∧ ∃ more' : Int, more - l.length ≤ more' ∧ more' ≤ more ∧ I (fun j => S j ∨ j = wb) (told ++ rngL l lo hi) w' ∧ Ws w' wb p c f lo hi more' ∧ Only (fun j => ¬ S j) W w'

/-- The frame of a from behind its node. -/
structure St (I : (Nat → Prop) → List Pr → World → Prop) (S : Nat → Prop) (W0 W : World) (nb wb p c f : Nat) (lo hi more : Int) (told : List Pr) (k v x y s h : Int) : Prop where
  n : NodeAt W nb k v x y s h
  s : Ws W wb p c f lo hi more
  i : I (fun j => (S j ∨ j = nb) ∨ j = wb) told W
  o : Only (fun j => ¬ S j) W0 W
  l0 : W0.heap.size ≤ nb
  lw : wb < W0.heap.size

theorem St.cells (H : St I S W0 W nb wb p c f lo hi more told k v x y s h) :
    (W.cell? ⟨nb, 0, none⟩ = some (.int .i64 k) ∧ W.cell? ⟨nb, 1, none⟩ = some (.int .i64 v) ∧ W.cell? ⟨nb, 2, none⟩ = some (.int .i64 x) ∧ W.cell? ⟨nb, 3, none⟩ = some (.int .i64 y)) ∧
    W.cell? ⟨wb, 1, none⟩ = some (.int .i64 lo) ∧ W.cell? ⟨wb, 2, none⟩ = some (.int .i64 hi) ∧ W.cell? ⟨wb, 4, none⟩ = some (.func (.func f) #[] #[.pointer (some ⟨c, 0, none⟩)]) :=
  ⟨⟨H.n.c0, H.n.c1, H.n.c2, H.n.c3⟩, H.s.c1, H.s.c2, H.s.c4⟩
theorem St.keep (T : Teller f c I) (H : St I S W0 W nb wb p c f lo hi more told k v x y s h) (hb : Below W.heap.size W W') : St I S W0 W' nb wb p c f lo hi more told k v x y s h :=
  ⟨H.n.keep hb, H.s.keep hb, T.stay _ _ _ _ H.i (Only.ofBelow hb), H.o.trans (T := fun _ => False) (Only.ofBelow hb) (fun _ hf => hf.elim), H.l0, H.lw⟩
theorem St.called (T : Teller f c I) (H : St I S W0 W nb wb p c f lo hi more told k v x y s h) (hS : ¬ S wb) (m : FromSays I (fun j => S j ∨ j = nb) W wb p c f lo hi more told l e W') :
    ∃ more', more - l.length ≤ more' ∧ more' ≤ more ∧ St I S W0 W' nb wb p c f lo hi more' (told ++ rngL l lo hi) k v x y s h := by
  obtain ⟨_, more', h1, h2, h3, h4, h5⟩ := m
  exact ⟨more', h1, h2, H.n.only h5 (fun hn => hn (.inr rfl)), h4, h3, H.o.trans h5 (fun i hi _ hs => hi (.inl hs)), H.l0, H.lw⟩
theorem St.tell (H : St I S W0 W nb wb p c f lo hi more told k v x y s h) {q : Pr} (hi' : I (fun j => (S j ∨ j = nb) ∨ j = wb) (told ++ [q]) W') (o : Only (fun j => ¬ ((S j ∨ j = nb) ∨ j = wb)) W W') :
    St I S W0 W' nb wb p c f lo hi more (told ++ [q]) k v x y s h :=
  ⟨H.n.only o (fun hn => hn (.inl (.inr rfl))), H.s.only o (fun hn => hn (.inr rfl)), hi', H.o.trans o (fun i hi _ hs => hi (.inl (.inl hs))), H.l0, H.lw⟩
theorem St.done (T : Teller f c I) (H : St I S W0 W nb wb p c f lo hi more told k v x y s h) : I (fun j => S j ∨ j = wb) told W := T.sub _ _ _ _ H.i (fun j _ hj => hj.imp .inl id)
theorem St.inS (H : St I S W0 W nb wb p c f lo hi more told k v x y s h) (hS : ∀ j, S j → j < W0.heap.size) : (∀ j, S j ∨ j = nb → j < W.heap.size) ∧ (∀ j, (S j ∨ j = nb) ∨ j = wb → j < W.heap.size) ∧ ¬ wb = nb := by
  have h1 := H.o.size
  have h2 := H.n.lt
  have h3 := H.l0
  have h4 := H.lw
  refine ⟨fun j hj => ?_, fun j hj => ?_, by omega⟩
  · rcases hj with hj | hj
    · have := hS j hj; omega
    · omega
  · rcases hj with (hj | hj) | hj
    · have := hS j hj; omega
    · omega
    · omega
theorem St.low (H : St I S W0 W nb wb p c f lo hi more told k v x y s h) (hL : ∀ j, j < w1.heap.size → S j) (hb : Below w1.heap.size w1 W0) : Below w1.heap.size w1 W :=
  hb.trans (H.o.below (fun i hi => Nat.le_of_not_lt (fun hlt => hi (hL i hlt))) hb.size)
theorem St.begin (T : Teller f c I) {w2 : World} (hi' : I (fun j => S j ∨ j = wb) told W0) (hs : Ws W0 wb p c f lo hi more) (hS : ¬ S wb) (hSl : ∀ j, S j → j < W0.heap.size) (hb : Below W0.heap.size W0 w2) (m : Int) :
    St I S W0 ((w2.alloc (.cells #[.int .i64 k, .int .i64 v, .int .i64 x, .int .i64 y, .int .i64 s, .int .i64 h] 41)).setCell ⟨wb, 3, none⟩ (.int .i64 m)) w2.heap.size wb p c f lo hi m told k v x y s h := by
  have ba : Below w2.heap.size w2 (w2.alloc (.cells #[.int .i64 k, .int .i64 v, .int .i64 x, .int .i64 y, .int .i64 s, .int .i64 h] 41)) := (Below.refl _ _).alloc (Nat.le_refl _) _
  have hba := hb.trans (ba.mono hb.size)
  have o1 : Only (fun j => j = wb) (w2.alloc (.cells #[.int .i64 k, .int .i64 v, .int .i64 x, .int .i64 y, .int .i64 s, .int .i64 h] 41)) ((w2.alloc (.cells #[.int .i64 k, .int .i64 v, .int .i64 x, .int .i64 y, .int .i64 s, .int .i64 h] 41)).setCell ⟨wb, 3, none⟩ (.int .i64 m)) := (Only.refl _ _).setAt _
  have hn := (Six.new w2 k v x y s h 41).toNodeAt
  have hlw := hs.lt
  have hb' := hb.size
  refine ⟨hn.only o1 (by omega), (hs.keep hba).less m, ?_, (Only.ofBelow (S := fun j => ¬ S j) hba).trans o1 (fun i hi _ => hi ▸ hS), hb', hlw⟩
  have h1 := T.stay _ _ _ _ hi' (Only.ofBelow hb)
  have h2 := T.sub _ (fun j => (S j ∨ j = w2.heap.size) ∨ j = wb) _ _ h1 (fun j hj hjs => by
    rcases hjs with (hjs | hjs) | hjs
    · exact .inl hjs
    · omega
    · exact .inr hjs)
  exact T.stay _ _ _ _ (T.stay _ _ _ _ h2 (Only.ofBelow ba)) (o1.mono (fun i hi _ => .inr hi))
end

end Go.Proofs.Ytbmlpdkbiipcmaa

namespace Go.Proofs.Ytbmlpdkbiipcmaa
open Go.RowKit
set_option linter.all false

end Go.Proofs.Ytbmlpdkbiipcmaa

namespace Go.Proofs.Ytbmlpdkbiipcmaa
open Go.RowKit
set_option linter.all false

end Go.Proofs.Ytbmlpdkbiipcmaa

namespace Go.Proofs.Ytbmlpdkbiipcmaa
open Go.RowKit
set_option linter.all false

theorem Ws.new (W : World) (p c f : Nat) (lo hi more : Int) (t : TypeId) :
    Ws (W.alloc (.cells #[.pointer (some ⟨p, 0, none⟩), .int .i64 lo, .int .i64 hi, .int .i64 more, .func (.func f) #[] #[.pointer (some ⟨c, 0, none⟩)]] t)) W.heap.size p c f lo hi more := by
  refine ⟨?_, ?_, ?_, ?_, ?_, ?_⟩ <;> simp

section
variable {p : Nat} {F : Nat → Prop} {room st : Int} {L : List It} {w1 W : World} {c : Nat} {lo hi t : Int} {I : (Nat → Prop) → List Pr → World → Prop} {l : List Pr} {f : Nat}

/-- What within tells. -/
def InSays (I : (Nat → Prop) → List Pr → World → Prop) (w1 : World) (l : List Pr) (e : Ending) (w' : World) : Prop :=
  e = .returned (.tuple #[]) ∧ I (fun j => j < w1.heap.size) l w' ∧ Below w1.heap.size w1 w'

theorem within_start (T : Teller f c I) (hI : I (fun j => j < w1.heap.size) [] W) (hb : Below w1.heap.size w1 W) (p : Nat) (lo hi more : Int) (ty : TypeId) :
    I (fun j => j < w1.heap.size ∨ j = W.heap.size) [] (W.alloc (.cells #[.pointer (some ⟨p, 0, none⟩), .int .i64 lo, .int .i64 hi, .int .i64 more, .func (.func f) #[] #[.pointer (some ⟨c, 0, none⟩)]] ty)) :=
  T.stay _ _ _ _ (T.sub _ _ _ _ hI (fun j hj hjs => hjs.elim id (fun e => by omega))) (Only.ofBelow ((Below.refl _ _).alloc (Nat.le_refl _) _))
theorem within_end (T : Teller f c I) (hb : Below w1.heap.size w1 W) {wb pp : Nat} {more : Int} {w' : World} {e : Ending} {a : Obj}
    (m : FromSays I (fun j => j < w1.heap.size) (W.alloc a) wb pp c f lo hi more [] l e w') : InSays I w1 (rngL l lo hi) e w' := by
  obtain ⟨he, more', _, _, hi', _, ho⟩ := m
  have hba := hb.alloc hb.size a
  exact ⟨he, T.sub _ _ _ _ hi' (fun j _ hj => .inl hj), hba.trans (ho.below (fun i hi => Nat.le_of_not_lt hi) hba.size)⟩

theorem rowNew (w : World) (ty : TypeId) : RowAt w.heap.size (fun j => j < w.heap.size) [] (w.alloc (.cells #[.slice none 0 0] ty)) :=
  ⟨.slice none 0 0, by simp, by simp, by omega, PRow.nil _ _⟩
theorem numNew (w : World) (ty : TypeId) : NumAt w.heap.size (fun j => j < w.heap.size) [] (w.alloc (.cells #[.int .i64 0] ty)) :=
  ⟨by simp, by simp, by omega⟩

/-- What Range tells: a row of its own. -/
def RangeSays (w : World) (l : List Pr) (e : Ending) (w' : World) : Prop :=
  ∃ v, e = .returned v ∧ PRow w' (fun j => j < w.heap.size) v l ∧ Below w.heap.size w w'

end
end Go.Proofs.Ytbmlpdkbiipcmaa

namespace Go.Proofs.Ytbmlpdkbiipcmaa
open Go.RowKit
set_option linter.all false

/-- What way.At tells of a treap. -/
def AtT (L : List It) (t : Int) (l : List Pr) (B : Bool) (m0 m1 m2 m3 m4 m5 : Int) : Prop :=
  (B = false ∧ l = []) ∨ (B = true ∧ ∃ A C, l = A ++ (m0, m1) :: C ∧ Apart L t m2 m3 A C (m0, m1))
theorem at_treap {w : World} {p : Nat} {F : Nat → Prop} {room st : Int} {L : List It} {t : Int} {l : List Pr} (hA : Arena w p F room st L) (hT : Tree L t l) (hs : Srt l) (hl : l.length ≤ 1000) :
    ∃ (B : Bool) (m0 m1 m2 m3 m4 m5 : Int), AtT L t l B m0 m1 m2 m3 m4 m5 ∧ ∀ W, Below w.heap.size w W →
      Calls Try.prog 51 #[.pointer (some ⟨p, 0, none⟩), .int .i64 t] W fun e w' => e = .returned (.tuple #[.agg #[.int .i64 m0, .int .i64 m1, .int .i64 m2, .int .i64 m3, .int .i64 m4, .int .i64 m5], .bool B]) ∧ Below W.heap.size W w' := by
  rcases hT.apart hs with ⟨rfl, rfl⟩ | ⟨x, y, A, C, q, rfl, h⟩
  · exact ⟨false, 0, 0, 0, 0, 0, 0, .inl ⟨rfl, rfl⟩, fun W hb => at_zero (hA.below hb)⟩
  · rw [List.length_append, List.length_cons] at hl
    obtain ⟨n0, n1, n2, n3, n4, n5, n6⟩ := node_says h.item
    have gx := (h.tx.hung (by omega)).1
    have gy := (h.ty.hung (by omega)).1
    refine ⟨true, q.1, q.2, x, y, valL L t 4, valL L t 5, .inr ⟨rfl, A, C, rfl, h⟩, fun W0 hb0 => ?_⟩
    have hA := hA.below hb0
    refine at_core (some ⟨p, 0, none⟩) t q.1 q.2 x y _ _ true W0 (fun W hb => ?_) (fun W hb => counted_ok (hA.below hb) t x gx.ok (.inl h.hx)) (fun W hb => counted_ok (hA.below hb) t y gy.ok (.inl h.hy))
    have := get_yes t W p F room st L (hA.below hb) n0
    rw [n1, n2, n3, n4] at this
    exact this

theorem Two.put2 {W : World} {b : Nat} {m0 m1 : Int} (h : Two W b m0 m1) (u0 u1 : Int) :
    ∃ Wf, Wf = ((W.setCell ⟨b, 0, none⟩ (.int .i64 u0)).setCell ⟨b, 1, none⟩ (.int .i64 u1)) ∧ Two Wf b u0 u1 ∧ Only (fun k => k = b) W Wf ∧ Below b W Wf := by
  obtain ⟨Wf, e, h0, h1, hb⟩ := h.put u0 u1
  refine ⟨Wf, e, ⟨h0, h1, ?_, ?_⟩, ?_, hb⟩
  · rw [e]; simp only [World.frozen?_setCell]; exact h.f0
  · rw [e]; simp only [World.frozen?_setCell]; exact h.f1
  · rw [e]; exact ((Only.refl (fun k => k = b) W).setAt _).setAt _

end Go.Proofs.Ytbmlpdkbiipcmaa

namespace Go.Proofs.Ytbmlpdkbiipcmaa
open Go.RowKit
set_option linter.all false

theorem rngL_take {l : List Pr} {n : Nat} {q : Pr} (lo hi : Int) (hq : l[n]? = some q) : rngL (l.take (n + 1)) lo hi = rngL (l.take n) lo hi ++ rngL [q] lo hi := by
  have e : l.take (n + 1) = l.take n ++ [q] := by rw [List.take_succ, hq]; rfl
  rw [e, rngL_app]

/-- What the loop keeps. -/
structure BLoop (w wr : World) (out : Value) (ks : List Pr) : Prop where
  row : PRow wr (fun j => j < w.heap.size) out ks
  b : Below w.heap.size w wr
theorem BLoop.push {w wr w1 : World} {out out' : Value} {ks : List Pr} {q : Pr} (h : BLoop w wr out ks)
    (hR : PRow w1 (fun j => j < w.heap.size) out' (ks ++ [q])) (hO : Only (fun j => ¬ (j < w.heap.size)) wr w1) : BLoop w w1 out' (ks ++ [q]) :=
  ⟨hR, h.b.trans (hO.below (fun i hi => Nat.le_of_not_lt hi) h.b.size)⟩

set_option maxRecDepth 100000 in
set_option maxHeartbeats 6400000 in
theorem same_any (a a2 : Option Addr) (cap cap2 n1 n2 : Nat) (l : List Pr) (w : World) (h : Prs w a cap l) (h2 : Prs w a2 cap2 l) (hn1 : n1 = l.length) (hn2 : n2 = l.length) :
    Calls Try.prog 12 #[.slice a n1 cap, .slice a2 n2 cap2] w fun e w' => e = .returned (.bool true) ∧ Below w.heap.size w w' := by
  subst hn1
  subst hn2
  have HH := Lib.hid h
  have HH2 := Lib.hid h2
  have hc1 := h.1
  have hc2 := h.2.1
  have hc3 := h2.1
  have hc4 := h2.2.1
  clear h h2
  unfold maxLen at hc2 hc4
  go_enter Try.func12, Try.ntmps12
  go_wp2_with (fail)
  go_loopw [13] (fun i wr => ∃ n : Nat, n ≤ l.length ∧ i = .int .i64 n ∧ Below w.heap.size w wr) (fun i _ => l.length - (intOf i).toNat)
  case atStart => exact ⟨0, Nat.zero_le _, rfl, Below.refl _ _⟩
  case round =>
    obtain ⟨n, hn, rfl, hb⟩ := hrel
    by_cases hlt : n < l.length
    · obtain ⟨q, hq⟩ : ∃ q, l[n]? = some q := ⟨_, List.getElem?_eq_getElem hlt⟩
      obtain ⟨b, o, rfl, c0, c1⟩ := (HH.out.below hb).2.2 n q hq
      obtain ⟨b', o', rfl, d0, d1⟩ := (HH2.out.below hb).2.2 n q hq
      obtain ⟨x0, x1⟩ := q
      dsimp only at c0 c1 d0 d1
      clear hq
      have hn0 : (0 : Int) ≤ (n : Int) := by omega
      have hnl : (n : Int) < (l.length : Int) := by omega
      go_wp2_with (fail)
      go_quiet (fail)
      go_wp2_with (fail)
      go_roundw
      case rel => exact ⟨n + 1, by omega, by go_num, below_drewN hb _⟩
      case measure => simp [intOf]; omega
    · obtain rfl : n = l.length := by omega
      go_wp2_with (fail)
      go_ret
      exact ⟨rfl, hb⟩
end Go.Proofs.Ytbmlpdkbiipcmaa

namespace Go.Proofs.Ytbmlpdkbiipcmaa
open Go.RowKit
set_option linter.all false

section
variable {w0 w : World} {p : Nat} {room st : Int} {L : List It} {t : Int} {l : List Pr}
/-- A row of its own with its place and its length. -/
def RowOut (w : World) (l : List Pr) (n : Nat) (e : Ending) (w' : World) : Prop :=
  ∃ (ao : Option Addr) (cp : Nat), e = .returned (.slice ao n cp) ∧ n ≤ cp ∧ cp ≤ maxLen ∧ PRow w' (fun j => j < w.heap.size) (.slice ao n cp) l ∧ Below w.heap.size w w'
theorem RowOut.of {e : Ending} {w' : World} {n : Nat} (h : RangeSays w l e w') (hn : l.length = n) : RowOut w l n e w' := by
  subst hn
  obtain ⟨v, rfl, hP, hb⟩ := h
  obtain ⟨ao, cp, rfl, h1, h2⟩ := hP.form
  exact ⟨ao, cp, rfl, h1, h2, hP, hb⟩
end

end Go.Proofs.Ytbmlpdkbiipcmaa
