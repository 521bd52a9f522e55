/- Plain mathematics of walks: the pairs of a range, the pair next above a key. Whom a walk tells its pairs: the closures of walk.Range and walk.Count. Contract of walk's from: the pairs of the range are told, in order. Contract of walk's from over a treap. Contract of walk's from over a treap, where pairs are counted. Contracts of walk.Range, walk.Count, walk.All over the treap of sorted pairs. Contract of walk.Next over the treap of sorted pairs. osierref1.Between exactly: the pairs of a range, in a row of its own; osierref1.SamePairs of the same pairs. Walks over an arena that a law holds. -/
import Derived.Test.YtbaeemonkgllhaaNtG
import Derived.Test.YtbaeemonkgllhaaPtG
import Derived.Deep.RegionLaw
import Derived.Deep.QuietTactic
import Derived.BigQuiet
import Derived.Deep.RegionHeld3
import Derived.Laws.EntriesVeiled
import Derived.Test.YtbaeemonkgllhaaLkG
namespace Go.Proofs.Ytbaeemonkgllhaa
set_option linter.all false

/-- The pairs whose keys are lo to hi. -/
def rngL (l : List Pr) (lo hi : Int) : List Pr := l.filter (fun z => decide (lo ≤ z.1) && decide (z.1 ≤ hi))
theorem rngL_nil (lo hi : Int) : rngL [] lo hi = [] := rfl
theorem rngL_mem {l : List Pr} {lo hi : Int} {z : Pr} : z ∈ rngL l lo hi ↔ z ∈ l ∧ lo ≤ z.1 ∧ z.1 ≤ hi := by
  unfold rngL
  rw [List.mem_filter, Bool.and_eq_true, decide_eq_true_iff, decide_eq_true_iff]
theorem rngL_srt {l : List Pr} (h : Srt l) (lo hi : Int) : Srt (rngL l lo hi) := h.filter _
theorem rngL_len (l : List Pr) (lo hi : Int) : (rngL l lo hi).length ≤ l.length := List.length_filter_le _ _
theorem rngL_app (A B : List Pr) (lo hi : Int) : rngL (A ++ B) lo hi = rngL A lo hi ++ rngL B lo hi := List.filter_append ..
theorem rngL_in {q : Pr} {lo hi : Int} (h1 : lo ≤ q.1) (h2 : q.1 ≤ hi) (B : List Pr) : rngL (q :: B) lo hi = q :: rngL B lo hi := List.filter_cons_of_pos (by simp; omega)
theorem rngL_out {q : Pr} {lo hi : Int} (h : ¬ (lo ≤ q.1 ∧ q.1 ≤ hi)) (B : List Pr) : rngL (q :: B) lo hi = rngL B lo hi := List.filter_cons_of_neg (by simp; omega)
theorem rngL_none {l : List Pr} {lo hi : Int} (h : ∀ z ∈ l, ¬ (lo ≤ z.1 ∧ z.1 ≤ hi)) : rngL l lo hi = [] :=
  List.filter_eq_nil_iff.2 (fun z hz => by have := h z hz; simp; omega)
theorem rngL_all {l : List Pr} {lo hi : Int} (h : ∀ z ∈ l, lo ≤ z.1 ∧ z.1 ≤ hi) : rngL l lo hi = l :=
  List.filter_eq_self.2 (fun z hz => by have := h z hz; simp; omega)
theorem rngL_wrong {l : List Pr} {lo hi : Int} (h : hi < lo) : rngL l lo hi = [] := rngL_none (fun z _ hz => by omega)

section
variable {A B : List Pr} {q : Pr} {lo hi : Int}
theorem rngL_both (h1 : lo ≤ q.1) (h2 : q.1 ≤ hi) : rngL (A ++ q :: B) lo hi = rngL A lo hi ++ q :: rngL B lo hi := by rw [rngL_app, rngL_in h1 h2]
theorem rngL_left (hs : Srt (A ++ q :: B)) (h2 : hi < q.1) : rngL (A ++ q :: B) lo hi = rngL A lo hi := by
  obtain ⟨_, _, _, hB⟩ := hs.parts
  rw [rngL_app, rngL_out (by omega), rngL_none (l := B) (fun z hz => by have := hB z hz; omega), List.append_nil]
theorem rngL_right (hs : Srt (A ++ q :: B)) (h1 : q.1 < lo) : rngL (A ++ q :: B) lo hi = rngL B lo hi := by
  obtain ⟨_, _, hA, _⟩ := hs.parts
  rw [rngL_app, rngL_out (by omega), rngL_none (l := A) (fun z hz => by have := hA z hz; omega), List.nil_append]
end

/-- The pair of the lowest key above a key. -/
def nextL (l : List Pr) (k : Int) : Option Pr := l.find? (fun z => decide (k < z.1))
theorem nextL_nil (k : Int) : nextL [] k = none := rfl
theorem nextL_none {l : List Pr} {k : Int} (h : ∀ z ∈ l, z.1 ≤ k) : nextL l k = none := by
  unfold nextL
  rw [List.find?_eq_none]
  intro z hz
  have := h z hz
  simp; omega
theorem nextL_app (A B : List Pr) (k : Int) : nextL (A ++ B) k = (nextL A k).or (nextL B k) := List.find?_append ..
theorem nextL_here {q : Pr} {k : Int} (h : k < q.1) (B : List Pr) : nextL (q :: B) k = some q := List.find?_cons_of_pos (by simpa using h)
theorem nextL_past {q : Pr} {k : Int} (h : q.1 ≤ k) (B : List Pr) : nextL (q :: B) k = nextL B k := List.find?_cons_of_neg (by simp; omega)
section
variable {A B : List Pr} {q : Pr} {k : Int}
theorem nextL_left (h : k < q.1) : nextL (A ++ q :: B) k = (nextL A k).or (some q) := by rw [nextL_app, nextL_here h]
theorem nextL_right (hs : Srt (A ++ q :: B)) (h : q.1 ≤ k) : nextL (A ++ q :: B) k = nextL B k := by
  obtain ⟨_, _, hA, _⟩ := hs.parts
  rw [nextL_app, nextL_past h, nextL_none (l := A) (fun z hz => by have := hA z hz; omega), Option.none_or]
end
end Go.Proofs.Ytbaeemonkgllhaa

namespace Go.Proofs.Ytbaeemonkgllhaa
open Go.RowKit
set_option linter.all false

theorem Only.keepF {S : Nat → Prop} {W W' : World} {p : Addr} (h : Only S W W') (hl : p.block < W.heap.size) (hf : W.frozen? p = false) (hp : ¬ S p.block) : W'.frozen? p = false :=
  (World.frozen?_of_block (a := p) (h.block p.block hl hp)).trans hf

/-- Told a pair: what it has been told so far; what S has stays. -/
structure Teller (f : Nat) (c : Nat) (I : (Nat → Prop) → List Pr → World → Prop) : Prop where
  stay : ∀ S l W W', I S l W → Only S W W' → I S l W'
  sub : ∀ S S' l W, I S l W → (∀ k, k < W.heap.size → S' k → S k) → I S' l W
  tell : ∀ S l W (q : Pr), I S l W → (∀ k, S k → k < W.heap.size) → l.length ≤ 1000 →
    Calls Try.prog f #[.agg #[.int .i64 q.1, .int .i64 q.2], .pointer (some ⟨c, 0, none⟩)] W fun e w' => e = .returned (.tuple #[]) ∧ I S (l ++ [q]) w' ∧ Only (fun k => ¬ S k) W w'

/-- A variable that holds a row of pairs of one's own. -/
structure RowIn (c : Nat) (S : Nat → Prop) (l : List Pr) (W : World) (v : Value) : Prop where
  cell : W.cell? ⟨c, 0, none⟩ = some v
  free : W.frozen? ⟨c, 0, none⟩ = false
  out : ¬ S c
  row : PRow W (fun k => S k ∨ k = c) v l
def RowAt (c : Nat) (S : Nat → Prop) (l : List Pr) (W : World) : Prop := ∃ v, RowIn c S l W v

/-- A variable that holds a number. -/
structure NumAt (c : Nat) (S : Nat → Prop) (l : List Pr) (W : World) : Prop where
  cell : W.cell? ⟨c, 0, none⟩ = some (.int .i64 (l.length : Int))
  free : W.frozen? ⟨c, 0, none⟩ = false
  out : ¬ S c

theorem PRow.only {W W' : World} {S T : Nat → Prop} {v : Value} {l : List Pr} (h : PRow W S v l) (o : Only T W W') (hT : ∀ k, T k → S k) : PRow W' S v l :=
  ⟨o.row h.row (fun k hk hs => h.av k hk (hT k hs)), h.av⟩

theorem RowAt.stay {c : Nat} {S : Nat → Prop} {l : List Pr} {W W' : World} (h : RowAt c S l W) (o : Only S W W') : RowAt c S l W' := by
  obtain ⟨v, h1, h2, h3, h4⟩ := h
  exact ⟨v, o.cell h1 h3, o.keepF (World.block_lt_of_cell? W _ h1) h2 h3, h3, h4.only o (fun k hk => .inl hk)⟩
theorem RowAt.sub {c : Nat} {S S' : Nat → Prop} {l : List Pr} {W : World} (h : RowAt c S l W) (hS : ∀ k, k < W.heap.size → S' k → S k) : RowAt c S' l W := by
  obtain ⟨v, h1, h2, h3, h4⟩ := h
  exact ⟨v, h1, h2, fun hs => h3 (hS c (World.block_lt_of_cell? W _ h1) hs), h4.sub (fun k hk hs => hs.imp (hS k hk) id)⟩

set_option maxRecDepth 100000 in
set_option maxHeartbeats 3200000 in
theorem tellRow (c : Nat) (S : Nat → Prop) (l : List Pr) (w : World) (q : Pr) (h : RowAt c S l w) (hS : ∀ k, S k → k < w.heap.size) (hl : l.length ≤ 1000) :
    Calls Try.prog 28 #[.agg #[.int .i64 q.1, .int .i64 q.2], .pointer (some ⟨c, 0, none⟩)] w fun e w' => e = .returned (.tuple #[]) ∧ RowAt c S (l ++ [q]) w' ∧ Only (fun k => ¬ S k) w w' := by
  obtain ⟨v, h1, h2, h3, h4⟩ := h
  obtain ⟨k, u⟩ := q
  dsimp only
  have hlt : c < w.heap.size := World.block_lt_of_cell? w _ h1
  have ba : Below w.heap.size w (w.alloc (.cells #[.int .i64 k, .int .i64 u] 30)) := (Below.refl _ _).alloc (Nat.le_refl _) _
  have HR := Lib.hid (h4.below ba)
  have c1 := cell_alloc h1 (.cells #[.int .i64 k, .int .i64 u] 30)
  have F0 := Lib.hid h2
  have HO := Lib.hid h3
  have HC := Lib.hid h1
  have HSS : Hid (∀ j, (S j ∨ j = c) → j < (w.alloc (.cells #[.int .i64 k, .int .i64 u] 30)).heap.size) := Lib.hid (fun j hj => by
    rcases hj with hj | rfl
    · have := hS j hj; simp; omega
    · simp; omega)
  clear h1 h2 h3 h4
  go_enter Try.func28, Try.ntmps28
  go_wp2_with (first | (at_builtin; refine wpList_push rfl (.tmp 3) (.tmp 5) rfl (fun j => S j ∨ j = c) _ l k u rfl HR.out HSS.out _ rfl (by simp) (by omega) ?_; intro ao1 cp1 w3 hm1 hc1 hR1 hk1 hO1; have d1 := hk1 _ _ (.inr rfl) c1; have f1 : w3.frozen? ⟨c, 0, none⟩ = false := hO1.keepF (World.block_lt_of_cell? _ _ c1) (((Only.ofBelow (S := fun _ => False) ba).keepF hlt F0.out (fun h => h))) (fun h => h (.inr rfl)); have HR3 := Lib.hid hR1; have HO3 := Lib.hid hO1; have HK := Lib.hid hk1; clear hR1 hk1 hO1))
  go_end0
  have oo : Only (fun k => ¬ S k) w w3 := ((Only.ofBelow (S := fun k => ¬ S k) ba).trans HO3.out (fun i hi _ => fun hs => hi (.inl hs)))
  have o2 : Only (fun k => k = c) w3 (w3.setCell ⟨c, 0, none⟩ (.slice ao1 (l.length + 1) cp1)) := (Only.refl _ _).setAt _
  refine ⟨rfl, ⟨_, World.cell?_setCell_same _ _ _ d1, by simpa using f1, HO.out, ?_⟩, oo.trans o2 (fun i hi _ => hi ▸ HO.out)⟩
  rw [show l.length + 1 = (l ++ [(k, u)]).length by simp] at *
  exact HR3.out.only o2 (fun j hj => .inr hj)

theorem tellerRow (c : Nat) : Teller 28 c (RowAt c) :=
  ⟨fun _ _ _ _ h o => h.stay o, fun _ _ _ _ h hS => h.sub hS, fun S l W q h hS hl => tellRow c S l W q h hS hl⟩

set_option maxRecDepth 100000 in
set_option maxHeartbeats 3200000 in
theorem tellNum (c : Nat) (S : Nat → Prop) (l : List Pr) (w : World) (q : Pr) (h : NumAt c S l w) (hl : l.length ≤ 1000) :
    Calls Try.prog 29 #[.agg #[.int .i64 q.1, .int .i64 q.2], .pointer (some ⟨c, 0, none⟩)] w fun e w' => e = .returned (.tuple #[]) ∧ NumAt c S (l ++ [q]) w' ∧ Only (fun k => ¬ S k) w w' := by
  obtain ⟨h1, h2, h3⟩ := h
  obtain ⟨k, u⟩ := q
  dsimp only
  have hlt : c < w.heap.size := World.block_lt_of_cell? w _ h1
  have ba : Below w.heap.size w (w.alloc (.cells #[.int .i64 k, .int .i64 u] 30)) := (Below.refl _ _).alloc (Nat.le_refl _) _
  have c1 := cell_alloc h1 (.cells #[.int .i64 k, .int .i64 u] 30)
  have f1 : (w.alloc (.cells #[.int .i64 k, .int .i64 u] 30)).frozen? ⟨c, 0, none⟩ = false := (Only.ofBelow (S := fun _ => False) ba).keepF hlt h2 (fun h => h)
  have H0 := Lib.hid h1
  have F0 := Lib.hid h2
  have HO := Lib.hid h3
  have hn : wrap64 ((l.length : Int) + 1) = (l.length : Int) + 1 := by unfold wrap64; omega
  clear h1 h2 h3
  go_enter Try.func29, Try.ntmps29
  go_wp2_with (fail)
  go_end0
  have o2 : Only (fun k => k = c) w (w.setCell ⟨c, 0, none⟩ (.int .i64 ((l.length : Int) + 1))) := (Only.refl _ _).setAt _
  have e2 : (w.setCell ⟨c, 0, none⟩ (.int .i64 ((l.length : Int) + 1))).cell? ⟨c, 0, none⟩ = some (.int .i64 ((l ++ [(k, u)]).length : Int)) := by
    rw [World.cell?_setCell_same _ _ _ H0.out]; simp
  have g2 : (w.setCell ⟨c, 0, none⟩ (.int .i64 ((l.length : Int) + 1))).frozen? ⟨c, 0, none⟩ = false := by simpa using F0.out
  refine ⟨rfl, ⟨cell_alloc e2 _, ?_, HO.out⟩, (o2.alloc _).mono (fun i hi _ => hi ▸ HO.out)⟩
  exact (Only.ofBelow (S := fun _ => False) ((Below.refl _ _).alloc (Nat.le_refl _) _)).keepF (World.block_lt_of_cell? _ _ e2) g2 (fun h => h)

theorem tellerNum (c : Nat) : Teller 29 c (NumAt c) :=
  ⟨fun _ _ _ _ h o => ⟨o.cell h.cell h.out, o.keepF (World.block_lt_of_cell? _ _ h.cell) h.free h.out, h.out⟩,
   fun _ _ _ _ h hS => ⟨h.cell, h.free, fun hs => h.out (hS c (World.block_lt_of_cell? _ _ h.cell) hs)⟩, fun S l W q h _ hl => tellNum c S l W q h hl⟩
end Go.Proofs.Ytbaeemonkgllhaa

namespace Go.Proofs.Ytbaeemonkgllhaa
open Go.RowKit
set_option linter.all false

/-- The walk's own block, as from reads it. -/
structure Ws (W : World) (wb p c f : Nat) (lo hi more : Int) : Prop where
  c0 : W.cell? ⟨wb, 0, none⟩ = some (.pointer (some ⟨p, 0, none⟩))
  c1 : W.cell? ⟨wb, 1, none⟩ = some (.int .i64 lo)
  c2 : W.cell? ⟨wb, 2, none⟩ = some (.int .i64 hi)
  c3 : W.cell? ⟨wb, 3, none⟩ = some (.int .i64 more)
  c4 : W.cell? ⟨wb, 4, none⟩ = some (.func (.func f) #[] #[.pointer (some ⟨c, 0, none⟩)])
  f3 : W.frozen? ⟨wb, 3, none⟩ = false

section
variable {W0 W W' w1 : World} {wb p c f nb : Nat} {lo hi more more' k v x y s h : Int} {S T : Nat → Prop} {I : (Nat → Prop) → List Pr → World → Prop} {told l : List Pr} {e : Ending}
theorem Ws.only (h : Ws W wb p c f lo hi more) (o : Only T W W') (hT : ¬ T wb) : Ws W' wb p c f lo hi more :=
  ⟨o.cell h.c0 hT, o.cell h.c1 hT, o.cell h.c2 hT, o.cell h.c3 hT, o.cell h.c4 hT, o.keepF (World.block_lt_of_cell? _ _ h.c3) h.f3 hT⟩
theorem Ws.keep (h : Ws W wb p c f lo hi more) (hb : Below W.heap.size W W') : Ws W' wb p c f lo hi more := h.only (T := fun _ => False) (Only.ofBelow hb) (fun h => h)
theorem Ws.less (h : Ws W wb p c f lo hi more) (m : Int) : Ws (W.setCell ⟨wb, 3, none⟩ (.int .i64 m)) wb p c f lo hi m :=
  ⟨keepc h.c0 (by decide), keepc h.c1 (by decide), keepc h.c2 (by decide), World.cell?_setCell_same _ _ _ h.c3, keepc h.c4 (by decide), by simpa using h.f3⟩
theorem Ws.lt (h : Ws W wb p c f lo hi more) : wb < W.heap.size := World.block_lt_of_cell? W _ h.c0

/-- What from tells. -/
def FromSays (I : (Nat → Prop) → List Pr → World → Prop) (S : Nat → Prop) (W : World) (wb p c f : Nat) (lo hi more : Int) (told l : List Pr) (e : Ending) (w' : World) : Prop :=
  e = .returned (.tuple #[]) ∧ ∃ more' : Int, more - l.length ≤ more' ∧ more' ≤ more ∧ I (fun j => S j ∨ j = wb) (told ++ rngL l lo hi) w' ∧ Ws w' wb p c f lo hi more' ∧ Only (fun j => ¬ S j) W w'

/-- The frame of a from behind its node. -/
structure St (I : (Nat → Prop) → List Pr → World → Prop) (S : Nat → Prop) (W0 W : World) (nb wb p c f : Nat) (lo hi more : Int) (told : List Pr) (k v x y s h : Int) : Prop where
  n : NodeAt W nb k v x y s h
  s : Ws W wb p c f lo hi more
  i : I (fun j => (S j ∨ j = nb) ∨ j = wb) told W
  o : Only (fun j => ¬ S j) W0 W
  l0 : W0.heap.size ≤ nb
  lw : wb < W0.heap.size

theorem St.cells (H : St I S W0 W nb wb p c f lo hi more told k v x y s h) :
    (W.cell? ⟨nb, 0, none⟩ = some (.int .i64 k) ∧ W.cell? ⟨nb, 1, none⟩ = some (.int .i64 v) ∧ W.cell? ⟨nb, 2, none⟩ = some (.int .i64 x) ∧ W.cell? ⟨nb, 3, none⟩ = some (.int .i64 y)) ∧
    W.cell? ⟨wb, 1, none⟩ = some (.int .i64 lo) ∧ W.cell? ⟨wb, 2, none⟩ = some (.int .i64 hi) ∧ W.cell? ⟨wb, 4, none⟩ = some (.func (.func f) #[] #[.pointer (some ⟨c, 0, none⟩)]) :=
  ⟨⟨H.n.c0, H.n.c1, H.n.c2, H.n.c3⟩, H.s.c1, H.s.c2, H.s.c4⟩
theorem St.keep (T : Teller f c I) (H : St I S W0 W nb wb p c f lo hi more told k v x y s h) (hb : Below W.heap.size W W') : St I S W0 W' nb wb p c f lo hi more told k v x y s h :=
  ⟨H.n.keep hb, H.s.keep hb, T.stay _ _ _ _ H.i (Only.ofBelow hb), H.o.trans (T := fun _ => False) (Only.ofBelow hb) (fun _ hf => hf.elim), H.l0, H.lw⟩
theorem St.called (T : Teller f c I) (H : St I S W0 W nb wb p c f lo hi more told k v x y s h) (hS : ¬ S wb) (m : FromSays I (fun j => S j ∨ j = nb) W wb p c f lo hi more told l e W') :
    ∃ more', more - l.length ≤ more' ∧ more' ≤ more ∧ St I S W0 W' nb wb p c f lo hi more' (told ++ rngL l lo hi) k v x y s h := by
  obtain ⟨_, more', h1, h2, h3, h4, h5⟩ := m
  exact ⟨more', h1, h2, H.n.only h5 (fun hn => hn (.inr rfl)), h4, h3, H.o.trans h5 (fun i hi _ hs => hi (.inl hs)), H.l0, H.lw⟩
theorem St.tell (H : St I S W0 W nb wb p c f lo hi more told k v x y s h) {q : Pr} (hi' : I (fun j => (S j ∨ j = nb) ∨ j = wb) (told ++ [q]) W') (o : Only (fun j => ¬ ((S j ∨ j = nb) ∨ j = wb)) W W') :
    St I S W0 W' nb wb p c f lo hi more (told ++ [q]) k v x y s h :=
  ⟨H.n.only o (fun hn => hn (.inl (.inr rfl))), H.s.only o (fun hn => hn (.inr rfl)), hi', H.o.trans o (fun i hi _ hs => hi (.inl (.inl hs))), H.l0, H.lw⟩
theorem St.done (T : Teller f c I) (H : St I S W0 W nb wb p c f lo hi more told k v x y s h) : I (fun j => S j ∨ j = wb) told W := T.sub _ _ _ _ H.i (fun j _ hj => hj.imp .inl id)
theorem St.inS (H : St I S W0 W nb wb p c f lo hi more told k v x y s h) (hS : ∀ j, S j → j < W0.heap.size) : (∀ j, S j ∨ j = nb → j < W.heap.size) ∧ (∀ j, (S j ∨ j = nb) ∨ j = wb → j < W.heap.size) ∧ ¬ wb = nb := by
  have h1 := H.o.size
  have h2 := H.n.lt
  have h3 := H.l0
  have h4 := H.lw
  refine ⟨fun j hj => ?_, fun j hj => ?_, by omega⟩
  · rcases hj with hj | hj
    · have := hS j hj; omega
    · omega
  · rcases hj with (hj | hj) | hj
    · have := hS j hj; omega
    · omega
    · omega
theorem St.low (H : St I S W0 W nb wb p c f lo hi more told k v x y s h) (hL : ∀ j, j < w1.heap.size → S j) (hb : Below w1.heap.size w1 W0) : Below w1.heap.size w1 W :=
  hb.trans (H.o.below (fun i hi => Nat.le_of_not_lt (fun hlt => hi (hL i hlt))) hb.size)
theorem St.begin (T : Teller f c I) {w2 : World} (hi' : I (fun j => S j ∨ j = wb) told W0) (hs : Ws W0 wb p c f lo hi more) (hS : ¬ S wb) (hSl : ∀ j, S j → j < W0.heap.size) (hb : Below W0.heap.size W0 w2) (m : Int) :
    St I S W0 ((w2.alloc (.cells #[.int .i64 k, .int .i64 v, .int .i64 x, .int .i64 y, .int .i64 s, .int .i64 h] 55)).setCell ⟨wb, 3, none⟩ (.int .i64 m)) w2.heap.size wb p c f lo hi m told k v x y s h := by
  have ba : Below w2.heap.size w2 (w2.alloc (.cells #[.int .i64 k, .int .i64 v, .int .i64 x, .int .i64 y, .int .i64 s, .int .i64 h] 55)) := (Below.refl _ _).alloc (Nat.le_refl _) _
  have hba := hb.trans (ba.mono hb.size)
  have o1 : Only (fun j => j = wb) (w2.alloc (.cells #[.int .i64 k, .int .i64 v, .int .i64 x, .int .i64 y, .int .i64 s, .int .i64 h] 55)) ((w2.alloc (.cells #[.int .i64 k, .int .i64 v, .int .i64 x, .int .i64 y, .int .i64 s, .int .i64 h] 55)).setCell ⟨wb, 3, none⟩ (.int .i64 m)) := (Only.refl _ _).setAt _
  have hn := (Six.new w2 k v x y s h 55).toNodeAt
  have hlw := hs.lt
  have hb' := hb.size
  refine ⟨hn.only o1 (by omega), (hs.keep hba).less m, ?_, (Only.ofBelow (S := fun j => ¬ S j) hba).trans o1 (fun i hi _ => hi ▸ hS), hb', hlw⟩
  have h1 := T.stay _ _ _ _ hi' (Only.ofBelow hb)
  have h2 := T.sub _ (fun j => (S j ∨ j = w2.heap.size) ∨ j = wb) _ _ h1 (fun j hj hjs => by
    rcases hjs with (hjs | hjs) | hjs
    · exact .inl hjs
    · omega
    · exact .inr hjs)
  exact T.stay _ _ _ _ (T.stay _ _ _ _ h2 (Only.ofBelow ba)) (o1.mono (fun i hi _ => .inr hi))
end

set_option maxRecDepth 100000 in
set_option maxHeartbeats 6400000 in
theorem fromNil_any {p : Nat} {F : Nat → Prop} {room st : Int} {L : List It} (c wb f : Nat) (lo hi more : Int) (I : (Nat → Prop) → List Pr → World → Prop) (T : Teller f c I) (S : Nat → Prop) (W : World) (told : List Pr)
    (hA : Arena W p F room st L) (hI : I (fun j => S j ∨ j = wb) told W) (hW : Ws W wb p c f lo hi more) :
    Calls Try.prog 41 #[.pointer (some ⟨wb, 0, none⟩), .int .i64 0] W (FromSays I S W wb p c f lo hi more told []) := by
  have cz := at_zero hA
  have HI := Lib.hid hI
  have HW := Lib.hid hW
  have c0 := hW.c0
  clear hI hW hA
  go_enter Try.func41, Try.ntmps41
  go_wp2_with (first | (go_at_call 26; ((with_reducible refine cz.mono ?_); clear cz; rintro e w2 ⟨rfl, hb⟩)))
  first | go_end0 | refine bodyPost_ret (results_none rfl _ _ _) rfl ?_
  have hb2 := hb.alloc hb.size (.cells #[.int .i64 0, .int .i64 0, .int .i64 0, .int .i64 0, .int .i64 0, .int .i64 0] 55)
  exact ⟨rfl, more, by simp, Int.le_refl _, by rw [rngL_nil, List.append_nil]; exact T.stay _ _ _ _ HI.out (Only.ofBelow hb2), HW.out.keep hb2, Only.ofBelow hb2⟩
end Go.Proofs.Ytbaeemonkgllhaa

namespace Go.Proofs.Ytbaeemonkgllhaa
open Go.RowKit
set_option linter.all false

set_option maxRecDepth 100000 in
set_option maxHeartbeats 6400000 in
theorem fromRow_any {p : Nat} {F : Nat → Prop} {room st : Int} {L : List It} {w1 : World} (c wb : Nat) (lo hi : Int) (I : (Nat → Prop) → List Pr → World → Prop) (T : Teller 28 c I) (hA : Arena w1 p F room st L) :
    ∀ (N : Nat) (l : List Pr) (t : Int) (S : Nat → Prop) (W : World) (told : List Pr) (more : Int), l.length ≤ N → Tree L t l → Srt l → told.length + l.length ≤ 1000 → I (fun j => S j ∨ j = wb) told W → Ws W wb p c 28 lo hi more →
      (∀ j, S j → j < W.heap.size) → (∀ j, j < w1.heap.size → S j) → ¬ S wb → Below w1.heap.size w1 W → (l.length : Int) ≤ more → more ≤ 60000 →
      Calls Try.prog 41 #[.pointer (some ⟨wb, 0, none⟩), .int .i64 t] W (FromSays I S W wb p c 28 lo hi more told l) := by
  intro N
  induction N with
  | zero =>
    intro l t S W told more hN hT hs _ hI hW _ _ _ hb _ _
    rcases hT.apart hs with ⟨rfl, rfl⟩ | ⟨x, y, A, B, q, rfl, ap⟩
    · exact fromNil_any c wb _ lo hi more I T S W told (hA.below hb) hI hW
    · simp at hN
  | succ N ih =>
    intro l t S W told more hN hT hs hl hI hW hSl hLS hSw hb hm hm2
    rcases hT.apart hs with ⟨rfl, rfl⟩ | ⟨x, y, A, B, q, rfl, ap⟩
    · exact fromNil_any c wb _ lo hi more I T S W told (hA.below hb) hI hW
    rw [List.length_append, List.length_cons] at hN hl hm
    obtain ⟨sz, hh, cat⟩ := at_apart (hA.below hb) ap (by omega)
    have hsA := (hs.parts).1
    have hsB := (hs.parts).2.1
    have hmne : (more == 0) = false := by rw [beq_eq_false_iff_ne]; omega
    have hwm : wrap64 (more - 1) = more - 1 := by unfold wrap64; omega
    obtain ⟨k, v⟩ := q
    dsimp only at cat
    have HW := Lib.hid hW
    have HBG := Lib.hid (fun w2 hb2 m => St.begin (k := k) (v := v) (x := x) (y := y) (s := sz) (h := hh) T (w2 := w2) hI hW hSw hSl hb2 m)
    have HAB := Lib.hid (And.intro ap.tx ap.ty)
    have HMM := Lib.hid (And.intro hm hm2)
    have HS := Lib.hid hs
    have call : ∀ (nb : Nat) (B : List Pr) (y' : Int) (V : World) (told' : List Pr) (m' : Int), B.length ≤ N → Tree L y' B → Srt B → told'.length + B.length ≤ 1000 → (B.length : Int) ≤ m' → m' ≤ 60000 → St I S W V nb wb p c 28 lo hi m' told' k v x y sz hh →
        Calls Try.prog 41 #[.pointer (some ⟨wb, 0, none⟩), .int .i64 y'] V fun e w' => e = .returned (.tuple #[]) ∧ ∃ more', m' - B.length ≤ more' ∧ more' ≤ m' ∧ St I S W w' nb wb p c 28 lo hi more' (told' ++ rngL B lo hi) k v x y sz hh := by
      intro nb B y' V told' m' h1 h2 h3 h4 h5 h6 H
      obtain ⟨s1, s2, s3⟩ := H.inS hSl
      refine (ih B y' (fun j => S j ∨ j = nb) V told' m' h1 h2 h3 h4 H.i H.s s1 (fun j hj => .inl (hLS j hj)) (fun h => h.elim hSw s3) (H.low hLS hb) h5 h6).mono ?_
      intro e w' m
      exact ⟨m.1, H.called T hSw m⟩
    have told2 : ∀ (nb : Nat) (V : World) (told' : List Pr) (m' : Int), told'.length ≤ 1000 → St I S W V nb wb p c 28 lo hi m' told' k v x y sz hh →
        Calls Try.prog 28 #[.agg #[.int .i64 k, .int .i64 v], .pointer (some ⟨c, 0, none⟩)] V fun e w' => e = .returned (.tuple #[]) ∧ St I S W w' nb wb p c 28 lo hi m' (told' ++ [(k, v)]) k v x y sz hh := by
      intro nb V told' m' h1 H
      obtain ⟨s1, s2, s3⟩ := H.inS hSl
      refine (T.tell _ told' V (k, v) H.i s2 h1).mono ?_
      rintro e w' ⟨he, hi', ho⟩
      exact ⟨he, H.tell hi' ho⟩
    clear ih hW hI hSl hLS hSw hb hm hm2 ap hs hT
    go_enter Try.func41, Try.ntmps41
    have c0 := HW.out.c0
    go_upto_region 3 with (first | (go_at_call 26; ((with_reducible refine cat.mono ?_); clear cat; rintro e w2 ⟨rfl, hb2⟩; obtain ⟨-, -, -, e3, -, e5⟩ := (HW.out.keep hb2).keep ((Below.refl _ _).alloc (Nat.le_refl _) (.cells #[.int .i64 k, .int .i64 v, .int .i64 x, .int .i64 y, .int .i64 sz, .int .i64 hh] 55)))))
    have H3 := HBG.out w2 hb2 (more - 1)
    generalize w2.heap.size = nb at *
    generalize (World.setCell _ _ _ : World) = W3 at *
    have HA1 := Lib.hid (show A.length ≤ N ∧ B.length ≤ N ∧ told.length + A.length ≤ 1000 ∧ (told ++ rngL A lo hi).length + 1 + B.length ≤ 1000 ∧ told.length + B.length ≤ 1000 from by
      have := rngL_len A lo hi
      rw [List.length_append]
      omega)
    have HSA := Lib.hid (And.intro hsA hsB)
    obtain ⟨⟨n0, n1, n2, n3⟩, d1, d2, d4⟩ := H3.cells
    have HH3 := Lib.hid H3
    clear H3 hN hl hmne hsA hsB e3 e5 c0
    by_cases hlo : lo ≤ k
    · by_cases hhi : k ≤ hi
      · skip
        have b1 : decide (lo ≤ k) = true := decide_eq_true hlo
        have b2 : decide (k ≤ hi) = true := decide_eq_true hhi
        have HR := Lib.hid (rngL_both (A := A) (B := B) (q := (k, v)) hlo hhi)
        clear hlo hhi
        go_quiet (fail)
        go_upto_region 7 with (first
          | (go_at_call 41; ((with_reducible refine (call nb A x _ told _ HA1.out.1 HAB.out.1 HSA.out.1 HA1.out.2.2.1 (by have := HMM.out; omega) (by have := HMM.out; omega) (HH3.out.keep T (below_drewN (Below.refl _ _) _))).mono ?_); rintro e w4 ⟨rfl, m4, hm4, hm4', H4⟩; have HH4 := Lib.hid H4; have HM4 := Lib.hid (And.intro hm4 hm4'); clear H4 hm4 hm4' n0 n1 n2 n3 d1 d2 d4; obtain ⟨⟨n0, n1, n2, n3⟩, d1, d2, d4⟩ := HH4.out.cells)))
        have H4d := HH4.out.keep T ((Below.refl _ _).drew)
        have HH4d := Lib.hid H4d
        clear H4d n0 n1 n2 n3 d1 d2 d4
        obtain ⟨⟨n0, n1, n2, n3⟩, d1, d2, d4⟩ := HH4d.out.cells
        go_region_law (first
          | (go_simp; go_at_call 28; ((with_reducible refine (told2 nb _ _ _ (by have := HA1.out; omega) HH4d.out).mono ?_); rintro e w5 ⟨rfl, H5⟩; have HH5 := Lib.hid H5; clear H5 n0 n1 n2 n3 d1 d2 d4; obtain ⟨⟨n0, n1, n2, n3⟩, d1, d2, d4⟩ := HH5.out.cells)))
        all_goals
          go_wp2_with (first
            | (go_at_call 41; ((with_reducible refine (call nb B y _ _ _ HA1.out.2.1 HAB.out.2 HSA.out.2 (by have := HA1.out; rw [List.length_append]; simp only [List.length_cons, List.length_nil]; omega) (by have := HMM.out; have := HM4.out; omega) (by have := HMM.out; have := HM4.out; omega) HH5.out).mono ?_); rintro e w6 ⟨rfl, m6, hm6, hm6', H6⟩)))
          first | go_end0 | refine bodyPost_ret (results_none rfl _ _ _) rfl ?_
          refine ⟨rfl, m6, ?_, ?_, ?_, H6.s, H6.o⟩
          · have := HM4.out; rw [List.length_append, List.length_cons]; omega
          · have := HM4.out; omega
          · rw [HR.out]
            have h := H6.done T
            rwa [List.append_assoc, List.append_assoc, List.singleton_append] at h
      · skip
        have b1 : decide (lo ≤ k) = true := decide_eq_true hlo
        have b2 : decide (k ≤ hi) = false := decide_eq_false hhi
        have HR := Lib.hid (rngL_left (lo := lo) HS.out (Int.lt_of_not_ge hhi))
        clear hlo hhi
        go_quiet (fail)
        go_wp2_with (first
          | (go_at_call 41; ((with_reducible refine (call nb A x _ told _ HA1.out.1 HAB.out.1 HSA.out.1 HA1.out.2.2.1 (by have := HMM.out; omega) (by have := HMM.out; omega) (HH3.out.keep T (below_drewN (Below.refl _ _) _))).mono ?_); rintro e w4 ⟨rfl, m4, hm4, hm4', H4⟩; have HH4 := Lib.hid H4; have HM4 := Lib.hid (And.intro hm4 hm4'); clear H4 hm4 hm4' n0 n1 n2 n3 d1 d2 d4; obtain ⟨⟨n0, n1, n2, n3⟩, d1, d2, d4⟩ := HH4.out.cells)))
        first | go_end0 | refine bodyPost_ret (results_none rfl _ _ _) rfl ?_
        refine ⟨rfl, m4, ?_, ?_, ?_, HH4.out.s, HH4.out.o⟩
        · have := HM4.out; rw [List.length_append, List.length_cons]; omega
        · have := HM4.out; omega
        · rw [HR.out]; exact HH4.out.done T
    · by_cases hhi : k ≤ hi
      · skip
        have b1 : decide (lo ≤ k) = false := decide_eq_false hlo
        have b2 : decide (k ≤ hi) = true := decide_eq_true hhi
        have HR := Lib.hid (rngL_right (hi := hi) HS.out (Int.lt_of_not_ge hlo))
        clear hlo hhi
        go_quiet (fail)
        go_wp2_with (first
          | (go_at_call 41; ((with_reducible refine (call nb B y _ told _ HA1.out.2.1 HAB.out.2 HSA.out.2 HA1.out.2.2.2.2 (by have := HMM.out; omega) (by have := HMM.out; omega) (HH3.out.keep T (below_drewN (Below.refl _ _) _))).mono ?_); rintro e w4 ⟨rfl, m4, hm4, hm4', H4⟩; have HH4 := Lib.hid H4; have HM4 := Lib.hid (And.intro hm4 hm4'); clear H4 hm4 hm4')))
        first | go_end0 | refine bodyPost_ret (results_none rfl _ _ _) rfl ?_
        refine ⟨rfl, m4, ?_, ?_, ?_, HH4.out.s, HH4.out.o⟩
        · have := HM4.out; rw [List.length_append, List.length_cons]; omega
        · have := HM4.out; omega
        · rw [HR.out]; exact HH4.out.done T
      · skip
        have b1 : decide (lo ≤ k) = false := decide_eq_false hlo
        have b2 : decide (k ≤ hi) = false := decide_eq_false hhi
        have HR := Lib.hid (show rngL (A ++ (k, v) :: B) lo hi = [] from by rw [rngL_right HS.out (Int.lt_of_not_ge hlo), rngL_none]; intro z hz; have := (HS.out.parts).2.2.2 z hz; dsimp only at this; omega)
        clear hlo hhi
        go_quiet (fail)
        go_wp2_with (fail)
        first | go_end0 | refine bodyPost_ret (results_none rfl _ _ _) rfl ?_
        have H4 := HH3.out.keep T (below_drewN (Below.refl _ _) 1)
        refine ⟨rfl, more - 1, by rw [List.length_append, List.length_cons]; omega, by omega, ?_, (HH3.out.keep T (below_drewN (Below.refl _ _) _)).s, (HH3.out.keep T (below_drewN (Below.refl _ _) _)).o⟩
        rw [HR.out, List.append_nil]; exact (HH3.out.keep T (below_drewN (Below.refl _ _) _)).done T
end Go.Proofs.Ytbaeemonkgllhaa

namespace Go.Proofs.Ytbaeemonkgllhaa
open Go.RowKit
set_option linter.all false

set_option maxRecDepth 100000 in
set_option maxHeartbeats 6400000 in
theorem fromNum_any {p : Nat} {F : Nat → Prop} {room st : Int} {L : List It} {w1 : World} (c wb : Nat) (lo hi : Int) (I : (Nat → Prop) → List Pr → World → Prop) (T : Teller 29 c I) (hA : Arena w1 p F room st L) :
    ∀ (N : Nat) (l : List Pr) (t : Int) (S : Nat → Prop) (W : World) (told : List Pr) (more : Int), l.length ≤ N → Tree L t l → Srt l → told.length + l.length ≤ 1000 → I (fun j => S j ∨ j = wb) told W → Ws W wb p c 29 lo hi more →
      (∀ j, S j → j < W.heap.size) → (∀ j, j < w1.heap.size → S j) → ¬ S wb → Below w1.heap.size w1 W → (l.length : Int) ≤ more → more ≤ 60000 →
      Calls Try.prog 41 #[.pointer (some ⟨wb, 0, none⟩), .int .i64 t] W (FromSays I S W wb p c 29 lo hi more told l) := by
  intro N
  induction N with
  | zero =>
    intro l t S W told more hN hT hs _ hI hW _ _ _ hb _ _
    rcases hT.apart hs with ⟨rfl, rfl⟩ | ⟨x, y, A, B, q, rfl, ap⟩
    · exact fromNil_any c wb _ lo hi more I T S W told (hA.below hb) hI hW
    · simp at hN
  | succ N ih =>
    intro l t S W told more hN hT hs hl hI hW hSl hLS hSw hb hm hm2
    rcases hT.apart hs with ⟨rfl, rfl⟩ | ⟨x, y, A, B, q, rfl, ap⟩
    · exact fromNil_any c wb _ lo hi more I T S W told (hA.below hb) hI hW
    rw [List.length_append, List.length_cons] at hN hl hm
    obtain ⟨sz, hh, cat⟩ := at_apart (hA.below hb) ap (by omega)
    have hsA := (hs.parts).1
    have hsB := (hs.parts).2.1
    have hmne : (more == 0) = false := by rw [beq_eq_false_iff_ne]; omega
    have hwm : wrap64 (more - 1) = more - 1 := by unfold wrap64; omega
    obtain ⟨k, v⟩ := q
    dsimp only at cat
    have HW := Lib.hid hW
    have HBG := Lib.hid (fun w2 hb2 m => St.begin (k := k) (v := v) (x := x) (y := y) (s := sz) (h := hh) T (w2 := w2) hI hW hSw hSl hb2 m)
    have HAB := Lib.hid (And.intro ap.tx ap.ty)
    have HMM := Lib.hid (And.intro hm hm2)
    have HS := Lib.hid hs
    have call : ∀ (nb : Nat) (B : List Pr) (y' : Int) (V : World) (told' : List Pr) (m' : Int), B.length ≤ N → Tree L y' B → Srt B → told'.length + B.length ≤ 1000 → (B.length : Int) ≤ m' → m' ≤ 60000 → St I S W V nb wb p c 29 lo hi m' told' k v x y sz hh →
        Calls Try.prog 41 #[.pointer (some ⟨wb, 0, none⟩), .int .i64 y'] V fun e w' => e = .returned (.tuple #[]) ∧ ∃ more', m' - B.length ≤ more' ∧ more' ≤ m' ∧ St I S W w' nb wb p c 29 lo hi more' (told' ++ rngL B lo hi) k v x y sz hh := by
      intro nb B y' V told' m' h1 h2 h3 h4 h5 h6 H
      obtain ⟨s1, s2, s3⟩ := H.inS hSl
      refine (ih B y' (fun j => S j ∨ j = nb) V told' m' h1 h2 h3 h4 H.i H.s s1 (fun j hj => .inl (hLS j hj)) (fun h => h.elim hSw s3) (H.low hLS hb) h5 h6).mono ?_
      intro e w' m
      exact ⟨m.1, H.called T hSw m⟩
    have told2 : ∀ (nb : Nat) (V : World) (told' : List Pr) (m' : Int), told'.length ≤ 1000 → St I S W V nb wb p c 29 lo hi m' told' k v x y sz hh →
        Calls Try.prog 29 #[.agg #[.int .i64 k, .int .i64 v], .pointer (some ⟨c, 0, none⟩)] V fun e w' => e = .returned (.tuple #[]) ∧ St I S W w' nb wb p c 29 lo hi m' (told' ++ [(k, v)]) k v x y sz hh := by
      intro nb V told' m' h1 H
      obtain ⟨s1, s2, s3⟩ := H.inS hSl
      refine (T.tell _ told' V (k, v) H.i s2 h1).mono ?_
      rintro e w' ⟨he, hi', ho⟩
      exact ⟨he, H.tell hi' ho⟩
    clear ih hW hI hSl hLS hSw hb hm hm2 ap hs hT
    go_enter Try.func41, Try.ntmps41
    have c0 := HW.out.c0
    go_upto_region 3 with (first | (go_at_call 26; ((with_reducible refine cat.mono ?_); clear cat; rintro e w2 ⟨rfl, hb2⟩; obtain ⟨-, -, -, e3, -, e5⟩ := (HW.out.keep hb2).keep ((Below.refl _ _).alloc (Nat.le_refl _) (.cells #[.int .i64 k, .int .i64 v, .int .i64 x, .int .i64 y, .int .i64 sz, .int .i64 hh] 55)))))
    have H3 := HBG.out w2 hb2 (more - 1)
    generalize w2.heap.size = nb at *
    generalize (World.setCell _ _ _ : World) = W3 at *
    have HA1 := Lib.hid (show A.length ≤ N ∧ B.length ≤ N ∧ told.length + A.length ≤ 1000 ∧ (told ++ rngL A lo hi).length + 1 + B.length ≤ 1000 ∧ told.length + B.length ≤ 1000 from by
      have := rngL_len A lo hi
      rw [List.length_append]
      omega)
    have HSA := Lib.hid (And.intro hsA hsB)
    obtain ⟨⟨n0, n1, n2, n3⟩, d1, d2, d4⟩ := H3.cells
    have HH3 := Lib.hid H3
    clear H3 hN hl hmne hsA hsB e3 e5 c0
    by_cases hlo : lo ≤ k
    · by_cases hhi : k ≤ hi
      · skip
        have b1 : decide (lo ≤ k) = true := decide_eq_true hlo
        have b2 : decide (k ≤ hi) = true := decide_eq_true hhi
        have HR := Lib.hid (rngL_both (A := A) (B := B) (q := (k, v)) hlo hhi)
        clear hlo hhi
        go_quiet (fail)
        go_upto_region 7 with (first
          | (go_at_call 41; ((with_reducible refine (call nb A x _ told _ HA1.out.1 HAB.out.1 HSA.out.1 HA1.out.2.2.1 (by have := HMM.out; omega) (by have := HMM.out; omega) (HH3.out.keep T (below_drewN (Below.refl _ _) _))).mono ?_); rintro e w4 ⟨rfl, m4, hm4, hm4', H4⟩; have HH4 := Lib.hid H4; have HM4 := Lib.hid (And.intro hm4 hm4'); clear H4 hm4 hm4' n0 n1 n2 n3 d1 d2 d4; obtain ⟨⟨n0, n1, n2, n3⟩, d1, d2, d4⟩ := HH4.out.cells)))
        have H4d := HH4.out.keep T ((Below.refl _ _).drew)
        have HH4d := Lib.hid H4d
        clear H4d n0 n1 n2 n3 d1 d2 d4
        obtain ⟨⟨n0, n1, n2, n3⟩, d1, d2, d4⟩ := HH4d.out.cells
        go_region_law (first
          | (go_simp; go_at_call 29; ((with_reducible refine (told2 nb _ _ _ (by have := HA1.out; omega) HH4d.out).mono ?_); rintro e w5 ⟨rfl, H5⟩; have HH5 := Lib.hid H5; clear H5 n0 n1 n2 n3 d1 d2 d4; obtain ⟨⟨n0, n1, n2, n3⟩, d1, d2, d4⟩ := HH5.out.cells)))
        all_goals
          go_wp2_with (first
            | (go_at_call 41; ((with_reducible refine (call nb B y _ _ _ HA1.out.2.1 HAB.out.2 HSA.out.2 (by have := HA1.out; rw [List.length_append]; simp only [List.length_cons, List.length_nil]; omega) (by have := HMM.out; have := HM4.out; omega) (by have := HMM.out; have := HM4.out; omega) HH5.out).mono ?_); rintro e w6 ⟨rfl, m6, hm6, hm6', H6⟩)))
          first | go_end0 | refine bodyPost_ret (results_none rfl _ _ _) rfl ?_
          refine ⟨rfl, m6, ?_, ?_, ?_, H6.s, H6.o⟩
          · have := HM4.out; rw [List.length_append, List.length_cons]; omega
          · have := HM4.out; omega
          · rw [HR.out]
            have h := H6.done T
            rwa [List.append_assoc, List.append_assoc, List.singleton_append] at h
      · skip
        have b1 : decide (lo ≤ k) = true := decide_eq_true hlo
        have b2 : decide (k ≤ hi) = false := decide_eq_false hhi
        have HR := Lib.hid (rngL_left (lo := lo) HS.out (Int.lt_of_not_ge hhi))
        clear hlo hhi
        go_quiet (fail)
        go_wp2_with (first
          | (go_at_call 41; ((with_reducible refine (call nb A x _ told _ HA1.out.1 HAB.out.1 HSA.out.1 HA1.out.2.2.1 (by have := HMM.out; omega) (by have := HMM.out; omega) (HH3.out.keep T (below_drewN (Below.refl _ _) _))).mono ?_); rintro e w4 ⟨rfl, m4, hm4, hm4', H4⟩; have HH4 := Lib.hid H4; have HM4 := Lib.hid (And.intro hm4 hm4'); clear H4 hm4 hm4' n0 n1 n2 n3 d1 d2 d4; obtain ⟨⟨n0, n1, n2, n3⟩, d1, d2, d4⟩ := HH4.out.cells)))
        first | go_end0 | refine bodyPost_ret (results_none rfl _ _ _) rfl ?_
        refine ⟨rfl, m4, ?_, ?_, ?_, HH4.out.s, HH4.out.o⟩
        · have := HM4.out; rw [List.length_append, List.length_cons]; omega
        · have := HM4.out; omega
        · rw [HR.out]; exact HH4.out.done T
    · by_cases hhi : k ≤ hi
      · skip
        have b1 : decide (lo ≤ k) = false := decide_eq_false hlo
        have b2 : decide (k ≤ hi) = true := decide_eq_true hhi
        have HR := Lib.hid (rngL_right (hi := hi) HS.out (Int.lt_of_not_ge hlo))
        clear hlo hhi
        go_quiet (fail)
        go_wp2_with (first
          | (go_at_call 41; ((with_reducible refine (call nb B y _ told _ HA1.out.2.1 HAB.out.2 HSA.out.2 HA1.out.2.2.2.2 (by have := HMM.out; omega) (by have := HMM.out; omega) (HH3.out.keep T (below_drewN (Below.refl _ _) _))).mono ?_); rintro e w4 ⟨rfl, m4, hm4, hm4', H4⟩; have HH4 := Lib.hid H4; have HM4 := Lib.hid (And.intro hm4 hm4'); clear H4 hm4 hm4')))
        first | go_end0 | refine bodyPost_ret (results_none rfl _ _ _) rfl ?_
        refine ⟨rfl, m4, ?_, ?_, ?_, HH4.out.s, HH4.out.o⟩
        · have := HM4.out; rw [List.length_append, List.length_cons]; omega
        · have := HM4.out; omega
        · rw [HR.out]; exact HH4.out.done T
      · skip
        have b1 : decide (lo ≤ k) = false := decide_eq_false hlo
        have b2 : decide (k ≤ hi) = false := decide_eq_false hhi
        have HR := Lib.hid (show rngL (A ++ (k, v) :: B) lo hi = [] from by rw [rngL_right HS.out (Int.lt_of_not_ge hlo), rngL_none]; intro z hz; have := (HS.out.parts).2.2.2 z hz; dsimp only at this; omega)
        clear hlo hhi
        go_quiet (fail)
        go_wp2_with (fail)
        first | go_end0 | refine bodyPost_ret (results_none rfl _ _ _) rfl ?_
        have H4 := HH3.out.keep T (below_drewN (Below.refl _ _) 1)
        refine ⟨rfl, more - 1, by rw [List.length_append, List.length_cons]; omega, by omega, ?_, (HH3.out.keep T (below_drewN (Below.refl _ _) _)).s, (HH3.out.keep T (below_drewN (Below.refl _ _) _)).o⟩
        rw [HR.out, List.append_nil]; exact (HH3.out.keep T (below_drewN (Below.refl _ _) _)).done T
end Go.Proofs.Ytbaeemonkgllhaa

namespace Go.Proofs.Ytbaeemonkgllhaa
open Go.RowKit
set_option linter.all false

theorem Ws.new (W : World) (p c f : Nat) (lo hi more : Int) (t : TypeId) :
    Ws (W.alloc (.cells #[.pointer (some ⟨p, 0, none⟩), .int .i64 lo, .int .i64 hi, .int .i64 more, .func (.func f) #[] #[.pointer (some ⟨c, 0, none⟩)]] t)) W.heap.size p c f lo hi more := by
  refine ⟨?_, ?_, ?_, ?_, ?_, ?_⟩ <;> simp

section
variable {p : Nat} {F : Nat → Prop} {room st : Int} {L : List It} {w1 W : World} {c : Nat} {lo hi t : Int} {I : (Nat → Prop) → List Pr → World → Prop} {l : List Pr} {f : Nat}

/-- What within tells. -/
def InSays (I : (Nat → Prop) → List Pr → World → Prop) (w1 : World) (l : List Pr) (e : Ending) (w' : World) : Prop :=
  e = .returned (.tuple #[]) ∧ I (fun j => j < w1.heap.size) l w' ∧ Below w1.heap.size w1 w'

theorem within_start (T : Teller f c I) (hI : I (fun j => j < w1.heap.size) [] W) (hb : Below w1.heap.size w1 W) (p : Nat) (lo hi more : Int) (ty : TypeId) :
    I (fun j => j < w1.heap.size ∨ j = W.heap.size) [] (W.alloc (.cells #[.pointer (some ⟨p, 0, none⟩), .int .i64 lo, .int .i64 hi, .int .i64 more, .func (.func f) #[] #[.pointer (some ⟨c, 0, none⟩)]] ty)) :=
  T.stay _ _ _ _ (T.sub _ _ _ _ hI (fun j hj hjs => hjs.elim id (fun e => by omega))) (Only.ofBelow ((Below.refl _ _).alloc (Nat.le_refl _) _))
theorem within_end (T : Teller f c I) (hb : Below w1.heap.size w1 W) {wb pp : Nat} {more : Int} {w' : World} {e : Ending} {a : Obj}
    (m : FromSays I (fun j => j < w1.heap.size) (W.alloc a) wb pp c f lo hi more [] l e w') : InSays I w1 (rngL l lo hi) e w' := by
  obtain ⟨he, more', _, _, hi', _, ho⟩ := m
  have hba := hb.alloc hb.size a
  exact ⟨he, T.sub _ _ _ _ hi' (fun j _ hj => .inl hj), hba.trans (ho.below (fun i hi => Nat.le_of_not_lt hi) hba.size)⟩

set_option maxRecDepth 100000 in
set_option maxHeartbeats 3200000 in
theorem withinRow_any (T : Teller 28 c I) (hA : Arena w1 p F room st L) (hT : Tree L t l) (hs : Srt l) (hl : l.length ≤ 1000) (hI : I (fun j => j < w1.heap.size) [] W) (hb : Below w1.heap.size w1 W) :
    Calls Try.prog 27 #[.pointer (some ⟨p, 0, none⟩), .int .i64 t, .int .i64 lo, .int .i64 hi, .func (.func 28) #[] #[.pointer (some ⟨c, 0, none⟩)]] W (InSays I w1 (rngL l lo hi)) := by
  have cf := fromRow_any c W.heap.size lo hi I T hA l.length l t (fun j => j < w1.heap.size) (W.alloc (.cells #[.pointer (some ⟨p, 0, none⟩), .int .i64 lo, .int .i64 hi, .int .i64 60000, .func (.func 28) #[] #[.pointer (some ⟨c, 0, none⟩)]] 68)) [] 60000 (Nat.le_refl _) hT hs (by simpa using hl)
    (within_start T hI hb p lo hi 60000 _) (Ws.new W p c _ lo hi 60000 _) (fun j hj => by have := hb.size; simp; omega) (fun j hj => hj) (by have := hb.size; omega) (hb.alloc hb.size _) (by omega) (by omega)
  have HT := Lib.hid T
  have HB := Lib.hid hb
  clear hA hT hI hb hs hl T
  go_enter Try.func27, Try.ntmps27
  go_wp2_with (first | (go_at_call 41; ((with_reducible refine cf.mono ?_); clear cf; rintro e w2 m; have M := Lib.hid m; obtain ⟨rfl, -⟩ := m)))
  go_end0
  exact within_end HT.out HB.out M.out

set_option maxRecDepth 100000 in
set_option maxHeartbeats 3200000 in
theorem withinNum_any (T : Teller 29 c I) (hA : Arena w1 p F room st L) (hT : Tree L t l) (hs : Srt l) (hl : l.length ≤ 1000) (hI : I (fun j => j < w1.heap.size) [] W) (hb : Below w1.heap.size w1 W) :
    Calls Try.prog 27 #[.pointer (some ⟨p, 0, none⟩), .int .i64 t, .int .i64 lo, .int .i64 hi, .func (.func 29) #[] #[.pointer (some ⟨c, 0, none⟩)]] W (InSays I w1 (rngL l lo hi)) := by
  have cf := fromNum_any c W.heap.size lo hi I T hA l.length l t (fun j => j < w1.heap.size) (W.alloc (.cells #[.pointer (some ⟨p, 0, none⟩), .int .i64 lo, .int .i64 hi, .int .i64 60000, .func (.func 29) #[] #[.pointer (some ⟨c, 0, none⟩)]] 68)) [] 60000 (Nat.le_refl _) hT hs (by simpa using hl)
    (within_start T hI hb p lo hi 60000 _) (Ws.new W p c _ lo hi 60000 _) (fun j hj => by have := hb.size; simp; omega) (fun j hj => hj) (by have := hb.size; omega) (hb.alloc hb.size _) (by omega) (by omega)
  have HT := Lib.hid T
  have HB := Lib.hid hb
  clear hA hT hI hb hs hl T
  go_enter Try.func27, Try.ntmps27
  go_wp2_with (first | (go_at_call 41; ((with_reducible refine cf.mono ?_); clear cf; rintro e w2 m; have M := Lib.hid m; obtain ⟨rfl, -⟩ := m)))
  go_end0
  exact within_end HT.out HB.out M.out

theorem rowNew (w : World) (ty : TypeId) : RowAt w.heap.size (fun j => j < w.heap.size) [] (w.alloc (.cells #[.slice none 0 0] ty)) :=
  ⟨.slice none 0 0, by simp, by simp, by omega, PRow.nil _ _⟩
theorem numNew (w : World) (ty : TypeId) : NumAt w.heap.size (fun j => j < w.heap.size) [] (w.alloc (.cells #[.int .i64 0] ty)) :=
  ⟨by simp, by simp, by omega⟩

/-- What Range tells: a row of its own. -/
def RangeSays (w : World) (l : List Pr) (e : Ending) (w' : World) : Prop :=
  ∃ v, e = .returned v ∧ PRow w' (fun j => j < w.heap.size) v l ∧ Below w.heap.size w w'

set_option maxRecDepth 100000 in
set_option maxHeartbeats 3200000 in
theorem range_any {w : World} (hA : Arena w p F room st L) (hT : Tree L t l) (hs : Srt l) (hl : l.length ≤ 1000) (lo hi : Int) :
    Calls Try.prog 15 #[.pointer (some ⟨p, 0, none⟩), .int .i64 t, .int .i64 lo, .int .i64 hi] w (RangeSays w (rngL l lo hi)) := by
  have cf := fun ty => withinRow_any (lo := lo) (hi := hi) (W := w.alloc (.cells #[.slice none 0 0] ty)) (tellerRow w.heap.size) hA hT hs hl (rowNew w ty) ((Below.refl _ _).alloc (Nat.le_refl _) _)
  clear hA hT hs hl
  go_enter Try.func15, Try.ntmps15
  go_wp2_with (first | (go_at_call 27; ((with_reducible refine (cf _).mono ?_); clear cf; rintro e w2 ⟨rfl, ⟨v, hv⟩, hb⟩; have HV := Lib.hid hv; have cc := hv.cell; clear hv)))
  go_ret
  exact ⟨v, rfl, HV.out.row.sub (fun k _ hk => .inl hk), hb⟩

set_option maxRecDepth 100000 in
set_option maxHeartbeats 3200000 in
theorem count_any {w : World} (hA : Arena w p F room st L) (hT : Tree L t l) (hs : Srt l) (hl : l.length ≤ 1000) (lo hi n : Int) (hn : ((rngL l lo hi).length : Int) = n) :
    Calls Try.prog 16 #[.pointer (some ⟨p, 0, none⟩), .int .i64 t, .int .i64 lo, .int .i64 hi] w fun e w' => e = .returned (.int .i64 n) ∧ Below w.heap.size w w' := by
  subst hn
  have cf := fun ty => withinNum_any (lo := lo) (hi := hi) (W := w.alloc (.cells #[.int .i64 0] ty)) (tellerNum w.heap.size) hA hT hs hl (numNew w ty) ((Below.refl _ _).alloc (Nat.le_refl _) _)
  clear hA hT hs hl
  go_enter Try.func16, Try.ntmps16
  go_wp2_with (first | (go_at_call 27; ((with_reducible refine (cf _).mono ?_); clear cf; rintro e w2 ⟨rfl, hv, hb⟩; have cc := hv.cell; clear hv)))
  go_ret
  exact ⟨rfl, hb⟩

set_option maxRecDepth 100000 in
theorem wall_any {w : World} (hA : Arena w p F room st L) (hT : Tree L t l) (hs : Srt l) (hl : l.length ≤ 1000) (hr : Rng l) :
    Calls Try.prog 14 #[.pointer (some ⟨p, 0, none⟩), .int .i64 t] w (RangeSays w l) := by
  have cf := range_any hA hT hs hl (-9223372036854775808) 9223372036854775807
  rw [rngL_all (fun z hz => wf_range (hr z hz).1)] at cf
  clear hA hT hs hl hr
  go_enter Try.func14, Try.ntmps14
  go_wp2_with (first | (go_at_call 15; ((with_reducible refine cf.mono ?_); clear cf; rintro e w2 ⟨v, rfl, hv, hb⟩)))
  go_ret
  exact ⟨v, rfl, hv, hb⟩
end
end Go.Proofs.Ytbaeemonkgllhaa

namespace Go.Proofs.Ytbaeemonkgllhaa
open Go.RowKit
set_option linter.all false

/-- What way.At tells of a treap. -/
def AtT (L : List It) (t : Int) (l : List Pr) (B : Bool) (m0 m1 m2 m3 m4 m5 : Int) : Prop :=
  (B = false ∧ l = []) ∨ (B = true ∧ ∃ A C, l = A ++ (m0, m1) :: C ∧ Apart L t m2 m3 A C (m0, m1))
theorem at_treap {w : World} {p : Nat} {F : Nat → Prop} {room st : Int} {L : List It} {t : Int} {l : List Pr} (hA : Arena w p F room st L) (hT : Tree L t l) (hs : Srt l) (hl : l.length ≤ 1000) :
    ∃ (B : Bool) (m0 m1 m2 m3 m4 m5 : Int), AtT L t l B m0 m1 m2 m3 m4 m5 ∧ ∀ W, Below w.heap.size w W →
      Calls Try.prog 26 #[.pointer (some ⟨p, 0, none⟩), .int .i64 t] W fun e w' => e = .returned (.tuple #[.agg #[.int .i64 m0, .int .i64 m1, .int .i64 m2, .int .i64 m3, .int .i64 m4, .int .i64 m5], .bool B]) ∧ Below W.heap.size W w' := by
  rcases hT.apart hs with ⟨rfl, rfl⟩ | ⟨x, y, A, C, q, rfl, h⟩
  · exact ⟨false, 0, 0, 0, 0, 0, 0, .inl ⟨rfl, rfl⟩, fun W hb => at_zero (hA.below hb)⟩
  · rw [List.length_append, List.length_cons] at hl
    obtain ⟨n0, n1, n2, n3, n4, n5, n6⟩ := node_says h.item
    have gx := (h.tx.hung (by omega)).1
    have gy := (h.ty.hung (by omega)).1
    refine ⟨true, q.1, q.2, x, y, valL L t 4, valL L t 5, .inr ⟨rfl, A, C, rfl, h⟩, fun W0 hb0 => ?_⟩
    have hA := hA.below hb0
    refine at_core (some ⟨p, 0, none⟩) t q.1 q.2 x y _ _ true W0 (fun W hb => ?_) (fun W hb => counted_ok (hA.below hb) t x gx.ok (.inl h.hx)) (fun W hb => counted_ok (hA.below hb) t y gy.ok (.inl h.hy))
    have := get_yes t W p F room st L (hA.below hb) n0
    rw [n1, n2, n3, n4] at this
    exact this

theorem Two.put2 {W : World} {b : Nat} {m0 m1 : Int} (h : Two W b m0 m1) (u0 u1 : Int) :
    ∃ Wf, Wf = ((W.setCell ⟨b, 0, none⟩ (.int .i64 u0)).setCell ⟨b, 1, none⟩ (.int .i64 u1)) ∧ Two Wf b u0 u1 ∧ Only (fun k => k = b) W Wf ∧ Below b W Wf := by
  obtain ⟨Wf, e, h0, h1, hb⟩ := h.put u0 u1
  refine ⟨Wf, e, ⟨h0, h1, ?_, ?_⟩, ?_, hb⟩
  · rw [e]; simp only [World.frozen?_setCell]; exact h.f0
  · rw [e]; simp only [World.frozen?_setCell]; exact h.f1
  · rw [e]; exact ((Only.refl (fun k => k = b) W).setAt _).setAt _

set_option maxRecDepth 100000 in
set_option maxHeartbeats 6400000 in
theorem next_any {p : Nat} {F : Nat → Prop} {room st : Int} {L : List It} {t : Int} {l : List Pr} {w : World} (hA : Arena w p F room st L) (hT : Tree L t l) (hs : Srt l) (hl : l.length ≤ 1000) (key q0 q1 : Int) (is : Bool)
    (hv : (nextL l key).getD (0, 0) = (q0, q1)) (his : (nextL l key).isSome = is) :
    Calls Try.prog 12 #[.pointer (some ⟨p, 0, none⟩), .int .i64 t, .int .i64 key] w fun e w' => e = .returned (.tuple #[.agg #[.int .i64 q0, .int .i64 q1], .bool is]) ∧ Below w.heap.size w w' := by
  obtain ⟨B, m0, m1, m2, m3, m4, m5, hat, cg⟩ := at_treap hA hT hs hl
  have ba : ∀ o o', Below w.heap.size w ((w.alloc o).alloc o') := fun o o' => ((Below.refl _ _).alloc (Nat.le_refl _) _).alloc (by simp) _
  have HAT := Lib.hid hat
  have HA := Lib.hid hA
  have HV := Lib.hid (And.intro hv his)
  have HS := Lib.hid (And.intro hs hl)
  clear hat hv his hA hs hl hT
  go_enter Try.func12, Try.ntmps12
  go_wp2_with (go_at_call 26; ((with_reducible refine (cg _ (ba _ _)).mono ?_); clear cg; rintro e w1 ⟨rfl, hb1⟩; have hT0 := Lib.hid (((Two.new w 0 0 _).past _).keep hb1); have hT1 := Lib.hid ((by simpa using (Two.new (w.alloc (.cells #[.int .i64 0, .int .i64 0] 30)) 0 0 30) : Two _ (w.heap.size + 1) 0 0).keep hb1); have hb := (ba _ _).trans (hb1.mono (ba _ _).size); have hsz : w.heap.size + 1 < w1.heap.size := by have := hb1.size; simp at this; omega))
  go_loopw [1, 9, 10, 11] (fun tt fd n ok wr => ∃ (t' : Int) (l' : List Pr) (fb : Bool) (b : Nat) (okb : Bool) (k0 k1 k2 k3 k4 k5 s0 s1 : Int), tt = .int .i64 t' ∧ fd = .bool fb ∧ n = .pointer (some ⟨b, 0, none⟩) ∧ ok = .bool okb ∧ w.heap.size + 1 < b ∧ NodeAt wr b k0 k1 k2 k3 k4 k5 ∧ AtT L t' l' okb k0 k1 k2 k3 k4 k5 ∧ Two wr (w.heap.size + 1) s0 s1 ∧ Two wr w.heap.size 0 0 ∧ Srt l' ∧ l'.length ≤ 1000 ∧ (nextL l' key).getD (s0, s1) = (q0, q1) ∧ ((nextL l' key).isSome || fb) = is ∧ Below w.heap.size w wr) (fun tt _ _ _ _ => (intOf tt).toNat)
  case atStart =>
    exact ⟨t, l, false, _, B, m0, m1, m2, m3, m4, m5, 0, 0, rfl, rfl, rfl, rfl, hsz, (Six.new w1 m0 m1 m2 m3 m4 m5 _).toNodeAt, HAT.out, hT1.out.past _, hT0.out.past _, HS.out.1, HS.out.2, HV.out.1, by rw [HV.out.2]; simp, hb.alloc hb.size _⟩
  case round =>
    clear hb HAT hT0 hT1 hb1 ba HV HS hsz
    obtain ⟨t', l', fb, b, okb, k0, k1, k2, k3, k4, k5, s0, s1, rfl, rfl, rfl, rfl, hlb, hN, hat, hX, hR, hs, hl, hv, his, hb⟩ := hrel
    cases okb
    · have HNO := Lib.hid (show l' = [] from hat.elim (fun h => h.2) (fun h => nomatch h.1))
      obtain ⟨Wf, hWf, r0, r1, rb⟩ := hR.put s0 s1
      obtain ⟨z0, z1, f0, f1⟩ := hR
      obtain ⟨x0, x1, -, -⟩ := hX
      have HWF := Lib.hid hWf
      have HV := Lib.hid (And.intro hv his)
      clear hat hN hWf hs hl hv his
      go_wp2_with (fail)
      rw [← HWF.out]
      obtain ⟨hv, his⟩ := HV.out
      rw [HNO.out, nextL_nil] at hv his
      cases hv
      have his : fb = is := by simpa using his
      subst his
      clear HWF z0 z1 f0 f1
      refine bodyPost_ret (v := .tuple #[.agg #[.int .i64 q0, .int .i64 q1], .bool fb]) (by simp [results, Try.results12, go_sem, r0, r1]) rfl ⟨rfl, hb.trans rb⟩
    · obtain ⟨A, C, rfl, ap⟩ : ∃ A C, l' = A ++ (k0, k1) :: C ∧ Apart L t' k2 k3 A C (k0, k1) := hat.elim (fun h => nomatch h.1) (fun h => h.2)
      rw [List.length_append, List.length_cons] at hl
      have hsA := (hs.parts).1
      have hsC := (hs.parts).2.1
      by_cases hk : key < k0
      · have hk' : decide (key < k0) = true := decide_eq_true hk
        obtain ⟨B2, j0, j1, j2, j3, j4, j5, hat2, cg⟩ := at_treap HA.out ap.tx hsA (by omega)
        have HAT2 := Lib.hid hat2
        have HL2 := Lib.hid (show A.length ≤ 1000 by omega)
        have HLT := Lib.hid (show k2.toNat < t'.toNat by have := ap.hx; have := ap.x0; omega)
        have e := nextL_left (A := A) (B := C) (q := (k0, k1)) hk
        rw [e] at hv his
        have HV := Lib.hid (show (nextL A key).getD (k0, k1) = (q0, q1) ∧ ((nextL A key).isSome || true) = is from ⟨by cases h : nextL A key <;> simp [h] at hv ⊢ <;> exact hv, by cases h : nextL A key <;> simp [h] at his ⊢ <;> exact his⟩)
        obtain ⟨Wx, hWx, hX2, ho, hbx⟩ := hX.put2 k0 k1
        have HWX := Lib.hid hWx
        have HN := Lib.hid (hN.only ho (by omega))
        have HX := Lib.hid hX2
        have HR := Lib.hid (hR.only ho (by omega))
        have HSA := Lib.hid hsA
        have hbX := hb.trans (hbx.mono (by omega))
        have HHB := Lib.hid hb
        obtain ⟨c0, c1, c2, c3, c4, c5⟩ := hN
        obtain ⟨x0, x1, g0, g1⟩ := hX
        clear hat hs hl hv his hat2 ap e hsA hsC hX2 ho hbx hWx hR hk
        go_upto_region 8 with (fail)
        rw [← HWX.out]
        clear c0 c1 c2 c3 c4 c5 x0 x1 g0 g1 HWX
        obtain ⟨c0, c1, c2, c3, c4, c5⟩ := HN.out
        go_wp2_with (first
          | (go_at_call 26; ((with_reducible refine (cg _ (hbX.alloc hbX.size _)).mono ?_); clear cg; rintro e w4 ⟨rfl, hb4⟩; have s4 := (Six.new Wx k0 k1 k2 k3 k4 k5 _).keep hb4; obtain ⟨Wf, hWf, hNf, rb⟩ := s4.put j0 j1 j2 j3 j4 j5; have HS := Lib.hid (And.intro hNf rb); clear hNf rb; have HX4 := Lib.hid ((HX.out.past _).keep hb4); have HR4 := Lib.hid ((HR.out.past _).keep hb4); have lx4 := HX.out.lt; have lr4 := HR.out.lt; obtain ⟨⟨z0, z1, z2, z3, z4, z5⟩, f0, f1, f2, f3, f4, f5⟩ := s4; have HWF := Lib.hid hWf; clear hWf)))
        go_roundw
        case rel =>
          rw [← HWF.out]
          exact ⟨k2, A, true, _, B2, j0, j1, j2, j3, j4, j5, k0, k1, rfl, rfl, rfl, rfl, lx4, HS.out.1, HAT2.out, HX4.out.under HS.out.2 lx4, HR4.out.under HS.out.2 lr4, HSA.out, HL2.out, HV.out.1, HV.out.2, round_below hbX hb4 HS.out.2⟩
        case measure => exact HLT.out
      · have hk' : decide (key < k0) = false := decide_eq_false hk
        obtain ⟨B2, j0, j1, j2, j3, j4, j5, hat2, cg⟩ := at_treap HA.out ap.ty hsC (by omega)
        have HAT2 := Lib.hid hat2
        have HL2 := Lib.hid (show C.length ≤ 1000 by omega)
        have HLT := Lib.hid (show k3.toNat < t'.toNat by have := ap.hy; have := ap.y0; omega)
        have e := nextL_right (A := A) (B := C) (q := (k0, k1)) hs (show (k0, k1).1 ≤ key by dsimp only; omega)
        rw [e] at hv his
        have HV := Lib.hid (And.intro hv his)
        have HX := Lib.hid hX
        have HR := Lib.hid hR
        have HSA := Lib.hid hsC
        obtain ⟨c0, c1, c2, c3, c4, c5⟩ := hN
        clear hat hs hl hv his hat2 ap e hsA hsC hX hR hk
        go_wp2_with (first
          | (go_at_call 26; ((with_reducible refine (cg _ (hb.alloc hb.size _)).mono ?_); clear cg; rintro e w4 ⟨rfl, hb4⟩; have s4 := (Six.new wr k0 k1 k2 k3 k4 k5 _).keep hb4; obtain ⟨Wf, hWf, hNf, rb⟩ := s4.put j0 j1 j2 j3 j4 j5; have HS := Lib.hid (And.intro hNf rb); clear hNf rb; have HX4 := Lib.hid ((HX.out.past _).keep hb4); have HR4 := Lib.hid ((HR.out.past _).keep hb4); have lx4 := HX.out.lt; have lr4 := HR.out.lt; obtain ⟨⟨z0, z1, z2, z3, z4, z5⟩, f0, f1, f2, f3, f4, f5⟩ := s4; have HWF := Lib.hid hWf; clear hWf)))
        go_roundw
        case rel =>
          rw [← HWF.out]
          exact ⟨k3, C, fb, _, B2, j0, j1, j2, j3, j4, j5, s0, s1, rfl, rfl, rfl, rfl, lx4, HS.out.1, HAT2.out, HX4.out.under HS.out.2 lx4, HR4.out.under HS.out.2 lr4, HSA.out, HL2.out, HV.out.1, HV.out.2, round_below hb hb4 HS.out.2⟩
        case measure => exact HLT.out
end Go.Proofs.Ytbaeemonkgllhaa

namespace Go.Proofs.Ytbaeemonkgllhaa
open Go.RowKit
set_option linter.all false

theorem rngL_take {l : List Pr} {n : Nat} {q : Pr} (lo hi : Int) (hq : l[n]? = some q) : rngL (l.take (n + 1)) lo hi = rngL (l.take n) lo hi ++ rngL [q] lo hi := by
  have e : l.take (n + 1) = l.take n ++ [q] := by rw [List.take_succ, hq]; rfl
  rw [e, rngL_app]

/-- What the loop keeps. -/
structure BLoop (w wr : World) (out : Value) (ks : List Pr) : Prop where
  row : PRow wr (fun j => j < w.heap.size) out ks
  b : Below w.heap.size w wr
theorem BLoop.push {w wr w1 : World} {out out' : Value} {ks : List Pr} {q : Pr} (h : BLoop w wr out ks)
    (hR : PRow w1 (fun j => j < w.heap.size) out' (ks ++ [q])) (hO : Only (fun j => ¬ (j < w.heap.size)) wr w1) : BLoop w w1 out' (ks ++ [q]) :=
  ⟨hR, h.b.trans (hO.below (fun i hi => Nat.le_of_not_lt hi) h.b.size)⟩

set_option maxRecDepth 100000 in
set_option maxHeartbeats 6400000 in
theorem betw_any (a : Option Addr) (cap : Nat) (l : List Pr) (lo hi : Int) (w : World) (h : Prs w a cap l) (hl : l.length ≤ 1000) :
    Calls Try.prog 11 #[.slice a l.length cap, .int .i64 lo, .int .i64 hi] w fun e w' => ∃ ao cp, e = .returned (.slice ao (rngL l lo hi).length cp) ∧ PRow w' (fun j => j < w.heap.size) (.slice ao (rngL l lo hi).length cp) (rngL l lo hi) ∧ Below w.heap.size w w' := by
  have HH := Lib.hid h
  have hc1 := h.1
  have hc2 := h.2.1
  clear h
  unfold maxLen at hc2
  go_enter Try.func11, Try.ntmps11
  go_wp2_with (fail)
  go_loopw [7, 12] (fun out i wr => ∃ (n : Nat) (ao : Option Addr) (cp m : Nat) (ks : List Pr), n ≤ l.length ∧ i = .int .i64 n ∧ out = .slice ao m cp ∧ m = ks.length ∧ m ≤ n ∧ ks = rngL (l.take n) lo hi ∧ BLoop w wr out ks) (fun _ i _ => l.length - (intOf i).toNat)
  case atStart => exact ⟨0, none, 0, 0, [], Nat.zero_le _, rfl, rfl, rfl, Nat.le_refl _, rfl, PRow.nil _ _, Below.refl _ _⟩
  case round =>
    obtain ⟨n, ao, cp, m, ks, hn, rfl, rfl, rfl, hm, hks, hK⟩ := hrel
    have HKS := Lib.hid hks
    clear hks
    by_cases hlt : n < l.length
    · obtain ⟨q, hq⟩ : ∃ q, l[n]? = some q := ⟨_, List.getElem?_eq_getElem hlt⟩
      obtain ⟨b, o, rfl, c0, c1⟩ := (HH.out.below hK.b).2.2 n q hq
      obtain ⟨x0, x1⟩ := q
      dsimp only at c0 c1
      have HT := Lib.hid (rngL_take lo hi hq)
      clear hq
      have hal := (Below.refl wr.heap.size wr).alloc (Nat.le_refl _) (.cells #[.int .i64 x0, .int .i64 x1] 30)
      have HR := Lib.hid (hK.row.below hal)
      have HK2 : Hid (BLoop w (wr.alloc (.cells #[.int .i64 x0, .int .i64 x1] 30)) (.slice ao ks.length cp) ks) := Lib.hid ⟨HR.out, hK.b.alloc hK.b.size _⟩
      have hws := hK.b.size
      have HS : Hid (∀ j, j < w.heap.size → j < (wr.alloc (.cells #[.int .i64 x0, .int .i64 x1] 30)).heap.size) := Lib.hid (fun j hj => by simp; omega)
      clear hK hal
      by_cases h1 : lo ≤ x0
      · have b1 : decide (lo ≤ x0) = true := decide_eq_true h1
        by_cases h2 : x0 ≤ hi
        · have b2 : decide (x0 ≤ hi) = true := decide_eq_true h2
          have HN := Lib.hid (rngL_in (q := (x0, x1)) h1 h2 [])
          clear h1 h2
          go_wp2_with (first | (at_builtin; refine wpList_push rfl (.tmp 26) (.tmp 28) rfl (fun j => j < w.heap.size) _ ks x0 x1 rfl HR.out HS.out _ rfl (by simp) (by omega) ?_; intro ao1 cp1 w3 hm1 hc1 hR1 hk1 hO1; have HF := Lib.hid (HK2.out.push (q := (x0, x1)) hR1 hO1); clear hR1 hk1 hO1))
          go_roundw
          case rel => exact ⟨n + 1, ao1, cp1, ks.length + 1, ks ++ [(x0, x1)], by omega, by go_num, rfl, by simp, by omega, by rw [HT.out, HN.out, rngL_nil, ← HKS.out], HF.out⟩
          case measure => simp [intOf]; omega
        · have b2 : decide (x0 ≤ hi) = false := decide_eq_false h2
          have HN := Lib.hid (rngL_out (q := (x0, x1)) (lo := lo) (hi := hi) (fun h => h2 h.2) [])
          clear h1 h2
          go_wp2_with (fail)
          go_roundw
          case rel => exact ⟨n + 1, ao, cp, ks.length, ks, by omega, by go_num, rfl, rfl, by omega, by rw [HT.out, HN.out, rngL_nil, List.append_nil]; exact HKS.out, HK2.out⟩
          case measure => simp [intOf]; omega
      · have b1 : decide (lo ≤ x0) = false := decide_eq_false h1
        have HN := Lib.hid (rngL_out (q := (x0, x1)) (lo := lo) (hi := hi) (fun h => h1 h.1) [])
        clear h1
        go_wp2_with (fail)
        go_roundw
        case rel => exact ⟨n + 1, ao, cp, ks.length, ks, by omega, by go_num, rfl, rfl, by omega, by rw [HT.out, HN.out, rngL_nil, List.append_nil]; exact HKS.out, HK2.out⟩
        case measure => simp [intOf]; omega
    · obtain rfl : n = l.length := by omega
      have eL : ks = rngL l lo hi := by rw [HKS.out, List.take_of_length_le (Nat.le_refl _)]
      have HL := Lib.hid hK
      have HE := Lib.hid eL
      clear hK eL
      go_wp2_with (fail)
      go_ret
      rw [← HE.out]
      exact ⟨_, _, rfl, HL.out.row, HL.out.b⟩

set_option maxRecDepth 100000 in
set_option maxHeartbeats 6400000 in
theorem same_any (a a2 : Option Addr) (cap cap2 n1 n2 : Nat) (l : List Pr) (w : World) (h : Prs w a cap l) (h2 : Prs w a2 cap2 l) (hn1 : n1 = l.length) (hn2 : n2 = l.length) :
    Calls Try.prog 13 #[.slice a n1 cap, .slice a2 n2 cap2] w fun e w' => e = .returned (.bool true) ∧ Below w.heap.size w w' := by
  subst hn1
  subst hn2
  have HH := Lib.hid h
  have HH2 := Lib.hid h2
  have hc1 := h.1
  have hc2 := h.2.1
  have hc3 := h2.1
  have hc4 := h2.2.1
  clear h h2
  unfold maxLen at hc2 hc4
  go_enter Try.func13, Try.ntmps13
  go_wp2_with (fail)
  go_loopw [13] (fun i wr => ∃ n : Nat, n ≤ l.length ∧ i = .int .i64 n ∧ Below w.heap.size w wr) (fun i _ => l.length - (intOf i).toNat)
  case atStart => exact ⟨0, Nat.zero_le _, rfl, Below.refl _ _⟩
  case round =>
    obtain ⟨n, hn, rfl, hb⟩ := hrel
    by_cases hlt : n < l.length
    · obtain ⟨q, hq⟩ : ∃ q, l[n]? = some q := ⟨_, List.getElem?_eq_getElem hlt⟩
      obtain ⟨b, o, rfl, c0, c1⟩ := (HH.out.below hb).2.2 n q hq
      obtain ⟨b', o', rfl, d0, d1⟩ := (HH2.out.below hb).2.2 n q hq
      obtain ⟨x0, x1⟩ := q
      dsimp only at c0 c1 d0 d1
      clear hq
      have hn0 : (0 : Int) ≤ (n : Int) := by omega
      have hnl : (n : Int) < (l.length : Int) := by omega
      go_wp2_with (fail)
      go_quiet (fail)
      go_wp2_with (fail)
      go_roundw
      case rel => exact ⟨n + 1, by omega, by go_num, below_drewN hb _⟩
      case measure => simp [intOf]; omega
    · obtain rfl : n = l.length := by omega
      go_wp2_with (fail)
      go_ret
      exact ⟨rfl, hb⟩
end Go.Proofs.Ytbaeemonkgllhaa

namespace Go.Proofs.Ytbaeemonkgllhaa
open Go.RowKit
set_option linter.all false

section
variable {w0 w : World} {p : Nat} {room st : Int} {L : List It} {t : Int} {l : List Pr}
/-- A row of its own with its place and its length. -/
def RowOut (w : World) (l : List Pr) (n : Nat) (e : Ending) (w' : World) : Prop :=
  ∃ (ao : Option Addr) (cp : Nat), e = .returned (.slice ao n cp) ∧ n ≤ cp ∧ cp ≤ maxLen ∧ PRow w' (fun j => j < w.heap.size) (.slice ao n cp) l ∧ Below w.heap.size w w'
theorem RowOut.of {e : Ending} {w' : World} {n : Nat} (h : RangeSays w l e w') (hn : l.length = n) : RowOut w l n e w' := by
  subst hn
  obtain ⟨v, rfl, hP, hb⟩ := h
  obtain ⟨ao, cp, rfl, h1, h2⟩ := hP.form
  exact ⟨ao, cp, rfl, h1, h2, hP, hb⟩
theorem wrange (h : Held w0 w p room st L) (T : Tree L t l) (hs : Srt l) (hl : l.length ≤ 1000) (lo hi : Int) (m : List Pr) (n : Nat) (hm : rngL l lo hi = m) (hn : m.length = n) :
    Calls Try.prog 15 #[.pointer (some ⟨p, 0, none⟩), .int .i64 t, .int .i64 lo, .int .i64 hi] w (RowOut w m n) := by
  subst hm
  exact (range_any h.a T hs hl lo hi).mono (fun e w' hh => RowOut.of hh hn)
theorem wcount (h : Held w0 w p room st L) (T : Tree L t l) (hs : Srt l) (hl : l.length ≤ 1000) (lo hi n : Int) (hn : ((rngL l lo hi).length : Int) = n) :
    Calls Try.prog 16 #[.pointer (some ⟨p, 0, none⟩), .int .i64 t, .int .i64 lo, .int .i64 hi] w fun e w' => e = .returned (.int .i64 n) ∧ Below w.heap.size w w' :=
  count_any h.a T hs hl lo hi n hn
theorem wall (h : Held w0 w p room st L) (T : Tree L t l) (hs : Srt l) (hl : l.length ≤ 1000) (hr : Rng l) (n : Nat) (hn : l.length = n) :
    Calls Try.prog 14 #[.pointer (some ⟨p, 0, none⟩), .int .i64 t] w (RowOut w l n) :=
  (wall_any h.a T hs hl hr).mono (fun e w' hh => RowOut.of hh hn)
theorem wnext (h : Held w0 w p room st L) (T : Tree L t l) (hs : Srt l) (hl : l.length ≤ 1000) (key q0 q1 : Int) (is : Bool) (hv : (nextL l key).getD (0, 0) = (q0, q1)) (his : (nextL l key).isSome = is) :
    Calls Try.prog 12 #[.pointer (some ⟨p, 0, none⟩), .int .i64 t, .int .i64 key] w fun e w' => e = .returned (.tuple #[.agg #[.int .i64 q0, .int .i64 q1], .bool is]) ∧ Below w.heap.size w w' :=
  next_any h.a T hs hl key q0 q1 is hv his
end

end Go.Proofs.Ytbaeemonkgllhaa
