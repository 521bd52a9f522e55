/- put's madeOf and parted, over the treap of sorted pairs. -/
import Derived.Test.YtmbeaefgakfbnaaPt2
namespace Go.Proofs.Ytmbeaefgakfbnaa
open Go.RowKit
set_option linter.all false

/-- The arena's items are these now; nothing has turned but its own blocks, and what is new. -/
def Grew (w : World) (p : Nat) (F : Nat → Prop) (room st : Int) (L : List It) (w' : World) : Prop := Arena w' p (Plus F w w') room st L ∧ Only F w w'

/-- A world on the way of a call that began at w: the arena stands, and has neither the block b nor the block c; nothing older has turned but the arena's. -/
structure Wk (w W : World) (p : Nat) (F : Nat → Prop) (room st : Int) (L : List It) (b c : Nat) : Prop where
  a : Arena W p (fun k => Plus F w W k ∧ k ≠ b ∧ k ≠ c) room st L
  o : Only F w W
  lb : b < W.heap.size
  lc : c < W.heap.size

section
variable {w W W' : World} {p : Nat} {F : Nat → Prop} {room st : Int} {L L' : List It} {b c : Nat}
theorem Grew.ofBelow (h : Arena w p F room st L) (hb : Below w.heap.size w W) : Grew w p F room st L W := ⟨(h.below hb).mono (fun k hk _ => .inl hk), Only.ofBelow hb⟩
theorem Grew.since {G : Nat → Prop} (m : Grew W p G room st L W') (b : Below w.heap.size w W) (hF : ∀ k, G k → F k) : Grew w p F room st L W' := by
  obtain ⟨hA, hO⟩ := m
  refine ⟨hA.mono (fun k hk hlt => ?_), Only.trans (S := F) (Only.ofBelow b) hO (fun i hi _ => hF i hi)⟩
  rcases hk with hk | hk
  · exact .inl (hF k hk)
  · exact .inr ⟨Nat.le_trans b.size hk.1, hk.2⟩
theorem Wk.begin (h : Arena w p F room st L) (hb : Below w.heap.size w W) (h1 : w.heap.size ≤ b) (h2 : w.heap.size ≤ c) (l1 : b < W.heap.size) (l2 : c < W.heap.size) : Wk w W p F room st L b c :=
  ⟨(h.mono (G := fun k => F k ∧ k < w.heap.size) (fun k hk hlt => ⟨hk, hlt⟩)).below hb |>.mono (fun k hk _ => ⟨.inl hk.1, by have := hk.2; omega, by have := hk.2; omega⟩), Only.ofBelow hb, l1, l2⟩
theorem Wk.below (h : Wk w W p F room st L b c) (hb : Below W.heap.size W W') : Wk w W' p F room st L b c :=
  ⟨(h.a.below hb).mono (fun k hk _ => ⟨hk.1.imp id (fun e => ⟨e.1, Nat.lt_of_lt_of_le e.2 hb.size⟩), hk.2⟩), h.o.trans (Only.ofBelow (S := fun _ => False) hb) (fun _ hf => hf.elim), Nat.lt_of_lt_of_le h.lb hb.size, Nat.lt_of_lt_of_le h.lc hb.size⟩
theorem Wk.go (h : Wk w W p F room st L b c) (m : Grew W p (fun k => Plus F w W k ∧ k ≠ b ∧ k ≠ c) room st L' W') : Wk w W' p F room st L' b c := by
  obtain ⟨hA, hO⟩ := m
  have hs := hO.size
  have l1 := h.lb
  have l2 := h.lc
  have hs0 := h.o.size
  refine ⟨hA.mono (fun k hk hlt => ?_), h.o.trans hO (fun i hi hlt => ?_), by omega, by omega⟩
  · rcases hk with ⟨hk, h1, h2⟩ | ⟨hk, hk2⟩
    · exact ⟨hk.imp id (fun e => ⟨e.1, by omega⟩), h1, h2⟩
    · exact ⟨.inr ⟨by omega, hk2⟩, by omega, by omega⟩
  · rcases hi.1 with hi | hi
    · exact hi
    · omega
theorem Wk.node {k v x y s hh : Int} (m : Grew W p (fun k => Plus F w W k ∧ k ≠ b ∧ k ≠ c) room st L' W') (n : NodeAt W b k v x y s hh) : NodeAt W' b k v x y s hh := n.only m.2 (fun e => e.2.1 rfl)
theorem Wk.two {k v : Int} (m : Grew W p (fun k => Plus F w W k ∧ k ≠ b ∧ k ≠ c) room st L' W') (n : Two W c k v) : Two W' c k v := n.only m.2 (fun e => e.2.2 rfl)
theorem Wk.grew (h : Wk w W p F room st L b c) : Grew w p F room st L W := ⟨h.a.mono (fun k hk _ => hk.1), h.o⟩

/-- What at says of a node of a treap. -/
theorem at_apart (hA : Arena w p F room st L) {t x y : Int} {A B : List Pr} {q : Pr} (h : Apart L t x y A B q) (hl : A.length + B.length + 1 ≤ 1000) :
    ∃ s hh : Int, Calls Try.prog 34 #[.pointer (some ⟨p, 0, none⟩), .int .i64 t] w fun e w' => e = .returned (.tuple #[.agg #[.int .i64 q.1, .int .i64 q.2, .int .i64 x, .int .i64 y, .int .i64 s, .int .i64 hh], .bool true]) ∧ Below w.heap.size w w' := by
  obtain ⟨n0, n1, n2, n3, n4, n5, n6⟩ := node_says h.item
  have gx := (h.tx.hung (by omega)).1
  have gy := (h.ty.hung (by omega)).1
  refine ⟨valL L t 4, valL L t 5, at_core (some ⟨p, 0, none⟩) t q.1 q.2 x y _ _ true w (fun W hb => ?_) (fun W hb => counted_ok (hA.below hb) t x gx.ok (.inl h.hx)) (fun W hb => counted_ok (hA.below hb) t y gy.ok (.inl h.hy))⟩
  have := get_yes t W p F room st L (hA.below hb) n0
  rw [n1, n2, n3, n4] at this
  exact this
theorem at_zero (hA : Arena w p F room st L) :
    Calls Try.prog 34 #[.pointer (some ⟨p, 0, none⟩), .int .i64 0] w fun e w' => e = .returned (.tuple #[.agg #[.int .i64 0, .int .i64 0, .int .i64 0, .int .i64 0, .int .i64 0, .int .i64 0], .bool false]) ∧ Below w.heap.size w w' :=
  at_core (some ⟨p, 0, none⟩) 0 0 0 0 0 0 0 false w (fun W hb => get_no 0 W p F room st L (hA.below hb) (by rw [kindL_zero L 0 (by decide)]; decide)) (fun W hb => counted_zero (hA.below hb) 0) (fun W hb => counted_zero (hA.below hb) 0)

/-! ### madeOf -/

theorem madeOf_err (q : Option Addr) (k v x y er : Int) (w : World) (he : er ≠ 0) :
    Calls Try.prog 37 #[.pointer q, .agg #[.int .i64 k, .int .i64 v], .int .i64 x, .int .i64 y, .int .i64 er] w fun e w' => e = .returned (.tuple #[.int .i64 0, .int .i64 er]) ∧ Below w.heap.size w w' := by
  have h0 : (er != 0) = true := by simpa using he
  clear he
  go_enter Try.func37, Try.ntmps37
  go_wp2_with (fail)
  go_ret2
  exact ⟨rfl, (Below.refl _ _).alloc (Nat.le_refl _) _⟩
theorem madeOf_go (q : Option Addr) (k v x y : Int) (w : World) (R : Int → Int → World → Prop)
    (cm : ∀ W, Below w.heap.size w W → Calls Try.prog 23 #[.pointer q, .agg #[.int .i64 k, .int .i64 v], .int .i64 x, .int .i64 y] W fun e w' => ∃ n er, e = .returned (.tuple #[.int .i64 n, .int .i64 er]) ∧ R n er w') :
    Calls Try.prog 37 #[.pointer q, .agg #[.int .i64 k, .int .i64 v], .int .i64 x, .int .i64 y, .int .i64 0] w fun e w' => ∃ n er, e = .returned (.tuple #[.int .i64 n, .int .i64 er]) ∧ R n er w' := by
  have ba : ∀ o, Below w.heap.size w (w.alloc o) := fun o => (Below.refl _ _).alloc (Nat.le_refl _) _
  go_enter Try.func37, Try.ntmps37
  go_wp2_with (go_at_call 23; ((with_reducible refine (cm _ (ba _)).mono ?_); clear cm; rintro e w2 ⟨n, er, rfl, hR⟩))
  go_ret2
  exact ⟨n, er, rfl, hR⟩

/-- A node on two treaps, or no room. -/
def MkSays (w : World) (p : Nat) (F : Nat → Prop) (room st : Int) (L : List It) (l : List Pr) (n er : Int) (w' : World) : Prop :=
  ∃ M : List It, Grew w p F room st (L ++ M) w' ∧ M.length ≤ 1 ∧ ((er = 0 ∧ Tree (L ++ M) n l) ∨ (er = 2 ∧ M = [] ∧ room = L.length))
theorem tmake (hA : Arena w p F room st L) {x y k v : Int} {A B : List Pr} (hs : Srt (A ++ (k, v) :: B)) (h : ∀ z ∈ A ++ B, abv k z.1 = true) (tx : Tree L x A) (ty : Tree L y B) (hl : A.length + B.length + 1 ≤ 1000) :
    Calls Try.prog 23 #[.pointer (some ⟨p, 0, none⟩), .agg #[.int .i64 k, .int .i64 v], .int .i64 x, .int .i64 y] w fun e w' => ∃ n er, e = .returned (.tuple #[.int .i64 n, .int .i64 er]) ∧ MkSays w p F room st L (A ++ (k, v) :: B) n er w' := by
  obtain ⟨g1, x0, x1⟩ := tx.hung (by omega)
  obtain ⟨g2, y0, y1⟩ := ty.hung (by omega)
  have hA1 := hi_le _ A (Nat.le_refl _)
  have hB1 := hi_le _ B (Nat.le_refl _)
  by_cases hr : (L.length : Int) < room
  · refine (nmake_ok k v hA g1 g2 hr).mono ?_
    rintro e w' ⟨rfl, ha, ho⟩
    rw [oneM_small (by omega) (by omega) (by omega), oneM_high (by omega) (by omega)] at ha
    refine ⟨(L.length : Int) + 1, 0, by simp, _, ⟨ha, ho⟩, by simp, .inl ⟨rfl, ?_⟩⟩
    exact Tree.cat hs h (itemAt_new _ _ _ rfl) (by first | omega | simp) (by omega) (by omega) (by omega) x0 y0 (tx.app _) (ty.app _)
  · have hfit : (L.length : Int) ≤ room := by obtain ⟨sv, vv, hi, _⟩ := hA; exact hi.fits
    have he : room = L.length := by omega
    refine (nmake_full k v hA g1 g2 he).mono ?_
    rintro e w' ⟨rfl, hb⟩
    exact ⟨0, 2, rfl, [], by rw [List.append_nil]; exact Grew.ofBelow hA hb, by simp, .inr ⟨rfl, rfl, he⟩⟩
/-- madeOf of what a recursion told: two treaps, or an error. -/
theorem madeOf_tree (hA : Arena w p F room st L) {x y k v er : Int} {A B : List Pr} (hs : Srt (A ++ (k, v) :: B)) (h : ∀ z ∈ A ++ B, abv k z.1 = true) (hl : A.length + B.length + 1 ≤ 1000) (hc : (er = 0 ∧ Tree L x A ∧ Tree L y B) ∨ (er = 2 ∧ room = L.length)) :
    Calls Try.prog 37 #[.pointer (some ⟨p, 0, none⟩), .agg #[.int .i64 k, .int .i64 v], .int .i64 x, .int .i64 y, .int .i64 er] w fun e w' => ∃ n er', e = .returned (.tuple #[.int .i64 n, .int .i64 er']) ∧ (er = 2 → er' = 2) ∧ MkSays w p F room st L (A ++ (k, v) :: B) n er' w' := by
  rcases hc with ⟨rfl, tx, ty⟩ | ⟨rfl, he⟩
  · refine madeOf_go _ k v x y w (fun n er' w' => ((0 : Int) = 2 → er' = 2) ∧ MkSays w p F room st L (A ++ (k, v) :: B) n er' w') (fun W hb => (tmake (hA.below hb) hs h tx ty hl).mono ?_)
    rintro e w' ⟨n, er, rfl, M, hg, hM, hcc⟩
    exact ⟨n, er, rfl, fun h => absurd h (by decide), M, hg.since hb (fun k hk => hk), hM, hcc⟩
  · refine (madeOf_err _ k v x y 2 w (by decide)).mono ?_
    rintro e w' ⟨rfl, hb⟩
    exact ⟨0, 2, rfl, fun _ => rfl, [], by rw [List.append_nil]; exact Grew.ofBelow hA hb, by simp, .inr ⟨rfl, rfl, he⟩⟩
end
end Go.Proofs.Ytmbeaefgakfbnaa
