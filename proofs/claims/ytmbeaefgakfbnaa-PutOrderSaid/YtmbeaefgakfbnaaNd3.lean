/- Contracts of package node: Make. -/
import Derived.Test.YtmbeaefgakfbnaaNd2
namespace Go.Proofs.Ytmbeaefgakfbnaa
open Go.RowKit
set_option linter.all false

/-- A cell, behind a new block and a call. -/
theorem cell_past {W W' : World} {o : Obj} {q : Addr} {v : Value} (hb : Below (W.alloc o).heap.size (W.alloc o) W') (hc : W.cell? q = some v) : W'.cell? q = some v := by
  have hA : Below W.heap.size W (W.alloc o) := (Below.refl _ _).alloc (Nat.le_refl _) _
  exact ((hA.trans (hb.mono hA.size)).cell (p := q) (World.block_lt_of_cell? W q hc)).trans hc
/-- A cell of the new block, behind the call. -/
theorem cell_new {W W' : World} {cs : Array Value} {t : TypeId} {v : Value} (hb : Below (W.alloc (.cells cs t)).heap.size (W.alloc (.cells cs t)) W') (j : Nat) (hj : cs[j]? = some v) : W'.cell? ⟨W.heap.size, j, none⟩ = some v :=
  (hb.cell (p := ⟨W.heap.size, j, none⟩) (by simp)).trans (by rw [World.cell?_alloc_new]; exact hj)
theorem cell_alloc {W : World} {q : Addr} {v : Value} (h : W.cell? q = some v) (o : Obj) : (W.alloc o).cell? q = some v :=
  (((Below.refl W.heap.size W).alloc (Nat.le_refl _) o).cell (p := q) (World.block_lt_of_cell? W q h)).trans h
theorem below_past {w W W' : World} {o : Obj} (h : Below w.heap.size w W) (hb : Below (W.alloc o).heap.size (W.alloc o) W') : Below w.heap.size w W' := by
  have hA : Below W.heap.size W (W.alloc o) := (Below.refl _ _).alloc (Nat.le_refl _) _
  exact h.trans ((hA.trans (hb.mono hA.size)).mono h.size)

/-- What a node's record holds. -/
def nodeIt (k v lt rt s h : Int) : It := (1, [k, v, lt, rt, s, h])

theorem Made.since {w W w' : World} {p : Nat} {F F' : Nat → Prop} {room st : Int} {l : List It} {x : It} {e : Ending} (m : Made W p F' room st l x e w') (b : Below w.heap.size w W) (hF : ∀ k, F' k → F k) : Made w p F room st l x e w' := by
  obtain ⟨he, hA, hO⟩ := m
  refine ⟨he, hA.mono (fun k hk hlt => ?_), Only.trans (S := F) (Only.ofBelow b) hO (fun i hi _ => hF i hi)⟩
  rcases hk with hk | hk
  · exact .inl (hF k hk)
  · exact .inr ⟨Nat.le_trans b.size hk.1, hk.2⟩

/-- The arena's Make of six values that the caller writes out, in a world since w. -/
theorem make_six {w W : World} (b : Below w.heap.size w W) (k v lt rt s hh : Int) (g p : Nat) (F : Nat → Prop) (room st : Int) (l : List It) (hA : Arena w p F room st l) (hr : (l.length : Int) < room) (hg : g = W.heap.size) :
    Calls Try.prog 33 #[.pointer (some ⟨p, 0, none⟩), .int .i64 1, .slice (some ⟨g, 0, none⟩) 6 6] (W.alloc (.cells #[.int .i64 k, .int .i64 v, .int .i64 lt, .int .i64 rt, .int .i64 s, .int .i64 hh] 3)) (Made w p F room st l (1, [k, v, lt, rt, s, hh])) := by
  subst hg
  refine (make_ok 1 [k, v, lt, rt, s, hh] _ _ p _ room st l ((hA.below b).fresh _) (by omega) (by simp) hr (.inr ⟨⟨W.heap.size, 0, none⟩, 6, rfl, .inr (fun hh => hh.2 rfl), by simp [maxLen], fun j hj => ?_⟩)).mono fun e w' m => m.since (b.alloc b.size _) (fun k hk => hk.1)
  rw [add_lit, Nat.zero_add, World.cell?_alloc_new]
  have hj : j < 6 := hj
  match j, hj with
  | 0, _ => rfl
  | 1, _ => rfl
  | 2, _ => rfl
  | 3, _ => rfl
  | 4, _ => rfl
  | 5, _ => rfl

set_option maxHeartbeats 3200000 in
theorem nmake_core (k v lt rt sl sr hl hr s hh n er : Int) (R : World → Prop) (w : World) (p : Nat)
    (cl : ∀ W, Below w.heap.size w W → Calls Try.prog 31 #[.pointer (some ⟨p, 0, none⟩), .int .i64 lt] W fun e w' =>
      (∃ v0 v1 v2 v3 : Int, e = .returned (.tuple #[.agg #[.int .i64 v0, .int .i64 v1, .int .i64 v2, .int .i64 v3, .int .i64 sl, .int .i64 hl], .bool true])) ∧ Below W.heap.size W w')
    (cr : ∀ W, Below w.heap.size w W → Calls Try.prog 31 #[.pointer (some ⟨p, 0, none⟩), .int .i64 rt] W fun e w' =>
      (∃ v0 v1 v2 v3 : Int, e = .returned (.tuple #[.agg #[.int .i64 v0, .int .i64 v1, .int .i64 v2, .int .i64 v3, .int .i64 sr, .int .i64 hr], .bool true])) ∧ Below W.heap.size W w')
    (c1 : ∀ W, Calls Try.prog 32 #[.int .i64 sl, .int .i64 sr] W fun e w' => e = .returned (.int .i64 s) ∧ W = w')
    (c2 : hr ≤ hl → ∀ W, Calls Try.prog 32 #[.int .i64 hl, .int .i64 0] W fun e w' => e = .returned (.int .i64 hh) ∧ W = w')
    (c3 : hl < hr → ∀ W, Calls Try.prog 32 #[.int .i64 hr, .int .i64 0] W fun e w' => e = .returned (.int .i64 hh) ∧ W = w')
    (cm : ∀ W g, Below w.heap.size w W → g = W.heap.size → Calls Try.prog 33 #[.pointer (some ⟨p, 0, none⟩), .int .i64 1, .slice (some ⟨g, 0, none⟩) 6 6]
      (W.alloc (.cells #[.int .i64 k, .int .i64 v, .int .i64 lt, .int .i64 rt, .int .i64 s, .int .i64 hh] 3)) fun e w' => e = .returned (.tuple #[.int .i64 n, .int .i64 er]) ∧ R w') :
    Calls Try.prog 23 #[.pointer (some ⟨p, 0, none⟩), .agg #[.int .i64 k, .int .i64 v], .int .i64 lt, .int .i64 rt] w fun e w' => e = .returned (.tuple #[.int .i64 n, .int .i64 er]) ∧ R w' := by
  have ba : ∀ o, Below w.heap.size w (w.alloc o) := fun o => (Below.refl _ _).alloc (Nat.le_refl _) _
  go_enter Try.func23, Try.ntmps23
  go_wp2_with (first
    | (go_at_call_of 31 (Value.int .i64 lt); ((with_reducible refine (cl _ (ba _)).mono ?_); rintro e w1 ⟨⟨v0, v1, v2, v3, rfl⟩, hb⟩; have b1 := below_past (Below.refl _ _) hb; have x0 := cell_new hb 0 rfl; have x1 := cell_new hb 1 rfl; clear cl hb))
    | (go_at_call_of 31 (Value.int .i64 rt); ((with_reducible refine (cr _ (b1.alloc b1.size _)).mono ?_); rintro e w2 ⟨⟨u0, u1, u2, u3, rfl⟩, hb⟩; have b2 := below_past b1 hb; have y0 := cell_alloc (cell_past hb x0) (.cells #[.int .i64 u0, .int .i64 u1, .int .i64 u2, .int .i64 u3, .int .i64 sr, .int .i64 hr] 55); have y1 := cell_alloc (cell_past hb x1) (.cells #[.int .i64 u0, .int .i64 u1, .int .i64 u2, .int .i64 u3, .int .i64 sr, .int .i64 hr] 55); have y4 := cell_alloc (cell_new hb 4 rfl) (.cells #[.int .i64 u0, .int .i64 u1, .int .i64 u2, .int .i64 u3, .int .i64 sr, .int .i64 hr] 55); have y5 := cell_alloc (cell_new hb 5 rfl) (.cells #[.int .i64 u0, .int .i64 u1, .int .i64 u2, .int .i64 u3, .int .i64 sr, .int .i64 hr] 55); clear cr hb x0 x1 b1))
    | (go_at_call 32; ((with_reducible refine (c1 _).mono ?_); rintro e w3 ⟨rfl, rfl⟩; clear c1))
    | (go_at_call 32; ((with_reducible refine (c2 (by assumption) _).mono ?_); rintro e w4 ⟨rfl, rfl⟩; clear c2 c3))
    | (go_at_call 32; ((with_reducible refine (c3 (by assumption) _).mono ?_); rintro e w4 ⟨rfl, rfl⟩; clear c2 c3))
    | (go_at_call 33; ((with_reducible refine (cm _ _ (b2.alloc b2.size _) (by simp)).mono ?_); rintro e w5 ⟨rfl, hm⟩)))
  all_goals go_ret2
  all_goals exact ⟨rfl, hm⟩

/-- What may hang, its size and height as numbers that do not go round. -/
structure Hung (l : List It) (t s h : Int) : Prop where
  ok : HungOk l t
  size : sizeL l t = s
  high : highL l t = h
  s0 : -9223372036854775808 ≤ s
  s1 : s ≤ 9223372036854775807
  h0 : -9223372036854775808 ≤ h
  h1 : h ≤ 9223372036854775807

section
variable {l : List It} {lt rt sl hl sr hr : Int} {w : World} {p : Nat} {F : Nat → Prop} {room st : Int}

theorem nmake_any (k v n er : Int) (R : World → Prop) (hA : Arena w p F room st l) (h1 : Hung l lt sl hl) (h2 : Hung l rt sr hr)
    (cm : ∀ W g, Below w.heap.size w W → g = W.heap.size → Calls Try.prog 33 #[.pointer (some ⟨p, 0, none⟩), .int .i64 1, .slice (some ⟨g, 0, none⟩) 6 6]
      (W.alloc (.cells #[.int .i64 k, .int .i64 v, .int .i64 lt, .int .i64 rt, .int .i64 (oneM sl sr), .int .i64 (oneM (max hl hr) 0)] 3)) fun e w' => e = .returned (.tuple #[.int .i64 n, .int .i64 er]) ∧ R w') :
    Calls Try.prog 23 #[.pointer (some ⟨p, 0, none⟩), .agg #[.int .i64 k, .int .i64 v], .int .i64 lt, .int .i64 rt] w fun e w' => e = .returned (.tuple #[.int .i64 n, .int .i64 er]) ∧ R w' := by
  have a1 := h1.h0; have a2 := h1.h1; have a3 := h2.h0; have a4 := h2.h1
  refine nmake_core k v lt rt sl sr hl hr (oneM sl sr) (oneM (max hl hr) 0) n er R w p
    (fun W hb => by have := hung_ok lt W p F room st l (hA.below hb) h1.ok; rw [h1.size, h1.high] at this; exact this)
    (fun W hb => by have := hung_ok rt W p F room st l (hA.below hb) h2.ok; rw [h2.size, h2.high] at this; exact this)
    (fun W => oneMore_any sl sr W h1.s0 h1.s1 h2.s0 h2.s1)
    (fun e W => by rw [Int.max_eq_left e]; exact oneMore_any hl 0 W a1 a2 (by omega) (by omega))
    (fun e W => by rw [Int.max_eq_right (by omega)]; exact oneMore_any hr 0 W a3 a4 (by omega) (by omega)) cm

theorem nmake_ok (k v : Int) (hA : Arena w p F room st l) (h1 : Hung l lt sl hl) (h2 : Hung l rt sr hr) (hroom : (l.length : Int) < room) :
    Calls Try.prog 23 #[.pointer (some ⟨p, 0, none⟩), .agg #[.int .i64 k, .int .i64 v], .int .i64 lt, .int .i64 rt] w (Made w p F room st l (1, [k, v, lt, rt, oneM sl sr, oneM (max hl hr) 0])) :=
  nmake_any k v _ 0 (fun w' => Arena w' p (Plus F w w') room st (l ++ [(1, [k, v, lt, rt, oneM sl sr, oneM (max hl hr) 0])]) ∧ Only F w w') hA h1 h2
    (fun W g b hg => make_six b k v lt rt _ _ g p F room st l hA hroom hg)

theorem nmake_full (k v : Int) (hA : Arena w p F room st l) (h1 : Hung l lt sl hl) (h2 : Hung l rt sr hr) (hroom : room = l.length) :
    Calls Try.prog 23 #[.pointer (some ⟨p, 0, none⟩), .agg #[.int .i64 k, .int .i64 v], .int .i64 lt, .int .i64 rt] w fun e w' => e = .returned (.tuple #[.int .i64 0, .int .i64 2]) ∧ Below w.heap.size w w' :=
  nmake_any k v 0 2 (fun w' => Below w.heap.size w w') hA h1 h2 (fun W g b hg => by
    subst hg
    exact (make_full 1 _ 6 6 _ p _ room st l ((hA.below b).fresh _) (by omega) (by omega) hroom).mono fun e w' m => ⟨m.1, below_past b m.2⟩)
end

set_option maxHeartbeats 3200000 in
theorem nmake_badl (k v lt rt : Int) (bp : Option Addr) (b1 b2 : Bool) (w : World) (hne : (bp == none || !b1 || !b2) = true)
    (cl : ∀ W, Below w.heap.size w W → Calls Try.prog 31 #[.pointer bp, .int .i64 lt] W fun e w' =>
      (∃ v0 v1 v2 v3 v4 v5 : Int, e = .returned (.tuple #[.agg #[.int .i64 v0, .int .i64 v1, .int .i64 v2, .int .i64 v3, .int .i64 v4, .int .i64 v5], .bool b1])) ∧ Below W.heap.size W w')
    (cr : ∀ W, Below w.heap.size w W → Calls Try.prog 31 #[.pointer bp, .int .i64 rt] W fun e w' =>
      (∃ v0 v1 v2 v3 v4 v5 : Int, e = .returned (.tuple #[.agg #[.int .i64 v0, .int .i64 v1, .int .i64 v2, .int .i64 v3, .int .i64 v4, .int .i64 v5], .bool b2])) ∧ Below W.heap.size W w') :
    Calls Try.prog 23 #[.pointer bp, .agg #[.int .i64 k, .int .i64 v], .int .i64 lt, .int .i64 rt] w fun e w' => e = .returned (.tuple #[.int .i64 0, .int .i64 1]) ∧ Below w.heap.size w w' := by
  have ba : ∀ o, Below w.heap.size w (w.alloc o) := fun o => (Below.refl _ _).alloc (Nat.le_refl _) _
  cases bp with
  | none =>
    clear hne
    go_enter Try.func23, Try.ntmps23
    go_wp2_with (first
      | (go_at_call_of 31 (Value.int .i64 lt); ((with_reducible refine (cl _ (ba _)).mono ?_); rintro e w1 ⟨⟨v0, v1, v2, v3, v4, v5, rfl⟩, hb⟩; have b1 := below_past (Below.refl _ _) hb; clear cl hb))
      | (go_at_call_of 31 (Value.int .i64 rt); ((with_reducible refine (cr _ (b1.alloc b1.size _)).mono ?_); rintro e w2 ⟨⟨u0, u1, u2, u3, u4, u5, rfl⟩, hb⟩; have b2 := below_past b1 hb; clear cr hb b1)))
    all_goals go_ret2
    all_goals exact ⟨rfl, b2.alloc b2.size _⟩
  | some a =>
    cases b1 with
    | false =>
      clear hne
      go_enter Try.func23, Try.ntmps23
      go_wp2_with (first
        | (go_at_call_of 31 (Value.int .i64 lt); ((with_reducible refine (cl _ (ba _)).mono ?_); rintro e w1 ⟨⟨v0, v1, v2, v3, v4, v5, rfl⟩, hb⟩; have b1 := below_past (Below.refl _ _) hb; clear cl hb))
        | (go_at_call_of 31 (Value.int .i64 rt); ((with_reducible refine (cr _ (b1.alloc b1.size _)).mono ?_); rintro e w2 ⟨⟨u0, u1, u2, u3, u4, u5, rfl⟩, hb⟩; have b2 := below_past b1 hb; clear cr hb b1)))
      all_goals go_ret2
      all_goals exact ⟨rfl, b2.alloc b2.size _⟩
    | true =>
      obtain rfl : b2 = false := by cases b2 <;> simp_all
      clear hne
      go_enter Try.func23, Try.ntmps23
      go_wp2_with (first
        | (go_at_call_of 31 (Value.int .i64 lt); ((with_reducible refine (cl _ (ba _)).mono ?_); rintro e w1 ⟨⟨v0, v1, v2, v3, v4, v5, rfl⟩, hb⟩; have b1 := below_past (Below.refl _ _) hb; clear cl hb))
        | (go_at_call_of 31 (Value.int .i64 rt); ((with_reducible refine (cr _ (b1.alloc b1.size _)).mono ?_); rintro e w2 ⟨⟨u0, u1, u2, u3, u4, u5, rfl⟩, hb⟩; have b2 := below_past b1 hb; clear cr hb b1)))
      all_goals go_ret2
      all_goals exact ⟨rfl, b2.alloc b2.size _⟩

theorem hung_some (t : Int) (w : World) (p : Nat) (F : Nat → Prop) (room st : Int) (l : List It) (h : Arena w p F room st l) (b : Bool) (hb : b = true ↔ HungOk l t) :
    Calls Try.prog 31 #[.pointer (some ⟨p, 0, none⟩), .int .i64 t] w fun e w' =>
      (∃ v0 v1 v2 v3 v4 v5 : Int, e = .returned (.tuple #[.agg #[.int .i64 v0, .int .i64 v1, .int .i64 v2, .int .i64 v3, .int .i64 v4, .int .i64 v5], .bool b])) ∧ Below w.heap.size w w' := by
  cases b with
  | true => exact (hung_ok t w p F room st l h (hb.1 rfl)).mono fun e w' ⟨⟨a, b, c, d, he⟩, hb⟩ => ⟨⟨a, b, c, d, _, _, he⟩, hb⟩
  | false => exact hung_no t w p F room st l h (fun hk => by have := hb.2 hk; cases this)

theorem nmake_bad (k v lt rt : Int) (w : World) (p : Nat) (F : Nat → Prop) (room st : Int) (l : List It) (h : Arena w p F room st l) (hbad : ¬ (HungOk l lt ∧ HungOk l rt)) :
    Calls Try.prog 23 #[.pointer (some ⟨p, 0, none⟩), .agg #[.int .i64 k, .int .i64 v], .int .i64 lt, .int .i64 rt] w fun e w' => e = .returned (.tuple #[.int .i64 0, .int .i64 1]) ∧ Below w.heap.size w w' := by
  obtain ⟨b1, e1⟩ : ∃ b : Bool, b = true ↔ HungOk l lt := by
    by_cases hh : HungOk l lt
    · exact ⟨true, by simp [hh]⟩
    · exact ⟨false, by simp [hh]⟩
  obtain ⟨b2, e2⟩ : ∃ b : Bool, b = true ↔ HungOk l rt := by
    by_cases hh : HungOk l rt
    · exact ⟨true, by simp [hh]⟩
    · exact ⟨false, by simp [hh]⟩
  refine nmake_badl k v lt rt _ b1 b2 w ?_ (fun W hb => hung_some lt W p F room st l (h.below hb) b1 e1) (fun W hb => hung_some rt W p F room st l (h.below hb) b2 e2)
  cases b1 <;> cases b2 <;> simp
  exact hbad ⟨e1.1 rfl, e2.1 rfl⟩

theorem nmake_nil (k v lt rt : Int) (w : World) :
    Calls Try.prog 23 #[.pointer none, .agg #[.int .i64 k, .int .i64 v], .int .i64 lt, .int .i64 rt] w fun e w' => e = .returned (.tuple #[.int .i64 0, .int .i64 1]) ∧ Below w.heap.size w w' :=
  have c : ∀ (t : Int) (W : World), Calls Try.prog 31 #[.pointer none, .int .i64 t] W fun e w' =>
      (∃ v0 v1 v2 v3 v4 v5 : Int, e = .returned (.tuple #[.agg #[.int .i64 v0, .int .i64 v1, .int .i64 v2, .int .i64 v3, .int .i64 v4, .int .i64 v5], .bool (t == 0)])) ∧ Below W.heap.size W w' := fun t W => by
    by_cases ht : t = 0
    · subst ht
      exact (hung_zero _ W).mono fun e w' hh => ⟨⟨0, 0, 0, 0, 0, 0, hh.1⟩, hh.2⟩
    · rw [show (t == 0) = false by simp [ht]]
      exact (hung_core _ t _ _ _ _ _ _ false W ht (fun W hb => get_nil t W)).mono fun e w' hh => ⟨⟨_, _, _, _, _, _, hh.1⟩, hh.2⟩
  nmake_badl k v lt rt none _ _ w (by simp) (fun W _ => c lt W) (fun W _ => c rt W)

end Go.Proofs.Ytmbeaefgakfbnaa
