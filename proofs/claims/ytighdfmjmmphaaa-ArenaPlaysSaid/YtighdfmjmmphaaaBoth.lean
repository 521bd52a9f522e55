/- An arena and the plain row, side by side, since the world w0; a call of the one leaves the other, and whatever is set aside, as it was. -/
import Derived.Test.YtighdfmjmmphaaaRc3
namespace Go.Proofs.Ytighdfmjmmphaaa
open Go.RowKit
set_option linter.unusedVariables false

structure Both (w0 w : World) (p q : Nat) (X : Nat → Prop) (room st : Int) (l : List It) (st2 : Int) (l2 : List It) : Prop where
  ex : ∃ F G, Arena w p F room st l ∧ Ref w q G room st2 l2 ∧ (∀ k, F k → ¬ G k) ∧ (∀ k, F k → w0.heap.size ≤ k ∧ ¬ X k) ∧ (∀ k, G k → w0.heap.size ≤ k ∧ ¬ X k)
  b : Below w0.heap.size w0 w
  x : ∀ k, X k → k < w.heap.size

section
variable {w0 w w' : World} {p q : Nat} {X : Nat → Prop} {room st st2 : Int} {l l2 : List It}

theorem Both.below (h : Both w0 w p q X room st l st2 l2) (hb : Below w.heap.size w w') : Both w0 w' p q X room st l st2 l2 := by
  obtain ⟨⟨F, G, a, r, h1, h2, h3⟩, b, x⟩ := h
  exact ⟨⟨F, G, a.below hb, r.below hb, h1, h2, h3⟩, b.trans (hb.mono b.size), fun k hk => Nat.lt_of_lt_of_le (x k hk) hb.size⟩

/-- A new block is set aside. -/
theorem Both.box (h : Both w0 w p q X room st l st2 l2) (o : Obj) : Both w0 (w.alloc o) p q (fun k => k = w.heap.size) room st l st2 l2 := by
  obtain ⟨⟨F, G, a, r, h1, h2, h3⟩, b, x⟩ := h
  have hb : Below w.heap.size w (w.alloc o) := (Below.refl _ _).alloc (Nat.le_refl _) _
  refine ⟨⟨fun k => F k ∧ k < w.heap.size, fun k => G k ∧ k < w.heap.size, (a.mono (fun k hk hl => ⟨hk, hl⟩)).below hb, (r.mono (fun k hk hl => ⟨hk, hl⟩)).below hb, fun k hf hg => h1 k hf.1 hg.1,
    fun k hk => ⟨(h2 k hk.1).1, by have := hk.2; omega⟩, fun k hk => ⟨(h3 k hk.1).1, by have := hk.2; omega⟩⟩, b.trans (hb.mono b.size), fun k hk => by subst hk; simp⟩

/-- What a call leaves of what is set aside. -/
def Kept (X : Nat → Prop) (w w' : World) : Prop := ∀ k, X k → w'.heap[k]? = w.heap[k]?
theorem Kept.cell {k o : Nat} (h : Kept X w w') (hk : X k) : w'.cell? ⟨k, o, none⟩ = w.cell? ⟨k, o, none⟩ := World.cell?_of_block (a := ⟨k, o, none⟩) (h k hk)

theorem both_a {f : FuncId} {args : Array Value} {v : Value} {st' : Int} {l' : List It} (h : Both w0 w p q X room st l st2 l2)
    (c : ∀ F, Arena w p F room st l → (∀ k, F k → w0.heap.size ≤ k) → Calls Try.prog f args w fun e w' => e = .returned v ∧ Arena w' p (Plus F w w') room st' l' ∧ Only F w w') :
    Calls Try.prog f args w fun e w' => e = .returned v ∧ Both w0 w' p q X room st' l' st2 l2 ∧ Kept X w w' := by
  obtain ⟨⟨F, G, a, r, h1, h2, h3⟩, b, x⟩ := h
  refine (c F a (fun k hk => (h2 k hk).1)).mono fun e w' ⟨he, ha, ho⟩ => ⟨he, ⟨⟨Plus F w w', fun k => G k ∧ k < w.heap.size, ha, (r.mono (fun k hk hl => ⟨hk, hl⟩)).only ho (fun k hg _ hf => h1 k hf hg.1), ?_, ?_, fun k hk => h3 k hk.1⟩, b.trans (ho.below (fun i hi => (h2 i hi).1) b.size), fun k hk => Nat.lt_of_lt_of_le (x k hk) ho.size⟩, fun k hk => ho.block k (x k hk) (fun hf => (h2 k hf).2 hk)⟩
  · rintro k (hf | hf) hg
    · exact h1 k hf hg.1
    · have := hg.2; omega
  · rintro k (hf | hf)
    · exact h2 k hf
    · exact ⟨Nat.le_trans b.size hf.1, fun hx => by have := x k hx; omega⟩

theorem both_r {f : FuncId} {args : Array Value} {v : Value} {st' : Int} {l' : List It} (h : Both w0 w p q X room st l st2 l2)
    (c : ∀ G, Ref w q G room st2 l2 → (∀ k, G k → w0.heap.size ≤ k) → Calls Try.prog f args w fun e w' => e = .returned v ∧ Ref w' q (Plus G w w') room st' l' ∧ Only G w w') :
    Calls Try.prog f args w fun e w' => e = .returned v ∧ Both w0 w' p q X room st l st' l' ∧ Kept X w w' := by
  obtain ⟨⟨F, G, a, r, h1, h2, h3⟩, b, x⟩ := h
  refine (c G r (fun k hk => (h3 k hk).1)).mono fun e w' ⟨he, hr, ho⟩ => ⟨he, ⟨⟨fun k => F k ∧ k < w.heap.size, Plus G w w', (a.mono (fun k hk hl => ⟨hk, hl⟩)).only ho (fun k hf _ hg => h1 k hf.1 hg), hr, ?_, fun k hk => h2 k hk.1, ?_⟩, b.trans (ho.below (fun i hi => (h3 i hi).1) b.size), fun k hk => Nat.lt_of_lt_of_le (x k hk) ho.size⟩, fun k hk => ho.block k (x k hk) (fun hg => (h3 k hg).2 hk)⟩
  · rintro k hf (hg | hg)
    · exact h1 k hf.1 hg
    · have := hf.2; omega
  · rintro k (hg | hg)
    · exact h3 k hg
    · exact ⟨Nat.le_trans b.size hg.1, fun hx => by have := x k hx; omega⟩

theorem both_b {f : FuncId} {args : Array Value} {v : Value} (h : Both w0 w p q X room st l st2 l2) (c : Calls Try.prog f args w fun e w' => e = .returned v ∧ Below w.heap.size w w') :
    Calls Try.prog f args w fun e w' => e = .returned v ∧ Both w0 w' p q X room st l st2 l2 ∧ Kept X w w' :=
  c.mono fun e w' ⟨he, hb⟩ => ⟨he, h.below hb, fun k hk => hb.block k (h.x k hk)⟩

theorem Plus.of {F : Nat → Prop} {k : Nat} (h : F k) : Plus F w w' k := .inl h
theorem moved_plus {F : Nat → Prop} {st' : Int} {l' : List It} (h : Moved w p F room st' l' w') : Arena w' p (Plus F w w') room st' l' ∧ Only F w w' := ⟨h.1.mono (fun k hk _ => .inl hk), h.2⟩
theorem movedR_plus {G : Nat → Prop} {st' : Int} {l' : List It} (h : MovedR w q G room st' l' w') : Ref w' q (Plus G w w') room st' l' ∧ Only G w w' := ⟨h.1.mono (fun k hk _ => .inl hk), h.2⟩

theorem Both.fits (h : Both w0 w p q X room st l st2 l2) : (l.length : Int) ≤ room ∧ room ≤ 60000 := by
  obtain ⟨⟨F, G, a, r, _⟩, _⟩ := h
  exact a.ok.2

/-! the arena's calls -/
theorem ba_load (h : Both w0 w p q X room st l st2 l2) (id : Int) : Calls Try.prog 17 #[.pointer (some ⟨p, 0, none⟩), .int .i64 id] w fun e w' =>
    e = .returned (.int .i64 ((cellL l id).getD 0)) ∧ Both w0 w' p q X room (stepped (cellL l id) st) l st2 l2 ∧ Kept X w w' :=
  both_a h fun F a _ => (load_any id w p F room st l a).mono fun e w' ⟨he, hm⟩ => ⟨he, moved_plus hm⟩
theorem ba_swap (h : Both w0 w p q X room st l st2 l2) (id old now : Int) : Calls Try.prog 19 #[.pointer (some ⟨p, 0, none⟩), .int .i64 id, .int .i64 old, .int .i64 now] w fun e w' =>
    e = .returned (.bool (decide (cellL l id = some old))) ∧ Both w0 w' p q X room (stepped (cellL l id) st) (swapL l id old now) st2 l2 ∧ Kept X w w' :=
  both_a h fun F a _ => (swap_any id old now w p F room st l a).mono fun e w' ⟨he, hm⟩ => ⟨he, moved_plus hm⟩
theorem ba_once (h : Both w0 w p q X room st l st2 l2) (id v : Int) : Calls Try.prog 21 #[.pointer (some ⟨p, 0, none⟩), .int .i64 id, .int .i64 v] w fun e w' =>
    e = .returned (.bool (decide (cellL l id = some 0 ∧ v ≠ 0))) ∧ Both w0 w' p q X room (stepped (cellL l id) st) (onceL l id v) st2 l2 ∧ Kept X w w' :=
  both_a h fun F a _ => (once_any id v w p F room st l a).mono fun e w' ⟨he, hm⟩ => ⟨he, moved_plus hm⟩
theorem ba_kind (h : Both w0 w p q X room st l st2 l2) (id : Int) : Calls Try.prog 25 #[.pointer (some ⟨p, 0, none⟩), .int .i64 id] w fun e w' =>
    e = .returned (.int .i64 (kindL l id)) ∧ Both w0 w' p q X room st l st2 l2 ∧ Kept X w w' := by
  have hh := h
  obtain ⟨⟨F, G, a, r, _⟩, _, _⟩ := hh
  exact both_b h (kind_any id w p F room st l a)
theorem ba_val (h : Both w0 w p q X room st l st2 l2) (id i : Int) : Calls Try.prog 23 #[.pointer (some ⟨p, 0, none⟩), .int .i64 id, .int .i64 i] w fun e w' =>
    e = .returned (.int .i64 (valL l id i)) ∧ Both w0 w' p q X room st l st2 l2 ∧ Kept X w w' := by
  have hh := h
  obtain ⟨⟨F, G, a, r, _⟩, _, _⟩ := hh
  exact both_b h (val_any id i w p F room st l a)
theorem ba_make_full (h : Both w0 w p q X room st l st2 l2) (k : Int) (ao : Option Addr) (n c : Nat) (hk : 1 ≤ k) (hn : n ≤ 12) (hf : room = l.length) : Calls Try.prog 13 #[.pointer (some ⟨p, 0, none⟩), .int .i64 k, .slice ao n c] w fun e w' =>
    e = .returned (.tuple #[.int .i64 0, .int .i64 2]) ∧ Both w0 w' p q X room st l st2 l2 ∧ Kept X w w' := by
  have hh := h
  obtain ⟨⟨F, G, a, r, _⟩, _, _⟩ := hh
  exact both_b h (make_full k ao n c w p F room st l a hk hn hf)
theorem ba_make_ok (h : Both w0 w p q X room st l st2 l2) (k : Int) (vs : List Int) (ao : Option Addr) (c : Nat) (hv : Vals w0 ao c vs) (hk : 1 ≤ k) (hn : vs.length ≤ 12) (hr : (l.length : Int) < room) : Calls Try.prog 13 #[.pointer (some ⟨p, 0, none⟩), .int .i64 k, .slice ao vs.length c] w fun e w' =>
    e = .returned (.tuple #[.int .i64 ((l.length + 1 : Nat) : Int), .int .i64 0]) ∧ Both w0 w' p q X room st (l ++ [(k, vs)]) st2 l2 ∧ Kept X w w' :=
  both_a h fun F a hF => (make_ok k vs _ w p F room st l a hk hn hr (hv.ints h.b (fun b hb hf => by have := hF b hf; omega))).mono fun e w' hm => hm
theorem ba_cell_full (h : Both w0 w p q X room st l st2 l2) (v : Int) (hf : room = l.length) : Calls Try.prog 15 #[.pointer (some ⟨p, 0, none⟩), .int .i64 v] w fun e w' =>
    e = .returned (.tuple #[.int .i64 0, .int .i64 2]) ∧ Both w0 w' p q X room st l st2 l2 ∧ Kept X w w' := by
  have hh := h
  obtain ⟨⟨F, G, a, r, _⟩, _, _⟩ := hh
  exact both_b h (cell_full v w p F room st l a hf)
theorem ba_cell_ok (h : Both w0 w p q X room st l st2 l2) (v : Int) (hr : (l.length : Int) < room) : Calls Try.prog 15 #[.pointer (some ⟨p, 0, none⟩), .int .i64 v] w fun e w' =>
    e = .returned (.tuple #[.int .i64 ((l.length + 1 : Nat) : Int), .int .i64 0]) ∧ Both w0 w' p q X room st (l ++ [(0, [v])]) st2 l2 ∧ Kept X w w' :=
  both_a h fun F a _ => (cell_ok v w p F room st l a hr).mono fun e w' hm => hm

/-! the plain row's calls -/
theorem br_load (h : Both w0 w p q X room st l st2 l2) (id : Int) : Calls Try.prog 18 #[.pointer (some ⟨q, 0, none⟩), .int .i64 id] w fun e w' =>
    e = .returned (.int .i64 ((cellL l2 id).getD 0)) ∧ Both w0 w' p q X room st l (stepped (cellL l2 id) st2) l2 ∧ Kept X w w' :=
  both_r h fun G r _ => (rload_any id w q G room st2 l2 r).mono fun e w' ⟨he, hm⟩ => ⟨he, movedR_plus hm⟩
theorem br_swap (h : Both w0 w p q X room st l st2 l2) (id old now : Int) : Calls Try.prog 20 #[.pointer (some ⟨q, 0, none⟩), .int .i64 id, .int .i64 old, .int .i64 now] w fun e w' =>
    e = .returned (.bool (decide (cellL l2 id = some old))) ∧ Both w0 w' p q X room st l (stepped (cellL l2 id) st2) (swapL l2 id old now) ∧ Kept X w w' :=
  both_r h fun G r _ => (rswap_any id old now w q G room st2 l2 r).mono fun e w' ⟨he, hm⟩ => ⟨he, movedR_plus hm⟩
theorem br_once (h : Both w0 w p q X room st l st2 l2) (id v : Int) : Calls Try.prog 22 #[.pointer (some ⟨q, 0, none⟩), .int .i64 id, .int .i64 v] w fun e w' =>
    e = .returned (.bool (decide (cellL l2 id = some 0 ∧ v ≠ 0))) ∧ Both w0 w' p q X room st l (stepped (cellL l2 id) st2) (onceL l2 id v) ∧ Kept X w w' :=
  both_r h fun G r _ => (ronce_any id v w q G room st2 l2 r).mono fun e w' ⟨he, hm⟩ => ⟨he, movedR_plus hm⟩
theorem br_kind (h : Both w0 w p q X room st l st2 l2) (id : Int) : Calls Try.prog 26 #[.pointer (some ⟨q, 0, none⟩), .int .i64 id] w fun e w' =>
    e = .returned (.int .i64 (kindL l2 id)) ∧ Both w0 w' p q X room st l st2 l2 ∧ Kept X w w' := by
  have hh := h
  obtain ⟨⟨F, G, a, r, _⟩, _, _⟩ := hh
  exact both_b h (rkind_any id w q G room st2 l2 r)
theorem br_val (h : Both w0 w p q X room st l st2 l2) (id i : Int) : Calls Try.prog 24 #[.pointer (some ⟨q, 0, none⟩), .int .i64 id, .int .i64 i] w fun e w' =>
    e = .returned (.int .i64 (valL l2 id i)) ∧ Both w0 w' p q X room st l st2 l2 ∧ Kept X w w' := by
  have hh := h
  obtain ⟨⟨F, G, a, r, _⟩, _, _⟩ := hh
  exact both_b h (rval_any id i w q G room st2 l2 r)
theorem br_make_full (h : Both w0 w p q X room st l st2 l2) (k : Int) (ao : Option Addr) (n c : Nat) (hk : 1 ≤ k) (hn : n ≤ 12) (hf : room = l2.length) : Calls Try.prog 14 #[.pointer (some ⟨q, 0, none⟩), .int .i64 k, .slice ao n c] w fun e w' =>
    e = .returned (.tuple #[.int .i64 0, .int .i64 2]) ∧ Both w0 w' p q X room st l st2 l2 ∧ Kept X w w' := by
  have hh := h
  obtain ⟨⟨F, G, a, r, _⟩, _, _⟩ := hh
  exact both_b h (rmake_full k ao n c w q G room st2 l2 r hk hn hf)
theorem br_cell_full (h : Both w0 w p q X room st l st2 l2) (v : Int) (hf : room = l2.length) : Calls Try.prog 16 #[.pointer (some ⟨q, 0, none⟩), .int .i64 v] w fun e w' =>
    e = .returned (.tuple #[.int .i64 0, .int .i64 2]) ∧ Both w0 w' p q X room st l st2 l2 ∧ Kept X w w' := by
  have hh := h
  obtain ⟨⟨F, G, a, r, _⟩, _, _⟩ := hh
  exact both_b h (rcell_full v w q G room st2 l2 r hf)
theorem br_cell_ok (h : Both w0 w p q X room st l st2 l2) (v : Int) (hr : (l2.length : Int) < room) : Calls Try.prog 16 #[.pointer (some ⟨q, 0, none⟩), .int .i64 v] w fun e w' =>
    e = .returned (.tuple #[.int .i64 ((l2.length + 1 : Nat) : Int), .int .i64 0]) ∧ Both w0 w' p q X room st l st2 (l2 ++ [(0, [v])]) ∧ Kept X w w' :=
  both_r h fun G r _ => (rcell_ok v w q G room st2 l2 r hr).mono fun e w' hm => hm
end

/-- Both made, of one room. -/
theorem both_new {w0 w : World} (room r : Int) (h : Below w0.heap.size w0 w) (hr : min (max room 0) 60000 = r) :
    Both w0 ((w.alloc (.cells #[.int .i64 r, .int .i64 0, .slice none 0 0, .slice none 0 0] 52)).alloc (.cells #[.int .i64 r, .slice none 0 0, .int .i64 0] 44)) w.heap.size (w.heap.size + 1) (fun _ => False) r 0 [] 0 [] := by
  subst hr
  have a := new_arena (min (max room 0) 60000) w (by omega) (by omega)
  have e : (w.alloc (.cells #[.int .i64 (min (max room 0) 60000), .int .i64 0, .slice none 0 0, .slice none 0 0] 52)).heap.size = w.heap.size + 1 := by simp
  have r := rnew_ref (min (max room 0) 60000) (w.alloc (.cells #[.int .i64 (min (max room 0) 60000), .int .i64 0, .slice none 0 0, .slice none 0 0] 52)) (by omega) (by omega)
  rw [e] at r
  exact ⟨⟨_, _, a.below ((Below.refl _ _).alloc (Nat.le_refl _) _), r, fun k hf hg => by omega, fun k hk => ⟨by have := h.size; omega, id⟩, fun k hk => ⟨by have := h.size; omega, id⟩⟩, (h.alloc h.size _).alloc (by have := h.size; simp; omega) _, fun k hk => hk.elim⟩
end Go.Proofs.Ytighdfmjmmphaaa
