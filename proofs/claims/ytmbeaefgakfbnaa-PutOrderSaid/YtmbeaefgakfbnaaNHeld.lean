/- Nodes in an arena that a law holds since w0: one-line contracts. -/
import Derived.Test.YtmbeaefgakfbnaaNd3
import Derived.Test.YtmbeaefgakfbnaaHeld
namespace Go.Proofs.Ytmbeaefgakfbnaa
open Go.RowKit
set_option linter.all false

section
variable {w0 w : World} {p : Nat} {room st : Int} {l : List It}

theorem Held.alloc_below {w' : World} (h : Held w0 w p room st l) {o : Obj} (hb : Below (w.alloc o).heap.size (w.alloc o) w') : Held w0 w' p room st l := (h.alloc o).below hb

theorem get_held (h : Held w0 w p room st l) (id : Int) (n0 n1 n2 n3 n4 n5 : Int) (hk : kindL l id = 1)
    (e0 : valL l id 0 = n0) (e1 : valL l id 1 = n1) (e2 : valL l id 2 = n2) (e3 : valL l id 3 = n3) (e4 : valL l id 4 = n4) (e5 : valL l id 5 = n5) :
    Calls Try.prog 26 #[.pointer (some ⟨p, 0, none⟩), .int .i64 id] w fun e w' => e = .returned (.tuple #[.agg #[.int .i64 n0, .int .i64 n1, .int .i64 n2, .int .i64 n3, .int .i64 n4, .int .i64 n5], .bool true]) ∧ Held w0 w' p room st l := by
  subst e0; subst e1; subst e2; subst e3; subst e4; subst e5
  exact (get_yes id w p _ room st l h.a hk).mono fun e w' ⟨he, hb⟩ => ⟨he, h.below hb⟩
theorem get_held_no (h : Held w0 w p room st l) (id : Int) (hk : kindL l id ≠ 1) :
    Calls Try.prog 26 #[.pointer (some ⟨p, 0, none⟩), .int .i64 id] w fun e w' => e = .returned (.tuple #[.agg #[.int .i64 0, .int .i64 0, .int .i64 0, .int .i64 0, .int .i64 0, .int .i64 0], .bool false]) ∧ Held w0 w' p room st l :=
  (get_no id w p _ room st l h.a hk).mono fun e w' ⟨he, hb⟩ => ⟨he, h.below hb⟩

theorem Hung.zero (l : List It) : Hung l 0 0 0 := ⟨.inl rfl, rfl, rfl, by omega, by omega, by omega, by omega⟩

theorem oneM_high {a : Int} (h0 : 0 ≤ a) (h : a ≤ 4611686018427387904) : oneM a 0 = a + 1 := by rw [oneM_small h0 h (by omega)]; omega

/-- Make where sizes and heights are small. -/
theorem nmake_held (h : Held w0 w p room st l) (k v lt rt sl hl sr hr n s hh : Int) (l' : List It) (h1 : Hung l lt sl hl) (h2 : Hung l rt sr hr) (hroom : (l.length : Int) < room)
    (b1 : 0 ≤ sl ∧ sl ≤ 4611686018427387900) (b2 : 0 ≤ sr ∧ sr ≤ 4611686018427387900) (b3 : 0 ≤ hl ∧ hl ≤ 4611686018427387900) (b4 : 0 ≤ hr ∧ hr ≤ 4611686018427387900)
    (hn : n = l.length + 1) (hs : s = sl + sr + 1) (hhh : hh = max hl hr + 1) (hl' : l' = l ++ [(1, [k, v, lt, rt, s, hh])]) :
    Calls Try.prog 23 #[.pointer (some ⟨p, 0, none⟩), .agg #[.int .i64 k, .int .i64 v], .int .i64 lt, .int .i64 rt] w fun e w' => e = .returned (.tuple #[.int .i64 n, .int .i64 0]) ∧ Held w0 w' p room st l' := by
  have es : oneM sl sr = s := by rw [oneM_small b1.1 (by omega) (by omega)]; omega
  have eh : oneM (max hl hr) 0 = hh := by rw [oneM_high (by omega) (by omega)]; omega
  subst hn; subst hl'
  refine (nmake_ok k v h.a h1 h2 hroom).mono fun e w' ⟨he, ha, ho⟩ => ?_
  rw [es, eh] at ha
  exact ⟨by rw [he]; simp, h.only ha ho (fun _ hk => hk)⟩
theorem nmake_held_full (h : Held w0 w p room st l) (k v lt rt sl hl sr hr : Int) (h1 : Hung l lt sl hl) (h2 : Hung l rt sr hr) (hroom : room = l.length) :
    Calls Try.prog 23 #[.pointer (some ⟨p, 0, none⟩), .agg #[.int .i64 k, .int .i64 v], .int .i64 lt, .int .i64 rt] w fun e w' => e = .returned (.tuple #[.int .i64 0, .int .i64 2]) ∧ Held w0 w' p room st l :=
  (nmake_full k v h.a h1 h2 hroom).mono fun e w' ⟨he, hb⟩ => ⟨he, h.below hb⟩
theorem nmake_held_bad (h : Held w0 w p room st l) (k v lt rt : Int) (hbad : ¬ (HungOk l lt ∧ HungOk l rt)) :
    Calls Try.prog 23 #[.pointer (some ⟨p, 0, none⟩), .agg #[.int .i64 k, .int .i64 v], .int .i64 lt, .int .i64 rt] w fun e w' => e = .returned (.tuple #[.int .i64 0, .int .i64 1]) ∧ Held w0 w' p room st l :=
  (nmake_bad k v lt rt w p _ room st l h.a hbad).mono fun e w' ⟨he, hb⟩ => ⟨he, h.below hb⟩
end

end Go.Proofs.Ytmbeaefgakfbnaa
