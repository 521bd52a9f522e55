/- Contracts of the arena's readings: at, Kind, Val, step. -/
import Derived.Test.YtmbeaefgakfbnaaAc1
import Derived.IntWalk
namespace Go.Proofs.Ytmbeaefgakfbnaa
open Go.RowKit
set_option linter.unusedVariables false

/-- What stands in item i's slot. -/
theorem ArenaIs.slot {w : World} {p : Nat} {sv vv : Value} {room st : Int} {l : List It} (h : ArenaIs w p sv vv room st l) (i : Nat) (x : It) (hx : l[i]? = some x) :
    ∃ g cap, sv = .slice (some ⟨g, 0, none⟩) l.length cap ∧ l.length ≤ cap ∧ cap ≤ maxLen ∧ g < w.heap.size ∧ w.cell? ⟨g, i * 3, none⟩ = some (.int .i64 x.1) ∧
      w.cell? ⟨g, i * 3 + 1, none⟩ = some (.int .i64 (fst l i : Nat)) ∧ w.cell? ⟨g, i * 3 + 2, none⟩ = some (.int .i64 (x.2.length : Nat)) := by
  have hi : i < l.length := (List.getElem?_eq_some_iff.1 hx).1
  obtain ⟨g, cap, rfl, hc, hm, _⟩ := row_at h.rs (by omega)
  have hs := rowS_get l 0 i x hx
  rw [Nat.zero_add] at hs
  refine ⟨g, cap, rfl, hc, hm, (h.rs.lt g rfl).2, ?_, ?_, ?_⟩
  · rw [h.rs.cellAt _ (by omega)]; exact hs.1
  · rw [h.rs.cellAt _ (by omega)]; exact hs.2.1
  · rw [h.rs.cellAt _ (by omega)]; exact hs.2.2

set_option maxHeartbeats 800000 in
theorem at_yes (i : Nat) (x : It) (w : World) (p : Nat) (F : Nat → Prop) (room st : Int) (l : List It) (h : Arena w p F room st l) (hx : l[i]? = some x) :
    Calls Try.prog 44 #[.pointer (some ⟨p, 0, none⟩), .int .i64 ((i : Int) + 1)] w fun e w' => e = .returned (.tuple #[.agg #[.int .i64 x.1, .int .i64 (fst l i : Nat), .int .i64 (x.2.length : Nat)], .bool true]) ∧ Below w.heap.size w w' := by
  have hi : i < l.length := (List.getElem?_eq_some_iff.1 hx).1
  obtain ⟨sv, vv, h, hf⟩ := h
  obtain ⟨g, cap, rfl, h1, h2, hg, s0, s1, s2⟩ := h.slot i x hx
  have c2 := h.c2
  have hp := h.lt p (.inl rfl)
  unfold maxLen at h2
  have hlo : (1 : Int) ≤ (i : Int) + 1 := by omega
  have hhi : (i : Int) + 1 ≤ (l.length : Int) := by omega
  have hi' : (i : Int) < (l.length : Int) := by omega
  clear h hf hx
  go_enter Try.func44, Try.ntmps44
  go_wp2
  exact bodyPost_ret (v := .tuple #[.agg #[.int .i64 x.1, .int .i64 (fst l i : Nat), .int .i64 (x.2.length : Nat)], .bool true]) (by simp [results, Try.results44, go_sem]) rfl ⟨rfl, (Below.refl _ _).alloc (Nat.le_refl _) _⟩

/-- The item of a number. -/
def itemAt (l : List It) (id : Int) : Option It := if id < 1 then none else l[(id - 1).toNat]?
def kindL (l : List It) (id : Int) : Int := ((itemAt l id).map (·.1)).getD 0
def valL (l : List It) (id i : Int) : Int := match itemAt l id with
  | none => 0
  | some x => if x.1 = 0 ∨ i < 0 ∨ (x.2.length : Int) ≤ i then 0 else x.2.getD i.toNat 0

theorem itemAt_none {l : List It} {id : Int} (h : itemAt l id = none) : id < 1 ∨ (l.length : Int) < id := by
  unfold itemAt at h
  split at h
  · exact .inl ‹_›
  · rw [List.getElem?_eq_none_iff] at h; omega
theorem itemAt_some {l : List It} {id : Int} {x : It} (h : itemAt l id = some x) : ∃ i : Nat, id = (i : Int) + 1 ∧ l[i]? = some x ∧ i < l.length := by
  unfold itemAt at h
  split at h
  · cases h
  · exact ⟨(id - 1).toNat, by omega, h, (List.getElem?_eq_some_iff.1 h).1⟩

set_option maxHeartbeats 800000 in
theorem kind_any (id : Int) (w : World) (p : Nat) (F : Nat → Prop) (room st : Int) (l : List It) (h : Arena w p F room st l) :
    Calls Try.prog 38 #[.pointer (some ⟨p, 0, none⟩), .int .i64 id] w fun e w' => e = .returned (.int .i64 (kindL l id)) ∧ Below w.heap.size w w' := by
  unfold kindL
  cases hx : itemAt l id with
  | none =>
    have c := at_no id w p F room st l h (itemAt_none hx)
    clear hx h
    go_enter Try.func38, Try.ntmps38
    go_wp2_with (go_at_call 44; ((with_reducible refine c.mono ?_); rintro e w' ⟨rfl, hb⟩))
    go_ret
    have hz := hb.size
    refine ⟨rfl, hb.trans ?_⟩
    repeat' (first | exact Below.refl _ _ | refine Below.setCell ?_ (by simp; omega) _ | refine Below.alloc ?_ (by (try simp); omega) _ | refine below_drewN ?_ _)
  | some x =>
    obtain ⟨i, rfl, hx', hi⟩ := itemAt_some hx
    have c := at_yes i x w p F room st l h hx'
    clear hx h hx' hi
    go_enter Try.func38, Try.ntmps38
    go_wp2_with (go_at_call 44; ((with_reducible refine c.mono ?_); rintro e w' ⟨rfl, hb⟩))
    go_ret
    have hz := hb.size
    refine ⟨rfl, hb.trans ?_⟩
    repeat' (first | exact Below.refl _ _ | refine Below.setCell ?_ (by simp; omega) _ | refine Below.alloc ?_ (by (try simp); omega) _ | refine below_drewN ?_ _)

theorem kind_nil (id : Int) (w : World) :
    Calls Try.prog 38 #[.pointer none, .int .i64 id] w fun e w' => e = .returned (.int .i64 0) ∧ Below w.heap.size w w' := by
  have c := at_nil id w
  go_enter Try.func38, Try.ntmps38
  go_wp2_with (go_at_call 44; ((with_reducible refine c.mono ?_); rintro e w' ⟨rfl, hb⟩))
  go_ret
  have hz := hb.size
  refine ⟨rfl, hb.trans ?_⟩
  repeat' (first | exact Below.refl _ _ | refine Below.setCell ?_ (by simp; omega) _ | refine Below.alloc ?_ (by (try simp); omega) _ | refine below_drewN ?_ _)

theorem val_nil (id i : Int) (w : World) :
    Calls Try.prog 39 #[.pointer none, .int .i64 id, .int .i64 i] w fun e w' => e = .returned (.int .i64 0) ∧ Below w.heap.size w w' := by
  have c := at_nil id w
  go_enter Try.func39, Try.ntmps39
  go_wp2_with (go_at_call 44; ((with_reducible refine c.mono ?_); rintro e w' ⟨rfl, hb⟩))
  go_ret
  have hz := hb.size
  refine ⟨rfl, hb.trans ?_⟩
  repeat' (first | exact Below.refl _ _ | refine Below.setCell ?_ (by simp; omega) _ | refine Below.alloc ?_ (by (try simp); omega) _ | refine below_drewN ?_ _)

/-- What stands at item i's value j. -/
theorem ArenaIs.value {w : World} {p : Nat} {sv vv : Value} {room st : Int} {l : List It} (h : ArenaIs w p sv vv room st l) (i : Nat) (x : It) (hx : l[i]? = some x) (j : Nat) (hj : j < x.2.length) :
    ∃ g cap, vv = .slice (some ⟨g, 0, none⟩) (flat l).length cap ∧ (flat l).length ≤ cap ∧ cap ≤ maxLen ∧ g < w.heap.size ∧ fst l i + j < (flat l).length ∧ w.cell? ⟨g, fst l i + j, none⟩ = some (.int .i64 (x.2.getD j 0)) ∧ ∀ j, w.frozen? ⟨g, j, none⟩ = false := by
  have hle := fst_le l i x hx
  obtain ⟨g, cap, rfl, hc, hm, hz⟩ := row_at h.rv (by omega)
  refine ⟨g, cap, rfl, hc, hm, (h.rv.lt g rfl).2, by omega, ?_, hz⟩
  rw [h.rv.cellAt _ (by omega)]; exact rowV_get l i x hx j hj

set_option maxHeartbeats 1600000 in
theorem val_any (id i : Int) (w : World) (p : Nat) (F : Nat → Prop) (room st : Int) (l : List It) (h : Arena w p F room st l) :
    Calls Try.prog 39 #[.pointer (some ⟨p, 0, none⟩), .int .i64 id, .int .i64 i] w fun e w' => e = .returned (.int .i64 (valL l id i)) ∧ Below w.heap.size w w' := by
  unfold valL
  cases hx : itemAt l id with
  | none =>
    have c := at_no id w p F room st l h (itemAt_none hx)
    clear hx h
    go_enter Try.func39, Try.ntmps39
    go_wp2_with (go_at_call 44; ((with_reducible refine c.mono ?_); rintro e w' ⟨rfl, hb⟩))
    go_ret
    have hz := hb.size
    refine ⟨rfl, hb.trans ?_⟩
    repeat' (first | exact Below.refl _ _ | refine Below.setCell ?_ (by simp; omega) _ | refine Below.alloc ?_ (by (try simp); omega) _ | refine below_drewN ?_ _)
  | some x =>
    obtain ⟨n, rfl, hx', hi⟩ := itemAt_some hx
    have c := at_yes n x w p F room st l h hx'
    have hl := h.lt
    clear hx
    obtain ⟨x1, x2⟩ := x
    dsimp only at c ⊢
    by_cases hk : x1 = 0
    · subst hk
      simp only [true_or, if_true]
      clear h hx' hi
      go_enter Try.func39, Try.ntmps39
      go_wp2_with (go_at_call 44; ((with_reducible refine c.mono ?_); rintro e w' ⟨rfl, hb⟩))
      go_ret
      have hz := hb.size
      refine ⟨rfl, hb.trans ?_⟩
      repeat' (first | exact Below.refl _ _ | refine Below.setCell ?_ (by simp; omega) _ | refine Below.alloc ?_ (by (try simp); omega) _ | refine below_drewN ?_ _)
    · have hk1 : (x1 == 0) = false := by simp [hk]
      by_cases hlo : i < 0
      · rw [if_pos (.inr (.inl hlo))]
        clear h hx' hi hk
        go_enter Try.func39, Try.ntmps39
        go_wp2_with (go_at_call 44; ((with_reducible refine c.mono ?_); rintro e w' ⟨rfl, hb⟩))
        go_ret
        have hz := hb.size
        refine ⟨rfl, hb.trans ?_⟩
        repeat' (first | exact Below.refl _ _ | refine Below.setCell ?_ (by simp; omega) _ | refine Below.alloc ?_ (by (try simp); omega) _ | refine below_drewN ?_ _)
      · by_cases hhi : (x2.length : Int) ≤ i
        · rw [if_pos (.inr (.inr hhi))]
          have hlo' : 0 ≤ i := by omega
          clear h hx' hi hk hlo
          go_enter Try.func39, Try.ntmps39
          go_wp2_with (go_at_call 44; ((with_reducible refine c.mono ?_); rintro e w' ⟨rfl, hb⟩))
          go_ret
          have hz := hb.size
          refine ⟨rfl, hb.trans ?_⟩
          repeat' (first | exact Below.refl _ _ | refine Below.setCell ?_ (by simp; omega) _ | refine Below.alloc ?_ (by (try simp); omega) _ | refine below_drewN ?_ _)
        · rw [if_neg (by rintro (h1 | h1 | h1) <;> omega)]
          obtain ⟨j, rfl⟩ : ∃ j : Nat, i = (j : Int) := ⟨i.toNat, by omega⟩
          have hj : j < x2.length := by omega
          obtain ⟨sv, vv, h, hf⟩ := h
          obtain ⟨g, cap, rfl, h1, h2, hg, hlt, hcv, _⟩ := h.value n (x1, x2) hx' j hj
          have c3 := h.c3
          have hf1 : ((fst l n : Nat) : Int) + (j : Int) < ((flat l).length : Int) := by omega
          have hf0 : 0 ≤ ((fst l n : Nat) : Int) + (j : Int) := by omega
          unfold maxLen at h2
          have hlo' : (0 : Int) ≤ (j : Int) := by omega
          have hhi' : (j : Int) < (x2.length : Int) := by omega
          have hwr : IntKind.i64.wrap (((fst l n : Nat) : Int) + (j : Int)) = ((fst l n + j : Nat) : Int) := by rw [IntWalk.i64_in _ (by omega)]; omega
          have htn : (((fst l n : Nat) : Int) + (j : Int)).toNat = fst l n + j := by omega
          simp only [Int.toNat_natCast]
          obtain ⟨u, hu⟩ : ∃ u, x2.getD j 0 = u := ⟨_, rfl⟩
          rw [hu] at hcv ⊢
          clear hu
          clear h hf hx' hi hk hlo hhi
          go_enter Try.func39, Try.ntmps39
          go_wp2_with (go_at_call 44; ((with_reducible refine c.mono ?_); rintro e w' ⟨rfl, hb⟩))
          have hcc := hb.cell (p := ⟨g, fst l n + j, none⟩) hg
          have hcp := hb.cell (p := ⟨p, 3, none⟩) hl
          rw [hcv] at hcc
          rw [c3] at hcp
          have hz := hb.size
          have hp' : p < w'.heap.size := by omega
          have hg' : g < w'.heap.size := by omega
          go_quiet (fail)
          go_wp2
          go_ret
          refine ⟨rfl, hb.trans ?_⟩
          repeat' (first | exact Below.refl _ _ | refine Below.setCell ?_ (by simp; omega) _ | refine Below.alloc ?_ (by (try simp); omega) _ | refine below_drewN ?_ _)

end Go.Proofs.Ytmbeaefgakfbnaa
