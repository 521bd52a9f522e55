/- Contracts of the plain row's steps: Load, Swap, Once. -/
import Derived.Test.YtighdfmjmmphaaaRc1
namespace Go.Proofs.Ytighdfmjmmphaaa
open Go.RowKit
set_option linter.unusedVariables false

/-- What a call leaves that steps on the plain row. -/
def MovedR (w : World) (q : Nat) (G : Nat → Prop) (max mv : Int) (l : List It) (w' : World) : Prop := Ref w' q G max mv l ∧ Only G w w'
theorem MovedR.ofBelow {w w' : World} {q : Nat} {G : Nat → Prop} {max mv : Int} {l : List It} (h : Ref w q G max mv l) (hb : Below w.heap.size w w') : MovedR w q G max mv l w' := ⟨h.below hb, Only.ofBelow hb⟩

/-- Not a cell: 'rec' tells a record, or nothing; its Cell is false. -/
theorem rec_else (id : Int) (w : World) (q : Nat) (G : Nat → Prop) (max mv : Int) (l : List It) (h : Ref w q G max mv l) (hc : cellL l id = none) :
    ∃ k ao n sc b, Calls Try.prog 32 #[.pointer (some ⟨q, 0, none⟩), .int .i64 id] w fun e w' => e = .returned (.tuple #[.agg #[.int .i64 k, .slice ao n sc, .bool false, .int .i64 0], .bool b]) ∧ Below w.heap.size w w' := by
  unfold cellL at hc
  cases hx : itemAt l id with
  | none => exact ⟨0, none, 0, 0, false, rec_no id w q G max mv l h (itemAt_none hx)⟩
  | some x =>
    rw [hx] at hc
    obtain ⟨n, rfl, hx', hi⟩ := itemAt_some hx
    obtain ⟨lv, ss, h, hf⟩ := h
    have hk : x.1 ≠ 0 := by
      intro h0
      simp only [h0, if_true] at hc
      obtain ⟨v, hv⟩ := (h.ok x (List.mem_of_getElem? hx')).2.2 h0
      rw [hv] at hc; cases hc
    obtain ⟨s, hs⟩ := h.slice hx'
    have c := rec_yes n x s w q lv max mv l ss h hx' hs
    obtain ⟨ao, sc, rfl, _, _⟩ := row_form (h.own n x s hx' hs).1
    have e1 : decide (x.1 = 0) = false := by simp [hk]
    have e2 : holdsOf x = 0 := by simp [holdsOf, hk]
    rw [e1, e2] at c
    exact ⟨_, _, _, _, _, c⟩

/-- A cell: 'rec' tells what it holds. -/
theorem rec_cell (i : Nat) (u : Int) (w : World) (q : Nat) (lv : Value) (max mv : Int) (l : List It) (ss : List Value) (h : RefIs w q lv max mv l ss) (hx : l[i]? = some (0, [u])) :
    ∃ ao n sc, Calls Try.prog 32 #[.pointer (some ⟨q, 0, none⟩), .int .i64 ((i : Int) + 1)] w fun e w' => e = .returned (.tuple #[.agg #[.int .i64 0, .slice ao n sc, .bool true, .int .i64 u], .bool true]) ∧ Below w.heap.size w w' := by
  obtain ⟨s, hs⟩ := h.slice hx
  have c := rec_yes i (0, [u]) s w q lv max mv l ss h hx hs
  obtain ⟨ao, sc, rfl, _, _⟩ := row_form (h.own i _ s hx hs).1
  exact ⟨_, _, _, c⟩

set_option maxHeartbeats 1600000 in
theorem rload_any (id : Int) (w : World) (q : Nat) (G : Nat → Prop) (max mv : Int) (l : List It) (h : Ref w q G max mv l) :
    Calls Try.prog 18 #[.pointer (some ⟨q, 0, none⟩), .int .i64 id] w fun e w' => e = .returned (.int .i64 ((cellL l id).getD 0)) ∧ MovedR w q G max (stepped (cellL l id) mv) l w' := by
  cases hc : cellL l id with
  | none =>
    obtain ⟨k, ao, n, sc, b, c⟩ := rec_else id w q G max mv l h hc
    have H := Lib.hid h
    clear hc h
    go_enter Try.func18, Try.ntmps18
    go_wp2_with (go_at_call 32; ((with_reducible refine c.mono ?_); rintro e w' ⟨rfl, hb⟩))
    go_ret
    refine ⟨rfl, MovedR.ofBelow H.out (hb.trans ?_)⟩
    have hz := hb.size
    repeat' (first | exact Below.refl _ _ | refine Below.setCell ?_ (by simp; omega) _ | refine Below.alloc ?_ (by (try simp); omega) _ | refine below_drewN ?_ _)
  | some u =>
    obtain ⟨i, rfl, hi, hil⟩ := cellL_some (by obtain ⟨_, _, h, _⟩ := h; exact h.ok) hc
    have hF := h.mine
    have hq := h.lt
    obtain ⟨lv, ss, h, hf⟩ := h
    obtain ⟨s, hs⟩ := h.slice hi
    obtain ⟨g, cap, rfl, h1, h2, hg, _, _, _, hs3, hfz⟩ := h.slot i _ s hi hs
    have hs3 : w.cell? ⟨g, i * 4 + 3, none⟩ = some (.int .i64 u) := hs3
    have hfz := hfz (i * 4 + 3)
    have hc1 := h.c1
    have hc2 := h.c2
    have hf2 := h.fr 2
    obtain ⟨ao, n, sc, c⟩ := rec_cell i u w q _ max mv l ss h hi
    have H := Lib.hid h
    have HI := Lib.hid hi
    have hne : g ≠ q := fun e => h.nl (by rw [← e]; rfl)
    have hi' : (i : Int) < (l.length : Int) := by omega
    unfold maxLen at h2
    clear hc h hi hs
    go_enter Try.func18, Try.ntmps18
    go_wp2_with (go_at_call 32; ((with_reducible refine c.mono ?_); clear c; rintro e w' ⟨rfl, hb⟩; have d1 := (hb.cell (p := ⟨q, 1, none⟩) hq).trans hc1; have d2 := (hb.cell (p := ⟨q, 2, none⟩) hq).trans hc2; have df := (hb.frozen (p := ⟨q, 2, none⟩) hq).trans hf2; have d3 := (hb.cell (p := ⟨g, i * 4 + 3, none⟩) hg).trans hs3; have dz := (hb.frozen (p := ⟨g, i * 4 + 3, none⟩) hg).trans hfz; have hz := hb.size; have hq' : q < w'.heap.size := (by omega); have hg' : g < w'.heap.size := (by omega)))
    go_ret
    exact ⟨rfl, ⟨_, ss, ((H.out.below hb).setMv _).below ((Below.refl _ _).alloc (Nat.le_refl _) _), hf⟩, Only.alloc (Only.setCell (S := G) (p := ⟨q, 2, none⟩) (Only.ofBelow hb) (.inl hF) _) _⟩

set_option maxHeartbeats 1600000 in
theorem rswap_any (id old now : Int) (w : World) (q : Nat) (G : Nat → Prop) (max mv : Int) (l : List It) (h : Ref w q G max mv l) :
    Calls Try.prog 20 #[.pointer (some ⟨q, 0, none⟩), .int .i64 id, .int .i64 old, .int .i64 now] w fun e w' =>
      e = .returned (.bool (decide (cellL l id = some old))) ∧ MovedR w q G max (stepped (cellL l id) mv) (swapL l id old now) w' := by
  unfold swapL
  cases hc : cellL l id with
  | none =>
    rw [if_neg (by simp), decide_eq_false (by simp)]
    obtain ⟨k, ao, n, sc, b, c⟩ := rec_else id w q G max mv l h hc
    have H := Lib.hid h
    clear hc h
    go_enter Try.func20, Try.ntmps20
    go_wp2_with (go_at_call 32; ((with_reducible refine c.mono ?_); rintro e w' ⟨rfl, hb⟩))
    go_ret
    refine ⟨rfl, MovedR.ofBelow H.out (hb.trans ?_)⟩
    have hz := hb.size
    repeat' (first | exact Below.refl _ _ | refine Below.setCell ?_ (by simp; omega) _ | refine Below.alloc ?_ (by (try simp); omega) _ | refine below_drewN ?_ _)
  | some u =>
    obtain ⟨i, rfl, hi, hil⟩ := cellL_some (by obtain ⟨_, _, h, _⟩ := h; exact h.ok) hc
    have hF := h.mine
    have hq := h.lt
    obtain ⟨lv, ss, h, hf⟩ := h
    obtain ⟨s, hs⟩ := h.slice hi
    obtain ⟨g, cap, rfl, h1, h2, hg, _, _, _, hs3, hfz⟩ := h.slot i _ s hi hs
    have hs3 : w.cell? ⟨g, i * 4 + 3, none⟩ = some (.int .i64 u) := hs3
    have hfz := hfz (i * 4 + 3)
    have hc1 := h.c1
    have hc2 := h.c2
    have hf2 := h.fr 2
    obtain ⟨ao, n, sc, c⟩ := rec_cell i u w q _ max mv l ss h hi
    have H := Lib.hid h
    have HI := Lib.hid hi
    have hne : g ≠ q := fun e => h.nl (by rw [← e]; rfl)
    have hi' : (i : Int) < (l.length : Int) := by omega
    unfold maxLen at h2
    clear hc h hi hs
    unfold setL
    rw [show ((i : Int) + 1 - 1).toNat = i by omega]
    by_cases hu : u = old
    · subst hu
      rw [if_pos rfl, decide_eq_true rfl]
      have hu2 : (u != u) = false := by simp
      go_enter Try.func20, Try.ntmps20
      go_wp2_with (go_at_call 32; ((with_reducible refine c.mono ?_); clear c; rintro e w' ⟨rfl, hb⟩; have d1 := (hb.cell (p := ⟨q, 1, none⟩) hq).trans hc1; have d2 := (hb.cell (p := ⟨q, 2, none⟩) hq).trans hc2; have df := (hb.frozen (p := ⟨q, 2, none⟩) hq).trans hf2; have d3 := (hb.cell (p := ⟨g, i * 4 + 3, none⟩) hg).trans hs3; have dz := (hb.frozen (p := ⟨g, i * 4 + 3, none⟩) hg).trans hfz; have hz := hb.size; have hq' : q < w'.heap.size := (by omega); have hg' : g < w'.heap.size := (by omega)))
      go_ret
      exact ⟨rfl, ⟨_, ss, (((H.out.below hb).setMv _).setVal i u now HI.out).below ((Below.refl _ _).alloc (Nat.le_refl _) _), hf⟩, Only.alloc (Only.setCell (p := ⟨g, i * 4 + 3, none⟩) (Only.setCell (S := G) (p := ⟨q, 2, none⟩) (Only.ofBelow hb) (.inl hF) _) (.inl (hf g (.inr (.inl rfl)))) _) _⟩
    · rw [if_neg (by simpa using hu), decide_eq_false (by simpa using hu)]
      have hu1 : (u == old) = false := by simp [hu]
      have hu2 : (u != old) = true := by simp [hu]
      clear hu
      go_enter Try.func20, Try.ntmps20
      go_wp2_with (go_at_call 32; ((with_reducible refine c.mono ?_); clear c; rintro e w' ⟨rfl, hb⟩; have d1 := (hb.cell (p := ⟨q, 1, none⟩) hq).trans hc1; have d2 := (hb.cell (p := ⟨q, 2, none⟩) hq).trans hc2; have df := (hb.frozen (p := ⟨q, 2, none⟩) hq).trans hf2; have d3 := (hb.cell (p := ⟨g, i * 4 + 3, none⟩) hg).trans hs3; have dz := (hb.frozen (p := ⟨g, i * 4 + 3, none⟩) hg).trans hfz; have hz := hb.size; have hq' : q < w'.heap.size := (by omega); have hg' : g < w'.heap.size := (by omega)))
      go_ret
      exact ⟨rfl, ⟨_, ss, ((H.out.below hb).setMv _).below ((Below.refl _ _).alloc (Nat.le_refl _) _), hf⟩, Only.alloc (Only.setCell (S := G) (p := ⟨q, 2, none⟩) (Only.ofBelow hb) (.inl hF) _) _⟩

set_option maxHeartbeats 1600000 in
theorem ronce_any (id v : Int) (w : World) (q : Nat) (G : Nat → Prop) (max mv : Int) (l : List It) (h : Ref w q G max mv l) :
    Calls Try.prog 22 #[.pointer (some ⟨q, 0, none⟩), .int .i64 id, .int .i64 v] w fun e w' =>
      e = .returned (.bool (decide (cellL l id = some 0 ∧ v ≠ 0))) ∧ MovedR w q G max (stepped (cellL l id) mv) (onceL l id v) w' := by
  unfold onceL
  cases hc : cellL l id with
  | none =>
    rw [if_neg (by simp), decide_eq_false (by simp)]
    obtain ⟨k, ao, n, sc, b, c⟩ := rec_else id w q G max mv l h hc
    have H := Lib.hid h
    clear hc h
    go_enter Try.func22, Try.ntmps22
    go_wp2_with (go_at_call 32; ((with_reducible refine c.mono ?_); rintro e w' ⟨rfl, hb⟩))
    go_ret
    refine ⟨rfl, MovedR.ofBelow H.out (hb.trans ?_)⟩
    have hz := hb.size
    repeat' (first | exact Below.refl _ _ | refine Below.setCell ?_ (by simp; omega) _ | refine Below.alloc ?_ (by (try simp); omega) _ | refine below_drewN ?_ _)
  | some u =>
    obtain ⟨i, rfl, hi, hil⟩ := cellL_some (by obtain ⟨_, _, h, _⟩ := h; exact h.ok) hc
    have hF := h.mine
    have hq := h.lt
    obtain ⟨lv, ss, h, hf⟩ := h
    obtain ⟨s, hs⟩ := h.slice hi
    obtain ⟨g, cap, rfl, h1, h2, hg, _, _, _, hs3, hfz⟩ := h.slot i _ s hi hs
    have hs3 : w.cell? ⟨g, i * 4 + 3, none⟩ = some (.int .i64 u) := hs3
    have hfz := hfz (i * 4 + 3)
    have hc1 := h.c1
    have hc2 := h.c2
    have hf2 := h.fr 2
    obtain ⟨ao, n, sc, c⟩ := rec_cell i u w q _ max mv l ss h hi
    have H := Lib.hid h
    have HI := Lib.hid hi
    have hne : g ≠ q := fun e => h.nl (by rw [← e]; rfl)
    have hi' : (i : Int) < (l.length : Int) := by omega
    unfold maxLen at h2
    clear hc h hi hs
    unfold setL
    rw [show ((i : Int) + 1 - 1).toNat = i by omega]
    by_cases hu : u = 0
    · by_cases hv : v = 0
      · subst hv
        rw [if_neg (by simp), decide_eq_false (by simp)]
        have hu2 : (u != 0) = false := by simp [hu]
        clear hu
        go_enter Try.func22, Try.ntmps22
        go_wp2_with (go_at_call 32; ((with_reducible refine c.mono ?_); clear c; rintro e w' ⟨rfl, hb⟩; have d1 := (hb.cell (p := ⟨q, 1, none⟩) hq).trans hc1; have d2 := (hb.cell (p := ⟨q, 2, none⟩) hq).trans hc2; have df := (hb.frozen (p := ⟨q, 2, none⟩) hq).trans hf2; have d3 := (hb.cell (p := ⟨g, i * 4 + 3, none⟩) hg).trans hs3; have dz := (hb.frozen (p := ⟨g, i * 4 + 3, none⟩) hg).trans hfz; have hz := hb.size; have hq' : q < w'.heap.size := (by omega); have hg' : g < w'.heap.size := (by omega)))
        go_ret
        exact ⟨rfl, ⟨_, ss, ((H.out.below hb).setMv _).below ((Below.refl _ _).alloc (Nat.le_refl _) _), hf⟩, Only.alloc (Only.setCell (S := G) (p := ⟨q, 2, none⟩) (Only.ofBelow hb) (.inl hF) _) _⟩
      · rw [if_pos ⟨by rw [hu], hv⟩, decide_eq_true ⟨by rw [hu], hv⟩]
        have hv1 : (v == 0) = false := by simp [hv]
        have hu2 : (u != 0) = false := by simp [hu]
        clear hv hu
        go_enter Try.func22, Try.ntmps22
        go_wp2_with (go_at_call 32; ((with_reducible refine c.mono ?_); clear c; rintro e w' ⟨rfl, hb⟩; have d1 := (hb.cell (p := ⟨q, 1, none⟩) hq).trans hc1; have d2 := (hb.cell (p := ⟨q, 2, none⟩) hq).trans hc2; have df := (hb.frozen (p := ⟨q, 2, none⟩) hq).trans hf2; have d3 := (hb.cell (p := ⟨g, i * 4 + 3, none⟩) hg).trans hs3; have dz := (hb.frozen (p := ⟨g, i * 4 + 3, none⟩) hg).trans hfz; have hz := hb.size; have hq' : q < w'.heap.size := (by omega); have hg' : g < w'.heap.size := (by omega)))
        go_ret
        exact ⟨rfl, ⟨_, ss, (((H.out.below hb).setMv _).setVal i u v HI.out).below ((Below.refl _ _).alloc (Nat.le_refl _) _), hf⟩, Only.alloc (Only.setCell (p := ⟨g, i * 4 + 3, none⟩) (Only.setCell (S := G) (p := ⟨q, 2, none⟩) (Only.ofBelow hb) (.inl hF) _) (.inl (hf g (.inr (.inl rfl)))) _) _⟩
    · rw [if_neg (by simp [hu]), decide_eq_false (by simp [hu])]
      have hu1 : (u == 0) = false := by simp [hu]
      have hu2 : (u != 0) = true := by simp [hu]
      clear hu
      go_enter Try.func22, Try.ntmps22
      go_wp2_with (go_at_call 32; ((with_reducible refine c.mono ?_); clear c; rintro e w' ⟨rfl, hb⟩; have d1 := (hb.cell (p := ⟨q, 1, none⟩) hq).trans hc1; have d2 := (hb.cell (p := ⟨q, 2, none⟩) hq).trans hc2; have df := (hb.frozen (p := ⟨q, 2, none⟩) hq).trans hf2; have d3 := (hb.cell (p := ⟨g, i * 4 + 3, none⟩) hg).trans hs3; have dz := (hb.frozen (p := ⟨g, i * 4 + 3, none⟩) hg).trans hfz; have hz := hb.size; have hq' : q < w'.heap.size := (by omega); have hg' : g < w'.heap.size := (by omega)))
      go_ret
      exact ⟨rfl, ⟨_, ss, ((H.out.below hb).setMv _).below ((Below.refl _ _).alloc (Nat.le_refl _) _), hf⟩, Only.alloc (Only.setCell (S := G) (p := ⟨q, 2, none⟩) (Only.ofBelow hb) (.inl hF) _) _⟩

end Go.Proofs.Ytighdfmjmmphaaa
