/- Contracts of the plain row's readings and steps: rec, Kind, Val, Load, Swap, Once. -/
import Derived.Test.YtighdfmjmmphaaaRef
namespace Go.Proofs.Ytighdfmjmmphaaa
open Go.RowKit
set_option linter.unusedVariables false

set_option maxHeartbeats 400000 in
theorem rec_no (id : Int) (w : World) (q : Nat) (G : Nat → Prop) (max mv : Int) (l : List It) (h : Ref w q G max mv l) (hid : id < 1 ∨ (l.length : Int) < id) :
    Calls Try.prog 32 #[.pointer (some ⟨q, 0, none⟩), .int .i64 id] w fun e w' => e = .returned (.tuple #[.agg #[.int .i64 0, .slice none 0 0, .bool false, .int .i64 0], .bool false]) ∧ Below w.heap.size w w' := by
  obtain ⟨lv, ss, h, hf⟩ := h
  obtain ⟨ao, cap, rfl, h1, h2⟩ := row_form h.rl
  have c1 := h.c1
  have hq := h.lt q (.inl rfl)
  unfold maxLen at h2
  clear h hf
  by_cases hlo : id < 1
  · clear hid
    go_enter Try.func32, Try.ntmps32
    go_wp2
    exact bodyPost_ret (v := .tuple #[.agg #[.int .i64 0, .slice none 0 0, .bool false, .int .i64 0], .bool false]) (by simp [results, Try.results32, go_sem]) rfl ⟨rfl, (Below.refl _ _).alloc (Nat.le_refl _) _⟩
  · have hhi : (l.length : Int) < id := by omega
    have hlo' : 1 ≤ id := by omega
    clear hid hlo
    go_enter Try.func32, Try.ntmps32
    go_wp2
    exact bodyPost_ret (v := .tuple #[.agg #[.int .i64 0, .slice none 0 0, .bool false, .int .i64 0], .bool false]) (by simp [results, Try.results32, go_sem]) rfl ⟨rfl, (Below.refl _ _).alloc (Nat.le_refl _) _⟩

/-- What stands in item i's slot. -/
theorem RefIs.slot {w : World} {q : Nat} {lv : Value} {max mv : Int} {l : List It} {ss : List Value} (h : RefIs w q lv max mv l ss) (i : Nat) (x : It) (s : Value) (hx : l[i]? = some x) (hs : ss[i]? = some s) :
    ∃ g cap, lv = .slice (some ⟨g, 0, none⟩) l.length cap ∧ l.length ≤ cap ∧ cap ≤ maxLen ∧ g < w.heap.size ∧ w.cell? ⟨g, i * 4, none⟩ = some (.int .i64 x.1) ∧
      w.cell? ⟨g, i * 4 + 1, none⟩ = some s ∧ w.cell? ⟨g, i * 4 + 2, none⟩ = some (.bool (decide (x.1 = 0))) ∧ w.cell? ⟨g, i * 4 + 3, none⟩ = some (.int .i64 (holdsOf x)) ∧ ∀ j, w.frozen? ⟨g, j, none⟩ = false := by
  have hi : i < l.length := (List.getElem?_eq_some_iff.1 hx).1
  obtain ⟨g, cap, rfl, hc, hm, hz⟩ := row_at h.rl (by omega)
  have hr := rowR_get l ss i x s hx hs
  refine ⟨g, cap, rfl, hc, hm, (h.rl.lt g rfl).2, ?_, ?_, ?_, ?_, hz⟩
  · rw [h.rl.cellAt _ (by omega)]; exact hr.1
  · rw [h.rl.cellAt _ (by omega)]; exact hr.2.1
  · rw [h.rl.cellAt _ (by omega)]; exact hr.2.2.1
  · rw [h.rl.cellAt _ (by omega)]; exact hr.2.2.2

set_option maxHeartbeats 800000 in
theorem rec_yes (i : Nat) (x : It) (s : Value) (w : World) (q : Nat) (lv : Value) (max mv : Int) (l : List It) (ss : List Value) (h : RefIs w q lv max mv l ss) (hx : l[i]? = some x) (hs : ss[i]? = some s) :
    Calls Try.prog 32 #[.pointer (some ⟨q, 0, none⟩), .int .i64 ((i : Int) + 1)] w fun e w' => e = .returned (.tuple #[.agg #[.int .i64 x.1, s, .bool (decide (x.1 = 0)), .int .i64 (holdsOf x)], .bool true]) ∧ Below w.heap.size w w' := by
  have hi : i < l.length := (List.getElem?_eq_some_iff.1 hx).1
  obtain ⟨g, cap, rfl, h1, h2, hg, s0, s1, s2, s3, _⟩ := h.slot i x s hx hs
  obtain ⟨ao, sc, rfl, _, _⟩ := row_form (h.own i x s hx hs).1
  have c1 := h.c1
  have hq := h.lt q (.inl rfl)
  unfold maxLen at h2
  have hlo : (1 : Int) ≤ (i : Int) + 1 := by omega
  have hhi : (i : Int) + 1 ≤ (l.length : Int) := by omega
  have hi' : (i : Int) < (l.length : Int) := by omega
  obtain ⟨hv, hhv⟩ : ∃ hv, holdsOf x = hv := ⟨_, rfl⟩
  obtain ⟨bv, hbv⟩ : ∃ bv, decide (x.1 = 0) = bv := ⟨_, rfl⟩
  obtain ⟨nv, hnv⟩ : ∃ nv, (valsOf x).length = nv := ⟨_, rfl⟩
  rw [hhv] at s3 ⊢
  rw [hbv] at s2 ⊢
  rw [hnv] at s1 ⊢
  clear h hx hs hhv hbv hnv
  go_enter Try.func32, Try.ntmps32
  go_wp2
  exact bodyPost_ret (v := .tuple #[.agg #[.int .i64 x.1, .slice ao nv sc, .bool bv, .int .i64 hv], .bool true]) (by simp [results, Try.results32, go_sem]) rfl ⟨rfl, (Below.refl _ _).alloc (Nat.le_refl _) _⟩

set_option maxHeartbeats 800000 in
theorem rkind_any (id : Int) (w : World) (q : Nat) (G : Nat → Prop) (max mv : Int) (l : List It) (h : Ref w q G max mv l) :
    Calls Try.prog 26 #[.pointer (some ⟨q, 0, none⟩), .int .i64 id] w fun e w' => e = .returned (.int .i64 (kindL l id)) ∧ Below w.heap.size w w' := by
  unfold kindL
  cases hx : itemAt l id with
  | none =>
    have c := rec_no id w q G max mv l h (itemAt_none hx)
    clear hx h
    go_enter Try.func26, Try.ntmps26
    go_wp2_with (go_at_call 32; ((with_reducible refine c.mono ?_); rintro e w' ⟨rfl, hb⟩))
    go_ret
    have hz := hb.size
    refine ⟨rfl, hb.trans ?_⟩
    repeat' (first | exact Below.refl _ _ | refine Below.setCell ?_ (by simp; omega) _ | refine Below.alloc ?_ (by (try simp); omega) _ | refine below_drewN ?_ _)
  | some x =>
    obtain ⟨i, rfl, hx', hi⟩ := itemAt_some hx
    obtain ⟨lv, ss, h, hf⟩ := h
    obtain ⟨s, hs⟩ := h.slice hx'
    have c := rec_yes i x s w q lv max mv l ss h hx' hs
    obtain ⟨ao, sc, rfl, _, _⟩ := row_form (h.own i x s hx' hs).1
    obtain ⟨hv, hhv⟩ : ∃ hv, holdsOf x = hv := ⟨_, rfl⟩
    obtain ⟨bv, hbv⟩ : ∃ bv, decide (x.1 = 0) = bv := ⟨_, rfl⟩
    obtain ⟨nv, hnv⟩ : ∃ nv, (valsOf x).length = nv := ⟨_, rfl⟩
    rw [hhv, hbv, hnv] at c
    clear hx h hx' hi hs hf hhv hbv hnv
    go_enter Try.func26, Try.ntmps26
    go_wp2_with (go_at_call 32; ((with_reducible refine c.mono ?_); rintro e w' ⟨rfl, hb⟩))
    go_ret
    have hz := hb.size
    refine ⟨rfl, hb.trans ?_⟩
    repeat' (first | exact Below.refl _ _ | refine Below.setCell ?_ (by simp; omega) _ | refine Below.alloc ?_ (by (try simp); omega) _ | refine below_drewN ?_ _)

set_option maxHeartbeats 1600000 in
theorem rval_any (id i : Int) (w : World) (q : Nat) (G : Nat → Prop) (max mv : Int) (l : List It) (h : Ref w q G max mv l) :
    Calls Try.prog 24 #[.pointer (some ⟨q, 0, none⟩), .int .i64 id, .int .i64 i] w fun e w' => e = .returned (.int .i64 (valL l id i)) ∧ Below w.heap.size w w' := by
  unfold valL
  cases hx : itemAt l id with
  | none =>
    have c := rec_no id w q G max mv l h (itemAt_none hx)
    clear hx h
    by_cases hlo : i < 0
    · go_enter Try.func24, Try.ntmps24
      go_wp2_with (go_at_call 32; ((with_reducible refine c.mono ?_); rintro e w' ⟨rfl, hb⟩))
      go_ret
      have hz := hb.size
      refine ⟨rfl, hb.trans ?_⟩
      repeat' (first | exact Below.refl _ _ | refine Below.setCell ?_ (by simp; omega) _ | refine Below.alloc ?_ (by (try simp); omega) _ | refine below_drewN ?_ _)
    · have hlo' : 0 ≤ i := by omega
      clear hlo
      go_enter Try.func24, Try.ntmps24
      go_wp2_with (go_at_call 32; ((with_reducible refine c.mono ?_); rintro e w' ⟨rfl, hb⟩))
      go_ret
      have hz := hb.size
      refine ⟨rfl, hb.trans ?_⟩
      repeat' (first | exact Below.refl _ _ | refine Below.setCell ?_ (by simp; omega) _ | refine Below.alloc ?_ (by (try simp); omega) _ | refine below_drewN ?_ _)
  | some x =>
    obtain ⟨n, rfl, hx', hi⟩ := itemAt_some hx
    obtain ⟨lv, ss, h, hf⟩ := h
    obtain ⟨s, hs⟩ := h.slice hx'
    have c := rec_yes n x s w q lv max mv l ss h hx' hs
    have ho := (h.own n x s hx' hs).1
    have hval : (if x.1 = 0 ∨ i < 0 ∨ (x.2.length : Int) ≤ i then 0 else x.2.getD i.toNat 0) = (if i < 0 ∨ ((valsOf x).length : Int) ≤ i then 0 else (valsOf x).getD i.toNat 0) := by
      unfold valsOf
      by_cases h0 : x.1 = 0
      · simp [h0]
      · simp [h0]
    dsimp only
    rw [hval]
    clear hval
    unfold OwnVals at ho
    obtain ⟨vs, hvs⟩ : ∃ vs, valsOf x = vs := ⟨_, rfl⟩
    rw [hvs] at ho ⊢
    obtain ⟨hv, hhv⟩ : ∃ hv, holdsOf x = hv := ⟨_, rfl⟩
    obtain ⟨bv, hbv⟩ : ∃ bv, decide (x.1 = 0) = bv := ⟨_, rfl⟩
    rw [hhv, hbv] at c
    clear hx h hx' hi hs hf hhv hbv hvs
    by_cases hlo : i < 0
    · rw [if_pos (.inl hlo)]
      obtain ⟨ao, sc, rfl, _, _⟩ := row_form ho
      clear ho
      go_enter Try.func24, Try.ntmps24
      go_wp2_with (go_at_call 32; ((with_reducible refine c.mono ?_); rintro e w' ⟨rfl, hb⟩))
      go_ret
      have hz := hb.size
      refine ⟨rfl, hb.trans ?_⟩
      repeat' (first | exact Below.refl _ _ | refine Below.setCell ?_ (by simp; omega) _ | refine Below.alloc ?_ (by (try simp); omega) _ | refine below_drewN ?_ _)
    · by_cases hhi : (vs.length : Int) ≤ i
      · rw [if_pos (.inr hhi)]
        have hlo' : 0 ≤ i := by omega
        obtain ⟨ao, sc, rfl, _, _⟩ := row_form ho
        clear ho hlo
        go_enter Try.func24, Try.ntmps24
        go_wp2_with (go_at_call 32; ((with_reducible refine c.mono ?_); rintro e w' ⟨rfl, hb⟩))
        go_ret
        have hz := hb.size
        refine ⟨rfl, hb.trans ?_⟩
        repeat' (first | exact Below.refl _ _ | refine Below.setCell ?_ (by simp; omega) _ | refine Below.alloc ?_ (by (try simp); omega) _ | refine below_drewN ?_ _)
      · rw [if_neg (by rintro (h1 | h1) <;> omega)]
        obtain ⟨j, rfl⟩ : ∃ j : Nat, i = (j : Int) := ⟨i.toNat, by omega⟩
        have hj : j < vs.length := by omega
        obtain ⟨g, sc, rfl, h1, h2, hz2⟩ := row_at ho (by omega)
        have hg := (ho.lt g rfl).2
        have hcv : w.cell? ⟨g, j, none⟩ = some (.int .i64 (vs.getD j 0)) := by
          rw [ho.cellAt j (by omega)]
          simp [List.getD, List.getElem?_eq_getElem hj]
        have hlo' : (0 : Int) ≤ (j : Int) := by omega
        have hhi' : (j : Int) < (vs.length : Int) := by omega
        simp only [Int.toNat_natCast]
        obtain ⟨u, hu⟩ : ∃ u, vs.getD j 0 = u := ⟨_, rfl⟩
        rw [hu] at hcv ⊢
        unfold maxLen at h2
        clear ho hlo hhi hu hz2 hj
        go_enter Try.func24, Try.ntmps24
        go_wp2_with (go_at_call 32; ((with_reducible refine c.mono ?_); rintro e w' ⟨rfl, hb⟩; have hcc := (hb.cell (p := ⟨g, j, none⟩) hg).trans hcv; have hz := hb.size; have hg' : g < w'.heap.size := by omega))
        go_ret
        refine ⟨rfl, hb.trans ?_⟩
        repeat' (first | exact Below.refl _ _ | refine Below.setCell ?_ (by simp; omega) _ | refine Below.alloc ?_ (by (try simp); omega) _ | refine below_drewN ?_ _)

end Go.Proofs.Ytighdfmjmmphaaa
