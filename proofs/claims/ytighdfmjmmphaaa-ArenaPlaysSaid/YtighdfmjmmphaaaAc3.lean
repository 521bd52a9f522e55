/- Contracts of the arena's steps: step, Load, Swap, Once. -/
import Derived.Test.YtighdfmjmmphaaaAc2
namespace Go.Proofs.Ytighdfmjmmphaaa
open Go.RowKit
set_option linter.unusedVariables false

/-- What the cell of a number holds. -/
def cellL (l : List It) (id : Int) : Option Int := match itemAt l id with
  | none => none
  | some x => if x.1 = 0 then x.2.head? else none
def setL (l : List It) (id v : Int) : List It := l.set (id - 1).toNat (0, [v])
def stepped (c : Option Int) (st : Int) : Int := match c with
  | none => st
  | some _ => wrap64 (st + 1)

theorem cellL_some {l : List It} {id u : Int} (hl : ∀ x ∈ l, ItOk x) (h : cellL l id = some u) : ∃ i : Nat, id = (i : Int) + 1 ∧ l[i]? = some (0, [u]) ∧ i < l.length := by
  unfold cellL at h
  cases hx : itemAt l id with
  | none => rw [hx] at h; cases h
  | some x =>
    rw [hx] at h
    obtain ⟨i, rfl, h1, h2⟩ := itemAt_some hx
    refine ⟨i, rfl, ?_, h2⟩
    by_cases h0 : x.1 = 0
    · simp only [h0, if_true] at h
      obtain ⟨v, hv⟩ := (hl x (List.mem_of_getElem? h1)).2.2 h0
      rw [h1]
      obtain ⟨x1, x2⟩ := x
      simp_all
    · simp only [h0, if_false] at h; cases h

theorem step_nil (id : Int) (w : World) :
    Calls Try.prog 31 #[.pointer none, .int .i64 id] w fun e w' => e = .returned (.pointer none) ∧ Below w.heap.size w w' := by
  have c := at_nil id w
  go_enter Try.func31, Try.ntmps31
  go_wp2_with (go_at_call 33; ((with_reducible refine c.mono ?_); rintro e w' ⟨rfl, hb⟩))
  go_ret
  have hz := hb.size
  refine ⟨rfl, hb.trans ?_⟩
  repeat' (first | exact Below.refl _ _ | refine Below.setCell ?_ (by simp; omega) _ | refine Below.alloc ?_ (by (try simp); omega) _ | refine below_drewN ?_ _)

set_option maxHeartbeats 800000 in
theorem step_no (id : Int) (w : World) (p : Nat) (F : Nat → Prop) (room st : Int) (l : List It) (h : Arena w p F room st l) (hc : cellL l id = none) :
    Calls Try.prog 31 #[.pointer (some ⟨p, 0, none⟩), .int .i64 id] w fun e w' => e = .returned (.pointer none) ∧ Below w.heap.size w w' := by
  unfold cellL at hc
  cases hx : itemAt l id with
  | none =>
    have c := at_no id w p F room st l h (itemAt_none hx)
    clear hx h hc
    go_enter Try.func31, Try.ntmps31
    go_wp2_with (go_at_call 33; ((with_reducible refine c.mono ?_); rintro e w' ⟨rfl, hb⟩))
    go_ret
    have hz := hb.size
    refine ⟨rfl, hb.trans ?_⟩
    repeat' (first | exact Below.refl _ _ | refine Below.setCell ?_ (by simp; omega) _ | refine Below.alloc ?_ (by (try simp); omega) _ | refine below_drewN ?_ _)
  | some x =>
    rw [hx] at hc
    obtain ⟨n, rfl, hx', hi⟩ := itemAt_some hx
    have hk : x.1 ≠ 0 := by
      intro h0
      simp only [h0, if_true] at hc
      obtain ⟨v, hv⟩ := (h.ok.1 x (List.mem_of_getElem? hx')).2.2 h0
      rw [hv] at hc; cases hc
    have c := at_yes n x w p F room st l h hx'
    have hl := h.lt
    clear hx hc
    obtain ⟨x1, x2⟩ := x
    dsimp only at c hk ⊢
    have hk1 : (x1 == 0) = false := by simp [hk]
    have hk2 : (x1 != 0) = true := by simp [hk]
    clear h hx' hi hk
    go_enter Try.func31, Try.ntmps31
    go_wp2_with (go_at_call 33; ((with_reducible refine c.mono ?_); rintro e w' ⟨rfl, hb⟩))
    go_ret
    have hz := hb.size
    refine ⟨rfl, hb.trans ?_⟩
    repeat' (first | exact Below.refl _ _ | refine Below.setCell ?_ (by simp; omega) _ | refine Below.alloc ?_ (by (try simp); omega) _ | refine below_drewN ?_ _)

/-- What a step on item i leaves. -/
def Stepped (w : World) (p : Nat) (sv vv : Value) (room st : Int) (l : List It) (i : Nat) (e : Ending) (w' : World) : Prop :=
  ∃ g cap, vv = .slice (some ⟨g, 0, none⟩) (flat l).length cap ∧ e = .returned (.pointer (some ⟨g, fst l i, none⟩)) ∧ ArenaIs w' p sv vv room (wrap64 (st + 1)) l ∧ Only (fun k => k = p) w w'

set_option maxHeartbeats 1600000 in
theorem step_yes (i : Nat) (u : Int) (w : World) (p : Nat) (sv vv : Value) (room st : Int) (l : List It) (h : ArenaIs w p sv vv room st l) (hx : l[i]? = some (0, [u])) :
    Calls Try.prog 31 #[.pointer (some ⟨p, 0, none⟩), .int .i64 ((i : Int) + 1)] w (Stepped w p sv vv room st l i) := by
  have hA : Arena w p (fun _ => True) room st l := ⟨sv, vv, h, fun _ _ => trivial⟩
  have c := at_yes i (0, [u]) w p _ room st l hA hx
  have hp := h.lt p (.inl rfl)
  obtain ⟨g, cap, rfl, h1, h2, hg, hlt, hcv, _⟩ := h.value i (0, [u]) hx 0 (by simp)
  have c3 := h.c3
  have c1 := h.c1
  have f1 := h.fr 1
  rw [Nat.add_zero] at hcv hlt
  have H := Lib.hid h
  clear h hA hx
  have hf1 : ((fst l i : Nat) : Int) < ((flat l).length : Int) := by omega
  have hf0 : 0 ≤ ((fst l i : Nat) : Int) := by omega
  unfold maxLen at h2
  dsimp only at c
  go_enter Try.func31, Try.ntmps31
  go_wp2_with (go_at_call 33; ((with_reducible refine c.mono ?_); rintro e w' ⟨rfl, hb⟩; have hc1 := (hb.cell (p := ⟨p, 1, none⟩) hp).trans c1; have hcf := (hb.frozen (p := ⟨p, 1, none⟩) hp).trans f1; have hc3 := (hb.cell (p := ⟨p, 3, none⟩) hp).trans c3; have hz := hb.size; have hp' : p < w'.heap.size := by omega))
  go_quiet (fail)
  go_wp2
  go_ret
  refine ⟨g, cap, rfl, rfl, ?_, ?_⟩
  · exact (((H.out.below hb).setSt _).below ((Below.refl _ _).alloc (Nat.le_refl _) _)).below (below_drewN (Below.refl _ _) _)
  · exact ((Only.setCell (S := fun k => k = p) (Only.ofBelow hb) (p := ⟨p, 1, none⟩) (.inl rfl) _).alloc _).drewN _

/-- What a call leaves that steps on the arena. -/
def Moved (w : World) (p : Nat) (F : Nat → Prop) (room st : Int) (l : List It) (w' : World) : Prop :=
  Arena w' p F room st l ∧ Only F w w'

theorem Moved.ofBelow {w w' : World} {p : Nat} {F : Nat → Prop} {room st : Int} {l : List It} (h : Arena w p F room st l) (hb : Below w.heap.size w w') : Moved w p F room st l w' :=
  ⟨h.below hb, Only.ofBelow hb⟩

theorem load_nil (id : Int) (w : World) :
    Calls Try.prog 17 #[.pointer none, .int .i64 id] w fun e w' => e = .returned (.int .i64 0) ∧ Below w.heap.size w w' := by
  have c := step_nil id w
  go_enter Try.func17, Try.ntmps17
  go_wp2_with (go_at_call 31; ((with_reducible refine c.mono ?_); rintro e w' ⟨rfl, hb⟩))
  go_ret
  exact ⟨rfl, hb⟩

theorem swap_nil (id old now : Int) (w : World) :
    Calls Try.prog 19 #[.pointer none, .int .i64 id, .int .i64 old, .int .i64 now] w fun e w' => e = .returned (.bool false) ∧ Below w.heap.size w w' := by
  have c := step_nil id w
  go_enter Try.func19, Try.ntmps19
  go_wp2_with (go_at_call 31; ((with_reducible refine c.mono ?_); rintro e w' ⟨rfl, hb⟩))
  go_ret
  exact ⟨rfl, hb⟩

theorem once_nil (id v : Int) (w : World) :
    Calls Try.prog 21 #[.pointer none, .int .i64 id, .int .i64 v] w fun e w' => e = .returned (.bool false) ∧ Below w.heap.size w w' := by
  have c := step_nil id w
  go_enter Try.func21, Try.ntmps21
  go_wp2_with (go_at_call 31; ((with_reducible refine c.mono ?_); rintro e w' ⟨rfl, hb⟩))
  go_ret
  exact ⟨rfl, hb⟩

set_option maxHeartbeats 800000 in
theorem load_any (id : Int) (w : World) (p : Nat) (F : Nat → Prop) (room st : Int) (l : List It) (h : Arena w p F room st l) :
    Calls Try.prog 17 #[.pointer (some ⟨p, 0, none⟩), .int .i64 id] w fun e w' => e = .returned (.int .i64 ((cellL l id).getD 0)) ∧ Moved w p F room (stepped (cellL l id) st) l w' := by
  cases hc : cellL l id with
  | none =>
    have c := step_no id w p F room st l h hc
    have H := Lib.hid h
    clear hc h
    go_enter Try.func17, Try.ntmps17
    go_wp2_with (go_at_call 31; ((with_reducible refine c.mono ?_); rintro e w' ⟨rfl, hb⟩))
    go_ret
    exact ⟨rfl, Moved.ofBelow H.out hb⟩
  | some u =>
    obtain ⟨i, rfl, hi, _⟩ := cellL_some h.ok.1 hc
    have hF := h.own
    obtain ⟨sv, vv, h, hf⟩ := h
    have c := step_yes i u w p sv vv room st l h hi
    have H := Lib.hid hi
    clear hc h hi
    go_enter Try.func17, Try.ntmps17
    go_wp2_with (go_at_call 31; ((with_reducible refine c.mono ?_); rintro e w' ⟨g, cap, rfl, rfl, hA, ho⟩; obtain ⟨g', cap', he, _, _, hg, _, hcv, _⟩ := hA.value i (0, [u]) H.out 0 (by simp); rw [Nat.add_zero] at hcv; (obtain ⟨rfl, rfl⟩ : g = g' ∧ cap = cap' := by simpa using he); (simp only [List.getD_cons_zero] at hcv); have HA := Lib.hid hA; clear hA he))
    go_ret
    exact ⟨rfl, ⟨_, _, HA.out, hf⟩, ho.mono (fun k hk _ => hk ▸ hF)⟩

/-- What a Swap leaves of the items. -/
def swapL (l : List It) (id old now : Int) : List It := if cellL l id = some old then setL l id now else l
def onceL (l : List It) (id v : Int) : List It := if cellL l id = some 0 ∧ v ≠ 0 then setL l id v else l

set_option maxHeartbeats 800000 in
theorem swap_any (id old now : Int) (w : World) (p : Nat) (F : Nat → Prop) (room st : Int) (l : List It) (h : Arena w p F room st l) :
    Calls Try.prog 19 #[.pointer (some ⟨p, 0, none⟩), .int .i64 id, .int .i64 old, .int .i64 now] w fun e w' =>
      e = .returned (.bool (decide (cellL l id = some old))) ∧ Moved w p F room (stepped (cellL l id) st) (swapL l id old now) w' := by
  unfold swapL
  cases hc : cellL l id with
  | none =>
    have c := step_no id w p F room st l h hc
    rw [if_neg (by simp), decide_eq_false (by simp)]
    have H := Lib.hid h
    clear hc h
    go_enter Try.func19, Try.ntmps19
    go_wp2_with (go_at_call 31; ((with_reducible refine c.mono ?_); rintro e w' ⟨rfl, hb⟩))
    go_ret
    exact ⟨rfl, Moved.ofBelow H.out hb⟩
  | some u =>
    obtain ⟨i, rfl, hi, _⟩ := cellL_some h.ok.1 hc
    have hF := h.own
    obtain ⟨sv, vv, h, hf⟩ := h
    have c := step_yes i u w p sv vv room st l h hi
    have H := Lib.hid hi
    clear hc h hi
    unfold setL
    rw [show ((i : Int) + 1 - 1).toNat = i by omega]
    by_cases hu : u = old
    · subst hu
      rw [if_pos rfl, decide_eq_true rfl]
      have hu2 : (u != u) = false := by simp
      go_enter Try.func19, Try.ntmps19
      go_wp2_with (go_at_call 31; ((with_reducible refine c.mono ?_); rintro e w' ⟨g, cap, rfl, rfl, hA, ho⟩; obtain ⟨g', cap', he, _, _, hg, _, hcv, hfz⟩ := hA.value i (0, [u]) H.out 0 (by simp); rw [Nat.add_zero] at hcv; (obtain ⟨rfl, rfl⟩ : g = g' ∧ cap = cap' := by simpa using he); (simp only [List.getD_cons_zero] at hcv); have hfz := hfz (fst l i); have HA := Lib.hid hA; clear hA he))
      go_ret
      refine ⟨rfl, ⟨_, _, HA.out.setVal i u now H.out, hf⟩, Only.setCell (p := ⟨g, fst l i, none⟩) (ho.mono (fun k hk _ => hk ▸ hF)) (.inl (hf g (.inr (.inr rfl)))) _⟩
    · rw [if_neg (by simpa using hu), decide_eq_false (by simpa using hu)]
      have hu1 : (u == old) = false := by simp [hu]
      have hu2 : (u != old) = true := by simp [hu]
      clear hu
      go_enter Try.func19, Try.ntmps19
      go_wp2_with (go_at_call 31; ((with_reducible refine c.mono ?_); rintro e w' ⟨g, cap, rfl, rfl, hA, ho⟩; obtain ⟨g', cap', he, _, _, hg, _, hcv, hfz⟩ := hA.value i (0, [u]) H.out 0 (by simp); rw [Nat.add_zero] at hcv; (obtain ⟨rfl, rfl⟩ : g = g' ∧ cap = cap' := by simpa using he); (simp only [List.getD_cons_zero] at hcv); have hfz := hfz (fst l i); have HA := Lib.hid hA; clear hA he))
      go_ret
      exact ⟨rfl, ⟨_, _, HA.out, hf⟩, ho.mono (fun k hk _ => hk ▸ hF)⟩

set_option maxHeartbeats 800000 in
theorem once_any (id v : Int) (w : World) (p : Nat) (F : Nat → Prop) (room st : Int) (l : List It) (h : Arena w p F room st l) :
    Calls Try.prog 21 #[.pointer (some ⟨p, 0, none⟩), .int .i64 id, .int .i64 v] w fun e w' =>
      e = .returned (.bool (decide (cellL l id = some 0 ∧ v ≠ 0))) ∧ Moved w p F room (stepped (cellL l id) st) (onceL l id v) w' := by
  unfold onceL
  cases hc : cellL l id with
  | none =>
    have c := step_no id w p F room st l h hc
    rw [if_neg (by simp), decide_eq_false (by simp)]
    have H := Lib.hid h
    clear hc h
    go_enter Try.func21, Try.ntmps21
    go_wp2_with (go_at_call 31; ((with_reducible refine c.mono ?_); rintro e w' ⟨rfl, hb⟩))
    go_ret
    exact ⟨rfl, Moved.ofBelow H.out hb⟩
  | some u =>
    obtain ⟨i, rfl, hi, _⟩ := cellL_some h.ok.1 hc
    have hF := h.own
    obtain ⟨sv, vv, h, hf⟩ := h
    have c := step_yes i u w p sv vv room st l h hi
    have H := Lib.hid hi
    clear hc h hi
    unfold setL
    rw [show ((i : Int) + 1 - 1).toNat = i by omega]
    by_cases hu : u = 0
    · subst hu
      have hu2 : ((0 : Int) != 0) = false := by simp
      by_cases hv : v = 0
      · subst hv
        rw [if_neg (by simp), decide_eq_false (by simp)]
        go_enter Try.func21, Try.ntmps21
        go_wp2_with (go_at_call 31; ((with_reducible refine c.mono ?_); rintro e w' ⟨g, cap, rfl, rfl, hA, ho⟩; obtain ⟨g', cap', he, _, _, hg, _, hcv, hfz⟩ := hA.value i (0, [0]) H.out 0 (by simp); rw [Nat.add_zero] at hcv; (obtain ⟨rfl, rfl⟩ : g = g' ∧ cap = cap' := by simpa using he); (simp only [List.getD_cons_zero] at hcv); have hfz := hfz (fst l i); have HA := Lib.hid hA; clear hA he))
        go_ret
        exact ⟨rfl, ⟨_, _, HA.out, hf⟩, ho.mono (fun k hk _ => hk ▸ hF)⟩
      · rw [if_pos ⟨rfl, hv⟩, decide_eq_true ⟨rfl, hv⟩]
        have hv1 : (v == 0) = false := by simp [hv]
        clear hv
        go_enter Try.func21, Try.ntmps21
        go_wp2_with (go_at_call 31; ((with_reducible refine c.mono ?_); rintro e w' ⟨g, cap, rfl, rfl, hA, ho⟩; obtain ⟨g', cap', he, _, _, hg, _, hcv, hfz⟩ := hA.value i (0, [0]) H.out 0 (by simp); rw [Nat.add_zero] at hcv; (obtain ⟨rfl, rfl⟩ : g = g' ∧ cap = cap' := by simpa using he); (simp only [List.getD_cons_zero] at hcv); have hfz := hfz (fst l i); have HA := Lib.hid hA; clear hA he))
        go_ret
        refine ⟨rfl, ⟨_, _, HA.out.setVal i 0 v H.out, hf⟩, Only.setCell (p := ⟨g, fst l i, none⟩) (ho.mono (fun k hk _ => hk ▸ hF)) (.inl (hf g (.inr (.inr rfl)))) _⟩
    · rw [if_neg (by simp [hu]), decide_eq_false (by simp [hu])]
      have hu1 : (u == 0) = false := by simp [hu]
      have hu2 : (u != 0) = true := by simp [hu]
      clear hu
      go_enter Try.func21, Try.ntmps21
      go_wp2_with (go_at_call 31; ((with_reducible refine c.mono ?_); rintro e w' ⟨g, cap, rfl, rfl, hA, ho⟩; obtain ⟨g', cap', he, _, _, hg, _, hcv, hfz⟩ := hA.value i (0, [u]) H.out 0 (by simp); rw [Nat.add_zero] at hcv; (obtain ⟨rfl, rfl⟩ : g = g' ∧ cap = cap' := by simpa using he); (simp only [List.getD_cons_zero] at hcv); have hfz := hfz (fst l i); have HA := Lib.hid hA; clear hA he))
      go_ret
      exact ⟨rfl, ⟨_, _, HA.out, hf⟩, ho.mono (fun k hk _ => hk ▸ hF)⟩

end Go.Proofs.Ytighdfmjmmphaaa
