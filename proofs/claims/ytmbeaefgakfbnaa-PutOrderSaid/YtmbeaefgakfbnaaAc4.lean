/- Contracts of the arena's makings: add, Make, Cell. -/
import Derived.Test.YtmbeaefgakfbnaaAc3
import Derived.RegionTactic
import Derived.ChangeAlike
namespace Go.Proofs.Ytmbeaefgakfbnaa
open Go.RowKit
set_option linter.unusedVariables false

theorem infoSlot : (Try.prog.info? 71).map (fun i => (i.zero, i.size, i.bytes)) = some (some (.agg #[.int .i64 0, .int .i64 0, .int .i64 0]), 3, 24) := by kernel_rfl
theorem infoInt : (Try.prog.info? 3).map (fun i => (i.zero, i.size, i.bytes)) = some (some (.int .i64 0), 1, 8) := by kernel_rfl

/-- A slice of integers that is read, and lies in no block of F. -/
def Ints (F : Nat → Prop) (w : World) (x : Value) (vs : List Int) : Prop :=
  (x = .slice none 0 0 ∧ vs = []) ∨ ∃ ad c, x = .slice (some ad) vs.length c ∧ (vs = [] ∨ ¬ F ad.block) ∧ vs.length ≤ maxLen ∧ ∀ j, j < vs.length → w.cell? (ad.add j) = some (.int .i64 (vs.getD j 0))

theorem Ints.source {F : Nat → Prop} {w w' : World} {x : Value} {vs : List Int} (h : Ints F w x vs) (o : Only F w w') : Source w' x vs.length (vs.map (Value.int .i64)) := by
  rcases h with ⟨rfl, rfl⟩ | ⟨ad, c, rfl, hF, _, hc⟩
  · exact .inl ⟨rfl, rfl, rfl⟩
  · refine .inr ⟨_, c, rfl, fun j u hu => ?_⟩
    rw [List.getElem?_map] at hu
    have hj : j < vs.length := by
      rcases Nat.lt_or_ge j vs.length with h | h
      · exact h
      · rw [List.getElem?_eq_none h] at hu; cases hu
    have := hc j hj
    rw [List.getElem?_eq_getElem hj] at hu
    simp only [Option.map_some, Option.some.injEq] at hu
    subst hu
    have hn : ¬ F (ad.add j).block := by
      rw [show (ad.add j).block = ad.block by unfold Addr.add; split <;> rfl]
      rcases hF with rfl | hF
      · simp at hj
      · exact hF
    rw [o.cell this hn]
    simp [List.getD, List.getElem?_eq_getElem hj]

theorem Ints.value {F : Nat → Prop} {w : World} {x : Value} {vs : List Int} (h : Ints F w x vs) : ∃ ao c, x = .slice ao vs.length c ∧ vs.length ≤ maxLen := by
  rcases h with ⟨rfl, rfl⟩ | ⟨ad, c, rfl, hF, hm, hc⟩
  · exact ⟨none, 0, rfl, Nat.zero_le _⟩
  · exact ⟨_, c, rfl, hm⟩

set_option maxHeartbeats 800000 in
theorem add_full (k : Int) (x : Value) (w : World) (p : Nat) (F : Nat → Prop) (room st : Int) (l : List It) (h : Arena w p F room st l) (hf : room = l.length) :
    Calls Try.prog 41 #[.pointer (some ⟨p, 0, none⟩), .int .i64 k, x] w fun e w' => e = .returned (.tuple #[.int .i64 0, .int .i64 2]) ∧ Below w.heap.size w w' := by
  have c := room_any w p F room st l h
  subst hf
  rw [Int.sub_self] at c
  clear h
  go_enter Try.func41, Try.ntmps41
  go_wp2_with (go_at_call 45; ((with_reducible refine c.mono ?_); rintro e w' ⟨rfl, n, rfl⟩))
  go_ret2
  exact ⟨rfl, below_drewN (Below.refl _ _) _⟩

theorem add_end {W : World} {p : Nat} {sv vv : Value} {room st k : Int} {l : List It} {vs : List Int} (h : ∀ x ∈ l, ItOk x) (hm : room ≤ 60000) (hr : (l.length : Int) < room) (hk : ItOk (k, vs))
    (R : Raw W p sv vv room st (l.length + 1) (rowS 0 l ++ [.int .i64 k, .int .i64 ((flat l).length : Nat), .int .i64 (vs.length : Nat)]) ((flat l).length + vs.length) (rowV l ++ vs.map (Value.int .i64))) :
    ArenaIs W p sv vv room st (l ++ [(k, vs)]) := by
  have e1 : (l ++ [(k, vs)]).length = l.length + 1 := by simp
  have e2 : rowS 0 (l ++ [(k, vs)]) = rowS 0 l ++ [.int .i64 k, .int .i64 ((flat l).length : Nat), .int .i64 (vs.length : Nat)] := by rw [rowS_snoc]; simp
  have e3 : (flat (l ++ [(k, vs)])).length = (flat l).length + vs.length := by rw [flat_app]; simp [flat]
  have e4 : rowV (l ++ [(k, vs)]) = rowV l ++ vs.map (Value.int .i64) := rowV_snoc l (k, vs)
  refine ⟨by rw [e1, e2, e3, e4]; exact R, fun x hx => ?_, by rw [e1]; omega, hm⟩
  rcases List.mem_append.1 hx with hx | hx
  · exact h x hx
  · simp at hx; subst hx; exact hk

set_option maxHeartbeats 1600000 in
theorem add_room (k : Int) (vs : List Int) (x : Value) (w : World) (p : Nat) (F : Nat → Prop) (room st : Int) (l : List It) (h : Arena w p F room st l) (hr : (l.length : Int) < room) (hk : ItOk (k, vs)) (hx : Ints F w x vs) :
    Calls Try.prog 41 #[.pointer (some ⟨p, 0, none⟩), .int .i64 k, x] w fun e w' => e = .returned (.tuple #[.int .i64 ((l.length + 1 : Nat) : Int), .int .i64 0]) ∧ Arena w' p (Plus F w w') room st (l ++ [(k, vs)]) ∧ Only F w w' := by
  have c := room_any w p F room st l h
  have hne : (room - (l.length : Int) == 0) = false := by simp; omega
  obtain ⟨sv, vv, h, hf⟩ := h
  obtain ⟨ao, cap, rfl, hm1, hm2⟩ := row_form h.rs
  obtain ⟨av, cav, rfl, hv1, hv2⟩ := row_form h.rv
  obtain ⟨ax, cx, rfl, hx2⟩ := hx.value
  have c2 := h.c2
  have c3 := h.c3
  have f2 := h.fr 2
  have f3 := h.fr 3
  have hp := h.lt p (.inl rfl)
  have H := Lib.hid h
  have HX := Lib.hid hx
  obtain ⟨i0, hi, hz, hs1, hs2⟩ := info_parts infoSlot
  have hone : ∀ u ∈ [Value.int .i64 k, .int .i64 ((flat l).length : Nat), .int .i64 (vs.length : Nat)], u.oneCell' = true := by
    intro u hu
    simp at hu
    rcases hu with rfl | rfl | rfl <;> rfl
  have hmx := h.max
  have hb1 : l.length + 1 ≤ maxLen := by unfold maxLen; omega
  have hb2 : (l.length + 1) * 24 ≤ 140737488355328 := by omega
  clear h hx
  unfold maxLen at hm2 hv2 hx2
  go_enter Try.func41, Try.ntmps41
  go_wp2_with (go_at_call 45; ((with_reducible refine c.mono ?_); rintro e w' ⟨rfl, n, rfl⟩))
  have hB : Below w.heap.size w ((w.drewN (n + 1)).alloc (.cells #[.int .i64 k, .int .i64 ((flat l).length : Nat), .int .i64 (vs.length : Nat)] 71)) := (below_drewN (Below.refl _ _) _).alloc (Nat.le_refl _) _
  have c2' := (H.out.below hB).c2
  go_region_law (refine step_own_append rfl (.tmp 15) (.tmp 25) 47 rfl 71 i0 _ 3 24 Try.underlying47 hi hz hs1 hs2 rfl (by decide) _ _ _ rfl (H.out.below hB).rs _ 1 [.int .i64 k, .int .i64 ((flat l).length : Nat), .int .i64 (vs.length : Nat)] rfl (.inr ⟨_, _, rfl, cells_new _ #[.int .i64 k, .int .i64 ((flat l).length : Nat), .int .i64 (vs.length : Nat)] _⟩) rfl hone hb1 hb2 ?_; intro v1 w1 hown1 hgr1 hk1; obtain ⟨ao1, cap1, rfl, hm11, hm12⟩ := row_form hown1; unfold maxLen at hm12; obtain ⟨d0, d1, d2, d3, d4, d5⟩ := (H.out.below hB).toRaw.cells hgr1 (H.out.ns); have d42 := d4 2; have d43 := d4 3)
  all_goals
    have R1 := (H.out.below hB).toRaw.setS hgr1 hown1 hk1
    have O1 : Only F w (w1.setCell ⟨p, 2, none⟩ (.slice ao1 (l.length + 1) cap1)) := Only.setCell (p := ⟨p, 2, none⟩) ((Only.ofBelow hB).grown hgr1 (fun k e _ => hf k (.inr (.inl e)))) (.inl (hf p (.inl rfl))) _
    have hN : ∀ k, Foot p (.slice ao1 (l.length + 1) cap1) (.slice av (flat l).length cav) k → F k ∨ (w.heap.size ≤ k) := by
      intro k e
      rcases e with rfl | e | e
      · exact .inl (hf _ (.inl rfl))
      · rcases hk1 k e with e' | e'
        · exact .inl (hf k (.inr (.inl e')))
        · simp at e'; exact .inr (by omega)
      · exact .inl (hf k (.inr (.inr e)))
    clear hown1 hgr1 hk1 d0 d1 d2 d3 d4 d5 d42 d43 c2' c2 c3 f2 f3 hB
    generalize w1.setCell ⟨p, 2, none⟩ (.slice ao1 (l.length + 1) cap1) = W2 at *
    have e3 := R1.c3
    have e3f := R1.fr 3
    have hp2 : p < W2.heap.size := R1.lt p (.inl rfl)
    have HR := Lib.hid R1
    have hsrc : Source W2 (.slice ax vs.length cx) vs.length (vs.map (Value.int .i64)) := HX.out.source O1
    clear R1
    obtain ⟨j0, hj, jz, js1, js2⟩ := info_parts infoInt
    have hone2 : ∀ u ∈ vs.map (Value.int .i64), u.oneCell' = true := by
      intro u hu
      obtain ⟨q, _, rfl⟩ := List.mem_map.1 hu
      rfl
    have hsm := flat_small l H.out.ok
    have hk2 : vs.length ≤ 12 := hk.2.1
    have hb3 : (flat l).length + vs.length ≤ maxLen := by unfold maxLen; omega
    have hb4 : ((flat l).length + vs.length) * 8 ≤ 140737488355328 := by omega
    clear hsm hk2
    go_wp2_with (at_builtin; refine wpList_own_append rfl (.tmp 33) (.tmp 34) 48 rfl 3 j0 _ 1 8 Try.underlying48 hj jz js1 js2 rfl (by decide) _ _ _ rfl HR.out.rv _ vs.length (vs.map (Value.int .i64)) rfl hsrc (by simp) hone2 hb3 hb4 ?_; intro v2 w2 hown2 hgr2 hk2; obtain ⟨ao2, cap2, rfl, hm21, hm22⟩ := row_form hown2; unfold maxLen at hm22; obtain ⟨d0, d1, d2, d3, d4, d5⟩ := HR.out.cells hgr2 HR.out.nv; have d42 := d4 2; have d43 := d4 3)
    go_ret2
    have R2 := HR.out.setV hgr2 hown2 hk2
    refine ⟨rfl, ⟨_, _, add_end H.out.ok H.out.max hr hk R2, fun k' e => ?_⟩, Only.setCell (p := ⟨p, 3, none⟩) (O1.grown hgr2 (fun k' e _ => hf k' (.inr (.inr e)))) (.inl (hf p (.inl rfl))) _⟩
    have hlt := R2.lt k' e
    have hold : F k' ∨ w.heap.size ≤ k' := by
      rcases e with rfl | e | e
      · exact .inl (hf _ (.inl rfl))
      · exact hN k' (.inr (.inl e))
      · rcases hk2 k' e with e' | e'
        · exact .inl (hf k' (.inr (.inr e')))
        · have := O1.size; exact .inr (by omega)
    exact hold.imp id (fun hge => ⟨hge, hlt⟩)

end Go.Proofs.Ytmbeaefgakfbnaa
