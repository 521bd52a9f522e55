/- The contract of the plain row's Make that goes well. -/
import Derived.Test.YtighdfmjmmphaaaRc3
namespace Go.Proofs.Ytighdfmjmmphaaa
open Go.RowKit
set_option linter.unusedVariables false

set_option maxHeartbeats 12800000 in
theorem rmake_ok (k : Int) (vs : List Int) (x : Value) (w : World) (q : Nat) (G : Nat → Prop) (max mv : Int) (l : List It) (h : Ref w q G max mv l) (hk : 1 ≤ k) (hn : vs.length ≤ 12) (hr : (l.length : Int) < max) (hx : Ints G w x vs) :
    Calls Try.prog 14 #[.pointer (some ⟨q, 0, none⟩), .int .i64 k, x] w (MadeR w q G max mv l (k, vs)) := by
  obtain ⟨lv, ss, h, hf⟩ := h
  obtain ⟨lo, lc, rfl, h1, h2⟩ := row_form h.rl
  obtain ⟨ax, cx, rfl, hx2⟩ := hx.value
  have c0 := h.c0
  have c1 := h.c1
  have hq := h.lt q (.inl rfl)
  have hn1 : ¬ (12 : Int) < (vs.length : Int) := by omega
  have hr' : ¬ max ≤ (l.length : Int) := by omega
  have htop := h.top
  have H := Lib.hid h
  have HX := Lib.hid hx
  obtain ⟨j0, hj, jz, js1, js2⟩ := info_parts infoInt
  obtain ⟨i0, hi, hz, hs1, hs2⟩ := info_parts infoRec
  have hone2 : ∀ u ∈ vs.map (Value.int .i64), u.oneCell' = true := by
    intro u hu
    obtain ⟨z, _, rfl⟩ := List.mem_map.1 hu
    rfl
  have hb3 : 0 + vs.length ≤ maxLen := by unfold maxLen; omega
  have hb4 : (0 + vs.length) * 8 ≤ 140737488355328 := by omega
  have hb1 : l.length + 1 ≤ maxLen := by unfold maxLen; omega
  have hb2 : (l.length + 1) * 48 ≤ 140737488355328 := by omega
  have hd : decide (k = 0) = false := by simp; omega
  have hvo : valsOf (k, vs) = vs := by unfold valsOf; rw [if_neg (by dsimp only; omega)]
  have hho : holdsOf (k, vs) = 0 := by unfold holdsOf; rw [if_neg (by dsimp only; omega)]
  have HD := Lib.hid hd
  have HVO := Lib.hid hvo
  have HHO := Lib.hid hho
  unfold maxLen at h2 hx2
  clear h hx hd hvo hho
  go_enter Try.func14, Try.ntmps14
  go_wp2_with (fail)
  go_quiet (fail)
  go_wp2_with (fail)
  go_region_law (first
    | (refine step_own_append rfl (.tmp 29) (.tmp 34) 42 rfl 54 i0 _ 4 48 Try.underlying42 hi hz hs1 hs2 rfl (by decide) _ _ _ rfl ((H.out.below hB1).rl.alloc _) _ 1 [.int .i64 k, .slice ao1 vs.length cap1, .bool false, .int .i64 0] rfl (.inr ⟨_, _, rfl, cells_new _ #[.int .i64 k, .slice ao1 vs.length cap1, .bool false, .int .i64 0] _⟩) rfl (by intro u hu; simp at hu; rcases hu with rfl | rfl | rfl | rfl <;> rfl) hb1 hb2 ?_
       intro lv2 w2 hown2 hgr2 hk2
       obtain ⟨ao2, cap2, rfl, hm21, hm22⟩ := row_form hown2
       unfold maxLen at hm22
       have hRA := (H.out.below hB1).below ((Below.refl _ _).alloc (Nat.le_refl _) (.cells #[.int .i64 k, .slice ao1 vs.length cap1, .bool false, .int .i64 0] 54))
       have e1 := hgr2.cell hRA.c1 (fun e => hRA.nl e.symm)
       have e2 := (World.frozen?_of_block (a := ⟨q, 1, none⟩) (hgr2.block q (by have := hRA.lt q (.inl rfl); exact this) (fun e => hRA.nl e.symm))).trans (hRA.fr 1)
       have hq2 : q < w2.heap.size := Nat.lt_of_lt_of_le (hRA.lt q (.inl rfl)) hgr2.size
       clear hRA)
    | (refine step_own_append rfl (.const (.slice none 0 0)) (.tmp 31) 29 rfl 3 j0 _ 1 8 Try.underlying29 hj jz js1 js2 rfl (by decide) (.slice none 0 0) 0 [] rfl (World.ownsRow_nil _ _ _ _) _ vs.length (vs.map (Value.int .i64)) rfl (HX.out.source ((Only.refl _ _).drewN _).drew) (by simp) hone2 hb3 hb4 ?_
       intro s1 w1 hown1 hgr1 hk1
       rw [Nat.zero_add, List.nil_append] at hown1
       obtain ⟨ao1, cap1, rfl, hm1, hm2⟩ := row_form hown1
       unfold maxLen at hm2
       have hB1 : Below w.heap.size w w1 := (below_drewN (Below.refl _ _) _).drew.grown hgr1 (Nat.le_refl _) (fun k e => by simp [Value.ownBlock] at e)
       have d1 := (H.out.below hB1).c1
       have hq1 : q < w1.heap.size := by have := hB1.size; omega))
  all_goals
    go_wp2
    go_ret2
    refine ⟨rfl, H.out.made hf (hB1.alloc hB1.size _) (x := (k, vs)) (s := .slice ao1 vs.length cap1) ?_ (fun k' e => ?_) hgr2 (by rw [HHO.out]; dsimp only; rw [HD.out]; exact hown2) hk2 ⟨by dsimp only; omega, hn, fun e => by dsimp only at e; omega⟩ hr⟩
    · unfold OwnVals; rw [HVO.out]; exact hown1.alloc _
    · rcases hk1 k' e with e' | e'
      · simp [Value.ownBlock] at e'
      · simpa using e'


end Go.Proofs.Ytighdfmjmmphaaa
