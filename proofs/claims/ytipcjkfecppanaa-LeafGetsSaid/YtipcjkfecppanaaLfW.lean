/- osierlaw13.awake. No condition: lemmas. -/
import Derived.Test.YtipcjkfecppanaaLfG
namespace Go.Proofs.Ytipcjkfecppanaa
open Go.RowKit
set_option linter.all false

theorem ea1 : doP [(1, 5)] 1 3 7 = [(1, 5), (3, 7)] := by decide
theorem ea2 : hadL [(1, 5)] 3 = (false, 0, 0) := by decide
theorem ea3 : rngL [(1, 5), (3, 7)] 2 9 = [(3, 7)] := by decide
theorem ea4 : Srt [(1, 5), (3, 7)] := by decide
theorem ea5 : ixL [(1, 5), (3, 7)] 3 = 1 := by decide
theorem ea_do1 (W : World) (a : Option Addr) (cap : Nat) (h : Prs W a cap [(1, 5)]) :
    Calls Try.prog 9 #[.slice a 1 cap, .agg #[.int .i64 1, .int .i64 3, .int .i64 0, .int .i64 7]] W fun e w' =>
      ∃ ao cp aa ca, e = .returned (.tuple #[.slice ao 2 cp, .agg #[.int .i64 0, .bool false, .int .i64 0, .int .i64 0, .int .i64 0, .slice aa 0 ca]]) ∧ Prs w' ao cp [(1, 5), (3, 7)] ∧ Below W.heap.size W w' :=
  (ldo_any a cap [(1, 5)] 1 3 0 7 W h (by decide)).mono (fun e w' hh => by
    obtain ⟨ao, cp, aa, ca, rfl, h1, h2, h3⟩ := hh
    rw [ea1] at h1 ⊢
    rw [doA_had (by decide) (by decide) 3 0 (by decide)] at h2 ⊢
    unfold hadD at h2 ⊢
    rw [ea2] at h2 ⊢
    exact ⟨ao, cp, aa, ca, rfl, h1.prs rfl, h3⟩)
theorem ea_do2 (W : World) (a : Option Addr) (cap : Nat) (h : Prs W a cap [(1, 5), (3, 7)]) :
    Calls Try.prog 9 #[.slice a 2 cap, .agg #[.int .i64 5, .int .i64 2, .int .i64 9, .int .i64 0]] W fun e w' =>
      ∃ ao cp aa ca, e = .returned (.tuple #[.slice ao 2 cp, .agg #[.int .i64 0, .bool false, .int .i64 0, .int .i64 0, .int .i64 1, .slice aa 1 ca]]) ∧ Prs w' aa ca [(3, 7)] ∧ Below W.heap.size W w' :=
  (ldo_any a cap [(1, 5), (3, 7)] 5 2 9 0 W h (by decide)).mono (fun e w' hh => by
    obtain ⟨ao, cp, aa, ca, rfl, h1, h2, h3⟩ := hh
    rw [doP_read ea4 (by decide) 2 0 (by decide)]
    rw [doA_rng ea4 (by decide) 2 9 rfl, ea3] at h2 ⊢
    exact ⟨ao, cp, aa, ca, rfl, h2.prs rfl, h3⟩)
theorem ea_find (W : World) (a : Option Addr) (cap : Nat) (h : Prs W a cap [(1, 5), (3, 7)]) :
    Calls Try.prog 18 #[.slice a 2 cap, .int .i64 3] W fun e w' => e = .returned (.int .i64 1) ∧ Below W.heap.size W w' := by
  have c := lfind_any a cap [(1, 5), (3, 7)] 3 W h
  rwa [ea5] at c
theorem ea_may (W : World) (a : Option Addr) (cap : Nat) (h : Prs W a cap [(1, 5), (3, 7)]) :
    Calls Try.prog 13 #[.slice a 2 cap] W fun e w' => e = .returned (.bool true) ∧ Below W.heap.size W w' :=
  lmay_any a cap [(1, 5), (3, 7)] W h true (decide_eq_true ea4)
theorem lit1 (w : World) (k v : Int) : Prs (w.alloc (.cells #[.int .i64 k, .int .i64 v] 27)) (some ⟨w.heap.size, 0, none⟩) 1 [(k, v)] :=
  ⟨Nat.le_refl _, by unfold maxLen; omega, fun n q hq => by
    match n, hq with
    | 0, hq => simp at hq; subst hq; exact ⟨_, 0, rfl, by simp, by simp⟩, fun e => by cases e⟩
theorem al1 {w : World} (o : Obj) : Below w.heap.size w (w.alloc o) := (Below.refl _ _).alloc (Nat.le_refl _) _

set_option maxRecDepth 100000 in
set_option maxHeartbeats 6400000 in
theorem awake_any (w : World) : Calls Try.prog 8 #[] w fun e w' => e = .returned (.bool true) ∧ Below w.heap.size w w' := by
  go_enter Try.func8, Try.ntmps8
  go_wp2_with (first
    | (go_at_call 9; ((with_reducible refine (ea_do1 _ _ _ (lit1 w 1 5)).mono ?_); rintro e w2 ⟨ao, cp, aa, ca, rfl, hP2, hb2⟩; have HP2 := Lib.hid hP2; have HB2 := Lib.hid ((al1 _).trans (hb2.mono (al1 _).size)); clear hP2 hb2))
    | (go_at_call 9; ((with_reducible refine (ea_do2 _ _ _ (HP2.out.below (al1 _))).mono ?_); rintro e w3 ⟨ao3, cp3, aa3, ca3, rfl, hP3, hb3⟩; have HP3 := Lib.hid hP3; have q0 := cell_new hb3 1 rfl; have q1 := cell_alloc q0 (.cells #[.int .i64 0, .bool false, .int .i64 0, .int .i64 0, .int .i64 1, .slice aa3 1 ca3] 29); have HB3 := Lib.hid ((al1 _).trans (hb3.mono (al1 _).size)); obtain ⟨b9, o9, rfl, m0, m1⟩ := (hP3.below (al1 (.cells #[.int .i64 0, .bool false, .int .i64 0, .int .i64 0, .int .i64 1, .slice aa3 1 ca3] 29))).2.2.1 0 _ rfl; dsimp only at m0 m1; clear hP3 hb3))
    | (go_at_call 18; ((with_reducible refine (ea_find _ _ _ ((HP2.out.below HB3.out).below (al1 _))).mono ?_); rintro e w4 ⟨rfl, hb4⟩))
    | (go_at_call 13; ((with_reducible refine (ea_may _ _ _ (((HP2.out.below HB3.out).below (al1 _)).below hb4)).mono ?_); rintro e w5 ⟨rfl, hb5⟩)))
  go_ret
  have h3 := HB2.out.trans (HB3.out.mono HB2.out.size)
  have h5 := h3.trans (((al1 _).trans (hb4.mono (al1 _).size)).mono h3.size)
  exact ⟨rfl, h5.trans (hb5.mono h5.size)⟩
end Go.Proofs.Ytipcjkfecppanaa
