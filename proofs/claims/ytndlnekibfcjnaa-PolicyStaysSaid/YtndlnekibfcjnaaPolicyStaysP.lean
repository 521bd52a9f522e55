/- PolicyStays (P11.2): for any two policies: what Clamp answers may be, and Clamp leaves it as it is; a policy that may be stays as it is; Off may be; of two numbers the greater one stays no less. No condition. -/
import Derived.Test.YtndlnekibfcjnaaRows
import Derived.Test.YtndlnekibfcjnaaChn
import Derived.Deep.RegionHeld3
import Derived.Deep.CutRange
import Derived.LoopTactic
import Derived.WalkKit
import Derived.ProofKit
import Derived.OpenShut
import Derived.ChangeOld
import Derived.Below
namespace Go.Proofs.Ytndlnekibfcjnaa.policyStays
open Go.ChangeShapes Go.WideShapes Go.ChangeAt Go.RowKit
set_option linter.all false

theorem own : ownKnob Try.prog.godebug = none := by kernel_rfl
theorem laidOut : laidOutB Try.prog = true := by kernel_rfl

set_option maxHeartbeats 3200000 in
theorem clamp_ex (h l c u m h' l' c' u' m' : Int) (e : Cl h l c u m h' l' c' u' m') (w : World) :
    Calls Try.prog 7 #[.agg #[.int .i64 h, .int .i64 l, .int .i64 c, .int .i64 u, .int .i64 m]] w fun e w' => e = .returned (.agg #[.int .i64 h', .int .i64 l', .int .i64 c', .int .i64 u', .int .i64 m']) ∧ w' = ((w.alloc (.cells #[.int .i64 h, .int .i64 l, .int .i64 c, .int .i64 u, .int .i64 m] 23)).alloc (.cells #[.int .i64 h', .int .i64 l', .int .i64 c', .int .i64 u', .int .i64 m'] 23)).drew := by
  obtain ⟨rfl, rfl, rfl, rfl, rfl⟩ := e
  go_enter Try.func7, Try.ntmps7
  go_wp2_with (fail)
  go_region_held3 (fun W => W.cell? ⟨w.heap.size, 0, none⟩ = some (.int .i64 h) ∧ W.cell? ⟨w.heap.size, 1, none⟩ = some (.int .i64 l) ∧ W.cell? ⟨w.heap.size, 2, none⟩ = some (.int .i64 c) ∧ W.cell? ⟨w.heap.size, 3, none⟩ = some (.int .i64 u) ∧ W.cell? ⟨w.heap.size, 4, none⟩ = some (.int .i64 m))
    (go_keep)
    (first | (go_at_call 13; ((with_reducible refine (within_any _ _ _ _).mono ?_); rintro e w3 ⟨rfl, rfl⟩)))
  all_goals
    go_wp2_with (fail)
    exact bodyPost_ret (v := .agg #[.int .i64 (wi 1 h 100000), .int .i64 (wi (-100000) l 0), .int .i64 (wi (-100000) c 100000), .int .i64 (wi (-100000) u 100000), .int .i64 (wi (-100000) m 100000)]) (by simp [results, Try.results7, go_sem]) rfl ⟨rfl, rfl⟩
/-- The worlds of PolicyStays. -/
structure ES (w W : World) (A B : Nat) (h0 l0 c0 u0 m0 h1 l1 c1 u1 m1 x0 x1 x2 x3 x4 y0 y1 y2 y3 y4 : Int) : Prop where
  p : Pl W w.heap.size h0 l0 c0 u0 m0
  q : Pl W (w.heap.size + 1) h1 l1 c1 u1 m1
  a : Pl W A x0 x1 x2 x3 x4
  y : Pl W B y0 y1 y2 y3 y4
  b : Below w.heap.size w W
section
variable {w W W' : World} {A B : Nat} {h0 l0 c0 u0 m0 h1 l1 c1 u1 m1 x0 x1 x2 x3 x4 y0 y1 y2 y3 y4 : Int}
theorem ES.keep (H : ES w W A B h0 l0 c0 u0 m0 h1 l1 c1 u1 m1 x0 x1 x2 x3 x4 y0 y1 y2 y3 y4) (hb : Below W.heap.size W W') : ES w W' A B h0 l0 c0 u0 m0 h1 l1 c1 u1 m1 x0 x1 x2 x3 x4 y0 y1 y2 y3 y4 := ⟨H.p.keep hb, H.q.keep hb, H.a.keep hb, H.y.keep hb, bst H.b hb⟩
theorem es_s (H : ES w W A B h0 l0 c0 u0 m0 h1 l1 c1 u1 m1 x0 x1 x2 x3 x4 y0 y1 y2 y3 y4) : W.cell? ⟨w.heap.size, 0, none⟩ = some (.int .i64 h0) ∧ W.cell? ⟨w.heap.size, 1, none⟩ = some (.int .i64 l0) ∧ W.cell? ⟨w.heap.size, 2, none⟩ = some (.int .i64 c0) ∧ W.cell? ⟨w.heap.size, 3, none⟩ = some (.int .i64 u0) ∧ W.cell? ⟨w.heap.size, 4, none⟩ = some (.int .i64 m0) ∧ W.cell? ⟨A, 0, none⟩ = some (.int .i64 x0) ∧ W.cell? ⟨A, 1, none⟩ = some (.int .i64 x1) ∧ W.cell? ⟨A, 2, none⟩ = some (.int .i64 x2) ∧ W.cell? ⟨A, 3, none⟩ = some (.int .i64 x3) ∧ W.cell? ⟨A, 4, none⟩ = some (.int .i64 x4) ∧ ES w W A B h0 l0 c0 u0 m0 h1 l1 c1 u1 m1 x0 x1 x2 x3 x4 y0 y1 y2 y3 y4 := ⟨H.p.1, H.p.2.1, H.p.2.2.1, H.p.2.2.2.1, H.p.2.2.2.2, H.a.1, H.a.2.1, H.a.2.2.1, H.a.2.2.2.1, H.a.2.2.2.2, H⟩
theorem es_of (H : W.cell? ⟨w.heap.size, 0, none⟩ = some (.int .i64 h0) ∧ W.cell? ⟨w.heap.size, 1, none⟩ = some (.int .i64 l0) ∧ W.cell? ⟨w.heap.size, 2, none⟩ = some (.int .i64 c0) ∧ W.cell? ⟨w.heap.size, 3, none⟩ = some (.int .i64 u0) ∧ W.cell? ⟨w.heap.size, 4, none⟩ = some (.int .i64 m0) ∧ W.cell? ⟨A, 0, none⟩ = some (.int .i64 x0) ∧ W.cell? ⟨A, 1, none⟩ = some (.int .i64 x1) ∧ W.cell? ⟨A, 2, none⟩ = some (.int .i64 x2) ∧ W.cell? ⟨A, 3, none⟩ = some (.int .i64 x3) ∧ W.cell? ⟨A, 4, none⟩ = some (.int .i64 x4) ∧ ES w W A B h0 l0 c0 u0 m0 h1 l1 c1 u1 m1 x0 x1 x2 x3 x4 y0 y1 y2 y3 y4) : ES w W A B h0 l0 c0 u0 m0 h1 l1 c1 u1 m1 x0 x1 x2 x3 x4 y0 y1 y2 y3 y4 := H.2.2.2.2.2.2.2.2.2.2
theorem es_drew (H : ES w W A B h0 l0 c0 u0 m0 h1 l1 c1 u1 m1 x0 x1 x2 x3 x4 y0 y1 y2 y3 y4) (W' : World) (hW : W' = W.drew) : W'.cell? ⟨w.heap.size, 0, none⟩ = some (.int .i64 h0) ∧ W'.cell? ⟨w.heap.size, 1, none⟩ = some (.int .i64 l0) ∧ W'.cell? ⟨w.heap.size, 2, none⟩ = some (.int .i64 c0) ∧ W'.cell? ⟨w.heap.size, 3, none⟩ = some (.int .i64 u0) ∧ W'.cell? ⟨w.heap.size, 4, none⟩ = some (.int .i64 m0) ∧ W'.cell? ⟨A, 0, none⟩ = some (.int .i64 x0) ∧ W'.cell? ⟨A, 1, none⟩ = some (.int .i64 x1) ∧ W'.cell? ⟨A, 2, none⟩ = some (.int .i64 x2) ∧ W'.cell? ⟨A, 3, none⟩ = some (.int .i64 x3) ∧ W'.cell? ⟨A, 4, none⟩ = some (.int .i64 x4) ∧ ES w W' A B h0 l0 c0 u0 m0 h1 l1 c1 u1 m1 x0 x1 x2 x3 x4 y0 y1 y2 y3 y4 := by subst hW; exact es_s (H.keep (Below.refl _ _).drew)
end
attribute [local go_sem] undef
theorem wi_twice (l n g : Int) (h : l ≤ g) : wi l (wi l n g) g = wi l n g := by unfold wi; omega
theorem wi_le (l n n' g : Int) (h : n ≤ n') : wi l n g ≤ wi l n' g := by unfold wi; omega

set_option maxRecDepth 100000 in
set_option maxHeartbeats 12800000 in
theorem walk (h0 l0 c0 u0 m0 : Int) (h1 l1 c1 u1 m1 : Int) (w : World)  :
    Calls Try.prog 4 #[.agg #[.int .i64 h0, .int .i64 l0, .int .i64 c0, .int .i64 u0, .int .i64 m0], .agg #[.int .i64 h1, .int .i64 l1, .int .i64 c1, .int .i64 u1, .int .i64 m1]] w fun e w' => e = .returned (.bool true) ∧ Below w.heap.size w w' := by
  obtain ⟨x0, hx0⟩ : ∃ x, wi 1 h0 100000 = x := ⟨_, rfl⟩
  obtain ⟨x1, hx1⟩ : ∃ x, wi (-100000) l0 0 = x := ⟨_, rfl⟩
  obtain ⟨x2, hx2⟩ : ∃ x, wi (-100000) c0 100000 = x := ⟨_, rfl⟩
  obtain ⟨x3, hx3⟩ : ∃ x, wi (-100000) u0 100000 = x := ⟨_, rfl⟩
  obtain ⟨x4, hx4⟩ : ∃ x, wi (-100000) m0 100000 = x := ⟨_, rfl⟩
  obtain ⟨y0, hy0⟩ : ∃ x, wi 1 h1 100000 = x := ⟨_, rfl⟩
  obtain ⟨y1, hy1⟩ : ∃ x, wi (-100000) l1 0 = x := ⟨_, rfl⟩
  obtain ⟨y2, hy2⟩ : ∃ x, wi (-100000) c1 100000 = x := ⟨_, rfl⟩
  obtain ⟨y3, hy3⟩ : ∃ x, wi (-100000) u1 100000 = x := ⟨_, rfl⟩
  obtain ⟨y4, hy4⟩ : ∃ x, wi (-100000) m1 100000 = x := ⟨_, rfl⟩
  have CX := Lib.hid (show Cl h0 l0 c0 u0 m0 x0 x1 x2 x3 x4 from ⟨hx0, hx1, hx2, hx3, hx4⟩)
  have CY := Lib.hid (show Cl h1 l1 c1 u1 m1 y0 y1 y2 y3 y4 from ⟨hy0, hy1, hy2, hy3, hy4⟩)
  have CA := Lib.hid (show Cl x0 x1 x2 x3 x4 x0 x1 x2 x3 x4 from by
    subst hx0; subst hx1; subst hx2; subst hx3; subst hx4
    exact ⟨wi_twice _ _ _ (by decide), wi_twice _ _ _ (by decide), wi_twice _ _ _ (by decide), wi_twice _ _ _ (by decide), wi_twice _ _ _ (by decide)⟩)
  have F0 : h0 ≤ h1 → x0 ≤ y0 := fun h => by rw [← hx0, ← hy0]; exact wi_le _ _ _ _ h
  have F1 : l0 ≤ l1 → x1 ≤ y1 := fun h => by rw [← hx1, ← hy1]; exact wi_le _ _ _ _ h
  have F2 : c0 ≤ c1 → x2 ≤ y2 := fun h => by rw [← hx2, ← hy2]; exact wi_le _ _ _ _ h
  have F3 : u0 ≤ u1 → x3 ≤ y3 := fun h => by rw [← hx3, ← hy3]; exact wi_le _ _ _ _ h
  have F4 : m0 ≤ m1 → x4 ≤ y4 := fun h => by rw [← hx4, ← hy4]; exact wi_le _ _ _ _ h
  have FF := Lib.hid (And.intro F0 (And.intro F1 (And.intro F2 (And.intro F3 F4))))
  clear F0 F1 F2 F3 F4 hx0 hx1 hx2 hx3 hx4 hy0 hy1 hy2 hy3 hy4
  go_enter Try.func4, Try.ntmps4
  go_upto_region 1 with (fail)
  go_cut [5, 6] from 5 to 10 (fun a b wx => ∃ A B : Nat, a = .pointer (some ⟨A, 0, none⟩) ∧ b = .pointer (some ⟨B, 0, none⟩) ∧ ES w wx A B h0 l0 c0 u0 m0 h1 l1 c1 u1 m1 x0 x1 x2 x3 x4 y0 y1 y2 y3 y4)
  case first =>
    go_region_held3 (fun W => W.cell? ⟨w.heap.size, 0, none⟩ = some (.int .i64 h0) ∧ W.cell? ⟨w.heap.size, 1, none⟩ = some (.int .i64 l0) ∧ W.cell? ⟨w.heap.size, 2, none⟩ = some (.int .i64 c0) ∧ W.cell? ⟨w.heap.size, 3, none⟩ = some (.int .i64 u0) ∧ W.cell? ⟨w.heap.size, 4, none⟩ = some (.int .i64 m0) ∧ W.cell? ⟨(w.heap.size + 1), 0, none⟩ = some (.int .i64 h1) ∧ W.cell? ⟨(w.heap.size + 1), 1, none⟩ = some (.int .i64 l1) ∧ W.cell? ⟨(w.heap.size + 1), 2, none⟩ = some (.int .i64 c1) ∧ W.cell? ⟨(w.heap.size + 1), 3, none⟩ = some (.int .i64 u1) ∧ W.cell? ⟨(w.heap.size + 1), 4, none⟩ = some (.int .i64 m1))
      (simp [go_sem])
      (first
        | (go_at_call 7; ((with_reducible refine (clamp_ex _ _ _ _ _ _ _ _ _ _ CX.out _).mono ?_); rintro e w3 ⟨rfl, rfl⟩))
        | (go_at_call 7; ((with_reducible refine (clamp_ex _ _ _ _ _ _ _ _ _ _ CY.out _).mono ?_); rintro e w3 ⟨rfl, rfl⟩)))
    all_goals
      go_wp2_with (fail)
      go_meet
      refine ⟨_, _, rfl, rfl, ⟨⟨?_, ?_, ?_, ?_, ?_⟩, ⟨?_, ?_, ?_, ?_, ?_⟩, ⟨?_, ?_, ?_, ?_, ?_⟩, ⟨?_, ?_, ?_, ?_, ?_⟩, ?_⟩⟩
      all_goals first
        | (simp [go_sem]; done)
        | (repeat (first | exact Below.refl _ _ | refine Below.drew ?_ | refine Below.alloc ?_ (by simp [World.size_alloc]; try omega) _))
  case rest =>
    obtain ⟨A, B, rfl, rfl, E⟩ := hcut
    go_upto_region 2 with (fail)
    go_cut [33] from 7 to 33 (fun v wx => v = .bool false ∧ ES w wx A B h0 l0 c0 u0 m0 h1 l1 c1 u1 m1 x0 x1 x2 x3 x4 y0 y1 y2 y3 y4)
    case first =>
      by_cases hm : Cl h0 l0 c0 u0 m0 h0 l0 c0 u0 m0
      · obtain ⟨e0, e1, e2, e3, e4⟩ := hm
        obtain ⟨d0, d1, d2, d3, d4⟩ := CX.out
        obtain rfl : x0 = h0 := d0.symm.trans e0
        obtain rfl : x1 = l0 := d1.symm.trans e1
        obtain rfl : x2 = c0 := d2.symm.trans e2
        obtain rfl : x3 = u0 := d3.symm.trans e3
        obtain rfl : x4 = m0 := d4.symm.trans e4
        clear d0 d1 d2 d3 d4 e0 e1 e2 e3 e4
        have HE := Lib.hid E
        have S0 := es_drew E
        go_region_held3 (fun W => W.cell? ⟨w.heap.size, 0, none⟩ = some (.int .i64 x0) ∧ W.cell? ⟨w.heap.size, 1, none⟩ = some (.int .i64 x1) ∧ W.cell? ⟨w.heap.size, 2, none⟩ = some (.int .i64 x2) ∧ W.cell? ⟨w.heap.size, 3, none⟩ = some (.int .i64 x3) ∧ W.cell? ⟨w.heap.size, 4, none⟩ = some (.int .i64 x4) ∧ W.cell? ⟨A, 0, none⟩ = some (.int .i64 x0) ∧ W.cell? ⟨A, 1, none⟩ = some (.int .i64 x1) ∧ W.cell? ⟨A, 2, none⟩ = some (.int .i64 x2) ∧ W.cell? ⟨A, 3, none⟩ = some (.int .i64 x3) ∧ W.cell? ⟨A, 4, none⟩ = some (.int .i64 x4) ∧ ES w W A B x0 x1 x2 x3 x4 h1 l1 c1 u1 m1 x0 x1 x2 x3 x4 y0 y1 y2 y3 y4)
          (first | exact S0 _ rfl | exact es_s ((es_of (by assumption)).keep hb))
          (first
            | (go_at_call 7; ((with_reducible refine (clamp_to _ _ _ _ _ _ _ _ _ _ CA.out _).mono ?_); rintro e w3 ⟨rfl, hb⟩))
            | (go_at_call 9; (first | (with_reducible refine (may_yes _ _ _ _ _ CA.out _).mono ?_) | (with_reducible refine (may_yes _ _ _ _ _ (by decide) _).mono ?_)); rintro e w3 ⟨rfl, hb⟩)
            | (go_at_call 10; ((with_reducible refine (off_any _).mono ?_); rintro e w3 ⟨rfl, hb⟩)))
        all_goals
          have E3 := es_of (by assumption)
          clear S0 HE E
          go_wp2_with (fail)
          go_meet
          exact ⟨rfl, E3⟩
      · have HM := Lib.hid hm
        have HE := Lib.hid E
        clear hm
        have S0 := es_drew E
        refine wp_region_held_drew (S := (fun W => W.cell? ⟨w.heap.size, 0, none⟩ = some (.int .i64 h0) ∧ W.cell? ⟨w.heap.size, 1, none⟩ = some (.int .i64 l0) ∧ W.cell? ⟨w.heap.size, 2, none⟩ = some (.int .i64 c0) ∧ W.cell? ⟨w.heap.size, 3, none⟩ = some (.int .i64 u0) ∧ W.cell? ⟨w.heap.size, 4, none⟩ = some (.int .i64 m0) ∧ W.cell? ⟨A, 0, none⟩ = some (.int .i64 x0) ∧ W.cell? ⟨A, 1, none⟩ = some (.int .i64 x1) ∧ W.cell? ⟨A, 2, none⟩ = some (.int .i64 x2) ∧ W.cell? ⟨A, 3, none⟩ = some (.int .i64 x3) ∧ W.cell? ⟨A, 4, none⟩ = some (.int .i64 x4) ∧ ES w W A B h0 l0 c0 u0 m0 h1 l1 c1 u1 m1 x0 x1 x2 x3 x4 y0 y1 y2 y3 y4)) (by kernel_rfl) (S0 _ rfl) (fun hHeld => ?_)
        refine wpAnyH_take (i := 0) (v := ?_) rfl (by kernel_rfl) (by kernel_rfl) (by kernel_rfl) (fun _ _ _ h => h) (Or.inl ⟨by rfl, ?_⟩) hHeld ?_
        rotate_left
        · (intro wS hSw; (try dsimp only at hSw); (try go_split_ands); go_simp; try with_reducible rfl)
        try simp only [List.getElem_toArray, List.getElem_cons_succ, List.getElem_cons_zero, Act.put, List.setIfInBounds_toArray, List.set_cons_zero, List.set_cons_succ]
        refine wpAnyH_ready (rs := [1]) (by kernel_rfl) (by simp) ?_
        refine AllReadyH.cons rfl (fun K hK => ?_) AllReadyH.nil
        go_simp
        (go_at_call 9; ((with_reducible refine (may_yes _ _ _ _ _ CA.out _).mono ?_); rintro e w3 ⟨rfl, hb⟩))
        refine hK.out _ _ ?_ (fun hNext => ?_)
        · exact es_s ((es_of hHeld).keep hb)
        clear hK K hHeld
        have hHeld := hNext
        clear hNext
        try simp only [List.getElem_toArray, List.getElem_cons_succ, List.getElem_cons_zero, Act.put, List.setIfInBounds_toArray, List.set_cons_zero, List.set_cons_succ]
        refine wpAnyH_take (i := 2) (v := ?_) rfl (by kernel_rfl) (by kernel_rfl) (by kernel_rfl) (fun _ _ _ h => h) (Or.inl ⟨by rfl, ?_⟩) hHeld ?_
        rotate_left
        · (intro wS hSw; (try dsimp only at hSw); (try go_split_ands); go_simp; try with_reducible rfl)
        try simp only [List.getElem_toArray, List.getElem_cons_succ, List.getElem_cons_zero, Act.put, List.setIfInBounds_toArray, List.set_cons_zero, List.set_cons_succ]
        refine wpAnyH_take (i := 3) (v := ?_) rfl (by kernel_rfl) (by kernel_rfl) (by kernel_rfl) (fun _ _ _ h => h) (Or.inl ⟨by rfl, ?_⟩) hHeld ?_
        rotate_left
        · (intro wS hSw; (try dsimp only at hSw); (try go_split_ands); go_simp; try with_reducible rfl)
        try simp only [List.getElem_toArray, List.getElem_cons_succ, List.getElem_cons_zero, Act.put, List.setIfInBounds_toArray, List.set_cons_zero, List.set_cons_succ]
        refine wpAnyH_take (i := 4) (v := ?_) rfl (by kernel_rfl) (by kernel_rfl) (by kernel_rfl) (fun _ _ _ h => h) (Or.inl ⟨by rfl, ?_⟩) hHeld ?_
        rotate_left
        · (intro wS hSw; (try dsimp only at hSw); (try go_split_ands); go_simp; try with_reducible rfl)
        try simp only [List.getElem_toArray, List.getElem_cons_succ, List.getElem_cons_zero, Act.put, List.setIfInBounds_toArray, List.set_cons_zero, List.set_cons_succ]
        refine wpAnyH_take (i := 6) (v := ?_) rfl (by kernel_rfl) (by kernel_rfl) (by kernel_rfl) (fun _ _ _ h => h) (Or.inl ⟨by rfl, ?_⟩) hHeld ?_
        rotate_left
        · (intro wS hSw; (try dsimp only at hSw); (try go_split_ands); go_simp; try with_reducible rfl)
        try simp only [List.getElem_toArray, List.getElem_cons_succ, List.getElem_cons_zero, Act.put, List.setIfInBounds_toArray, List.set_cons_zero, List.set_cons_succ]
        refine wpAnyH_ready (rs := [5]) (by kernel_rfl) (by simp) ?_
        refine AllReadyH.cons rfl (fun K hK => ?_) AllReadyH.nil
        go_simp
        (go_at_call 7; ((with_reducible refine (clamp_to _ _ _ _ _ _ _ _ _ _ CA.out _).mono ?_); rintro e w3 ⟨rfl, hb⟩))
        refine hK.out _ _ ?_ (fun hNext => ?_)
        · exact es_s ((es_of hHeld).keep hb)
        clear hK K hHeld
        have hHeld := hNext
        clear hNext
        try simp only [List.getElem_toArray, List.getElem_cons_succ, List.getElem_cons_zero, Act.put, List.setIfInBounds_toArray, List.set_cons_zero, List.set_cons_succ]
        refine wpAnyH_take (i := 7) (v := ?_) rfl (by kernel_rfl) (by kernel_rfl) (by kernel_rfl) (fun _ _ _ h => h) (Or.inl ⟨by rfl, ?_⟩) hHeld ?_
        rotate_left
        · (intro wS hSw; (try dsimp only at hSw); (try go_split_ands); go_simp; try with_reducible rfl)
        try simp only [List.getElem_toArray, List.getElem_cons_succ, List.getElem_cons_zero, Act.put, List.setIfInBounds_toArray, List.set_cons_zero, List.set_cons_succ]
        refine wpAnyH_take (i := 8) (v := ?_) rfl (by kernel_rfl) (by kernel_rfl) (by kernel_rfl) (fun _ _ _ h => h) (Or.inl ⟨by rfl, ?_⟩) hHeld ?_
        rotate_left
        · (intro wS hSw; (try dsimp only at hSw); (try go_split_ands); go_simp; try with_reducible rfl)
        try simp only [List.getElem_toArray, List.getElem_cons_succ, List.getElem_cons_zero, Act.put, List.setIfInBounds_toArray, List.set_cons_zero, List.set_cons_succ]
        refine wpAnyH_take (i := 9) (v := ?_) rfl (by kernel_rfl) (by kernel_rfl) (by kernel_rfl) (fun _ _ _ h => h) (Or.inl ⟨by rfl, ?_⟩) hHeld ?_
        rotate_left
        · (intro wS hSw; (try dsimp only at hSw); (try go_split_ands); go_simp; try with_reducible rfl)
        try simp only [List.getElem_toArray, List.getElem_cons_succ, List.getElem_cons_zero, Act.put, List.setIfInBounds_toArray, List.set_cons_zero, List.set_cons_succ]
        refine wpAnyH_take (i := 10) (v := ?_) rfl (by kernel_rfl) (by kernel_rfl) (by kernel_rfl) (fun _ _ _ h => h) (Or.inl ⟨by rfl, ?_⟩) hHeld ?_
        rotate_left
        · (intro wS hSw; (try dsimp only at hSw); (try go_split_ands); go_simp; try with_reducible rfl)
        try simp only [List.getElem_toArray, List.getElem_cons_succ, List.getElem_cons_zero, Act.put, List.setIfInBounds_toArray, List.set_cons_zero, List.set_cons_succ]
        refine wpAnyH_ready (rs := [11]) (by kernel_rfl) (by simp) ?_
        refine AllReadyH.cons rfl (fun K hK => ?_) AllReadyH.nil
        go_simp
        (go_at_call 9; ((with_reducible refine (may_not _ _ _ _ _ HM.out _).mono ?_); rintro e w3 ⟨rfl, hb⟩))
        refine hK.out _ _ ?_ (fun hNext => ?_)
        · exact es_s ((es_of hHeld).keep hb)
        clear hK K hHeld
        have hHeld := hNext
        clear hNext
        try simp only [List.getElem_toArray, List.getElem_cons_succ, List.getElem_cons_zero, Act.put, List.setIfInBounds_toArray, List.set_cons_zero, List.set_cons_succ]
        refine wpAnyH_take (i := 12) (v := ?_) rfl (by kernel_rfl) (by kernel_rfl) (by kernel_rfl) (fun _ _ _ h => h) (Or.inl ⟨by rfl, ?_⟩) hHeld ?_
        rotate_left
        · (intro wS hSw; (try dsimp only at hSw); (try go_split_ands); go_simp; try with_reducible rfl)
        try simp only [List.getElem_toArray, List.getElem_cons_succ, List.getElem_cons_zero, Act.put, List.setIfInBounds_toArray, List.set_cons_zero, List.set_cons_succ]
        refine wpAnyH_take (i := 13) (v := undef) rfl (by kernel_rfl) (by kernel_rfl) (by kernel_rfl) (fun _ _ _ h => h) (Or.inr ⟨by rfl, rfl⟩) hHeld ?_
        try simp only [List.getElem_toArray, List.getElem_cons_succ, List.getElem_cons_zero, Act.put, List.setIfInBounds_toArray, List.set_cons_zero, List.set_cons_succ]
        refine wpAnyH_take (i := 14) (v := undef) rfl (by kernel_rfl) (by kernel_rfl) (by kernel_rfl) (fun _ _ _ h => h) (Or.inr ⟨by rfl, rfl⟩) hHeld ?_
        try simp only [List.getElem_toArray, List.getElem_cons_succ, List.getElem_cons_zero, Act.put, List.setIfInBounds_toArray, List.set_cons_zero, List.set_cons_succ]
        refine wpAnyH_take (i := 15) (v := undef) rfl (by kernel_rfl) (by kernel_rfl) (by kernel_rfl) (fun _ _ _ h => h) (Or.inr ⟨by rfl, rfl⟩) hHeld ?_
        try simp only [List.getElem_toArray, List.getElem_cons_succ, List.getElem_cons_zero, Act.put, List.setIfInBounds_toArray, List.set_cons_zero, List.set_cons_succ]
        refine wpAnyH_take (i := 16) (v := ?_) rfl (by kernel_rfl) (by kernel_rfl) (by kernel_rfl) (fun _ _ _ h => h) (Or.inl ⟨by rfl, ?_⟩) hHeld ?_
        rotate_left
        · (intro wS hSw; (try dsimp only at hSw); (try go_split_ands); go_simp; try with_reducible rfl)
        try simp only [List.getElem_toArray, List.getElem_cons_succ, List.getElem_cons_zero, Act.put, List.setIfInBounds_toArray, List.set_cons_zero, List.set_cons_succ]
        refine wpAnyH_take (i := 17) (v := ?_) rfl (by kernel_rfl) (by kernel_rfl) (by kernel_rfl) (fun _ _ _ h => h) (Or.inl ⟨by rfl, ?_⟩) hHeld ?_
        rotate_left
        · (intro wS hSw; (try dsimp only at hSw); (try go_split_ands); go_simp; try with_reducible rfl)
        try simp only [List.getElem_toArray, List.getElem_cons_succ, List.getElem_cons_zero, Act.put, List.setIfInBounds_toArray, List.set_cons_zero, List.set_cons_succ]
        refine wpAnyH_take (i := 18) (v := ?_) rfl (by kernel_rfl) (by kernel_rfl) (by kernel_rfl) (fun _ _ _ h => h) (Or.inl ⟨by rfl, ?_⟩) hHeld ?_
        rotate_left
        · (intro wS hSw; (try dsimp only at hSw); (try go_split_ands); go_simp; try with_reducible rfl)
        try simp only [List.getElem_toArray, List.getElem_cons_succ, List.getElem_cons_zero, Act.put, List.setIfInBounds_toArray, List.set_cons_zero, List.set_cons_succ]
        refine wpAnyH_ready (rs := [19]) (by kernel_rfl) (by simp) ?_
        refine AllReadyH.cons rfl (fun K hK => ?_) AllReadyH.nil
        go_simp
        (go_at_call 10; ((with_reducible refine (off_any _).mono ?_); rintro e w3 ⟨rfl, hb⟩))
        refine hK.out _ _ ?_ (fun hNext => ?_)
        · exact es_s ((es_of hHeld).keep hb)
        clear hK K hHeld
        have hHeld := hNext
        clear hNext
        try simp only [List.getElem_toArray, List.getElem_cons_succ, List.getElem_cons_zero, Act.put, List.setIfInBounds_toArray, List.set_cons_zero, List.set_cons_succ]
        refine wpAnyH_ready (rs := [20]) (by kernel_rfl) (by simp) ?_
        refine AllReadyH.cons rfl (fun K hK => ?_) AllReadyH.nil
        go_simp
        (go_at_call 9; ((with_reducible refine (may_yes _ _ _ _ _ (by decide) _).mono ?_); rintro e w3 ⟨rfl, hb⟩))
        refine hK.out _ _ ?_ (fun hNext => ?_)
        · exact es_s ((es_of hHeld).keep hb)
        clear hK K hHeld
        have hHeld := hNext
        clear hNext
        try simp only [List.getElem_toArray, List.getElem_cons_succ, List.getElem_cons_zero, Act.put, List.setIfInBounds_toArray, List.set_cons_zero, List.set_cons_succ]
        refine wpAnyH_take (i := 21) (v := ?_) rfl (by kernel_rfl) (by kernel_rfl) (by kernel_rfl) (fun _ _ _ h => h) (Or.inl ⟨by rfl, ?_⟩) hHeld ?_
        rotate_left
        · (intro wS hSw; (try dsimp only at hSw); (try go_split_ands); go_simp; try with_reducible rfl)
        try simp only [List.getElem_toArray, List.getElem_cons_succ, List.getElem_cons_zero, Act.put, List.setIfInBounds_toArray, List.set_cons_zero, List.set_cons_succ]
        refine wpAnyH_take (i := 22) (v := ?_) rfl (by kernel_rfl) (by kernel_rfl) (by kernel_rfl) (fun _ _ _ h => h) (Or.inl ⟨by rfl, ?_⟩) hHeld ?_
        rotate_left
        · (intro wS hSw; (try dsimp only at hSw); (try go_split_ands); go_simp; try with_reducible rfl)
        try simp only [List.getElem_toArray, List.getElem_cons_succ, List.getElem_cons_zero, Act.put, List.setIfInBounds_toArray, List.set_cons_zero, List.set_cons_succ]
        refine wpAnyH_done (by kernel_rfl) ?_ _
        all_goals
          have E3 := es_of (by assumption)
          clear S0 HE E
          go_wp2_with (fail)
          go_meet
          exact ⟨rfl, E3⟩
    case rest =>
      obtain ⟨rfl, E3⟩ := hcut
      obtain ⟨⟨gp0, gp1, gp2, gp3, gp4⟩, ⟨gq0, gq1, gq2, gq3, gq4⟩, ⟨ga0, ga1, ga2, ga3, ga4⟩, ⟨gy0, gy1, gy2, gy3, gy4⟩, gb⟩ := E3
      have GB := Lib.hid gb
      clear gb
      go_upto_region 4 with (fail)
      go_step
      refine pair_true (k := 0) (s := 33) (g := none) (d := 0) (j2 := 5) (N := 105) (fieldAt0 _) ⟨by rfl, T.mk (by rfl), T.mk (by rfl), T.mk (by rfl), T.mk (by rfl), by rfl⟩ (by decide) (by decide) (.inl rfl) (by decide) rfl gp0 gq0 ga0 gy0 FF.out.1 ?_
      intro a1 F1 T1 _
      refine group_true (k := 1) (s := 46) (r := 45) (o := 12) (j2 := 18) (fieldAt1 _) F1 (by decide) (by decide) T1 rfl rfl gp1 gq1 ga1 gy1 FF.out.2.1 ?_
      intro a2 F2 T2
      refine group_true (k := 2) (s := 60) (r := 59) (o := 26) (j2 := 32) (fieldAt2 _) F2 (by decide) (by decide) T2 rfl rfl gp2 gq2 ga2 gy2 FF.out.2.2.1 ?_
      intro a3 F3 T3
      refine group_true (k := 3) (s := 74) (r := 73) (o := 40) (j2 := 46) (fieldAt3 _) F3 (by decide) (by decide) T3 rfl rfl gp3 gq3 ga3 gy3 FF.out.2.2.2.1 ?_
      intro a4 F4 T4
      refine group_true (k := 4) (s := 88) (r := 87) (o := 54) (j2 := 60) (fieldAt4 _) F4 (by decide) (by decide) T4 rfl rfl gp4 gq4 ga4 gy4 FF.out.2.2.2.2 ?_
      intro a5 F5 T5
      refine st_val F5 (i := 102) (by decide) (by decide) (Wt.yes (d := 0) (.inl rfl)) (ex_move T5.ev) rfl ?_
      intro a6 F6 T6 _
      refine st_call (Wt.yes (d := 102) (.inr ⟨_, _, rfl, rfl, T6⟩)) (by simp [go_sem]) (awake_any _) ?_
      intro w4 hb4
      have F7 : Fs (a6.put (some 103) (.bool true)) 105 w.heap.size (w.heap.size + 1) A B := F6.put (by decide)
      have T7 : T (a6.put (some 103) (.bool true)) 103 (.bool true) := T.eq (by rw [F6.sz]; decide)
      have T67 : T (a6.put (some 103) (.bool true)) 102 (.bool true) := T6.ne (by decide)
      refine st_val F7 (i := 104) (by decide) (by decide) (Wt.yes (d := 0) (.inl rfl)) (ex_pick (b := true) T67.ev T7.ev rfl) rfl ?_
      intro a8 F8 T8 _
      refine wl_val (Wt.yes (d := 0) (.inl rfl)) (ex_assign T8.ev) ?_
      have T9 : T (a8.put (some 4) (.bool true)) 4 (.bool true) := T.eq (by rw [F8.sz]; decide)
      have D9 : (a8.put (some 4) (.bool true)).defers = [] := F8.df
      go_wp2_with (fail)
      exact bodyPost_ret (v := .bool true) ((results_tmp (t := 4) (by kernel_rfl) _ _ _).trans (congrArg (fun v => Result.ok v w4) T9.ev)) D9 ⟨rfl, bst GB.out hb4⟩

set_option maxRecDepth 100000 in
theorem lifted (os : Os) (started : os.Started) (H : Type) (enc : TypeId × Value → H) :
    ReturnsInHanded {} Try.checked os 4 .any (Rows.policyStaysSpec.pre6 enc Try.prog Try.f4 Rows.policyStaysRow.domain false) (Rows.policyStaysSpec.post enc Try.prog Try.f4 false true false false) := by
  refine returnsInHanded_of_change (C := Try.checked) own started (by kernel_rfl) Try.func4
    (ChangeSpec.witness6 (enc := enc) (C := Try.checked) false ⟨#[], #[.agg #[.int .i64 0, .int .i64 0, .int .i64 0, .int .i64 0, .int .i64 0], .agg #[.int .i64 0, .int .i64 0, .int .i64 0, .int .i64 0, .int .i64 0]], []⟩ 8 (by kernel_rfl) (by kernel_rfl) (by kernel_rfl) (by kernel_rfl)) ?_
  intro W base args ds gs before hval0 hW hcnd _
  have hval : ∀ (j : Nat) t v, Try.f4.params[j]? = some t → args[j]? = some v → Value.okWide Try.prog W .any base t v := hval0
  have hW' := hW
  obtain ⟨p, q, hA0, hV, rfl, hfz, hnd⟩ := hW
  have hA : DataW.TrodAll enc Try.prog W 0 (fun _ => true) true Try.f4.params.toList args.toList ds p := hA0
  rw [Try.params4] at hA hval
  obtain ⟨v0, vs0, d0, ds0, p0, q0, hargs, rfl, rfl, h0, r0⟩ := trodAll_cons hA
  obtain ⟨v1, vs1, d1, ds1, p1, q1, rfl, rfl, rfl, h1, r1⟩ := trodAll_cons r0
  obtain ⟨rfl, rfl, rfl⟩ := trodAll_nil r1
  obtain rfl : args = #[v0, v1] := by cases args; simp_all
  obtain ⟨rfl, rfl⟩ := trodVars_none hV
  have k0 := h0
  have lt0 : ∀ x ∈ p0, x.block < W.heap.size := by obtain ⟨m, hm⟩ := k0; exact DataW.trod_lt m _ _ _ hm
  obtain ⟨u0, rfl, _⟩ := okWide_struct Try.underlying23 (hval 0 23 v0 rfl rfl)
  obtain ⟨h0_, l0_, c0_, u0_, m0_, e0⟩ := fields_pol (enc := enc) (w := W) (cs := u0.toList) (fuel := h0.choose) (by simpa [Value.cells] using h0.choose_spec)
  obtain rfl : u0 = #[.int .i64 h0_, .int .i64 l0_, .int .i64 c0_, .int .i64 u0_, .int .i64 m0_] := by cases u0; simp_all
  have k1 := h1
  have lt1 : ∀ x ∈ p1, x.block < W.heap.size := by obtain ⟨m, hm⟩ := k1; exact DataW.trod_lt m _ _ _ hm
  obtain ⟨u1, rfl, _⟩ := okWide_struct Try.underlying23 (hval 1 23 v1 rfl rfl)
  obtain ⟨h1_, l1_, c1_, u1_, m1_, e1⟩ := fields_pol (enc := enc) (w := W) (cs := u1.toList) (fuel := h1.choose) (by simpa [Value.cells] using h1.choose_spec)
  obtain rfl : u1 = #[.int .i64 h1_, .int .i64 l1_, .int .i64 c1_, .int .i64 u1_, .int .i64 m1_] := by cases u1; simp_all
  clear hA0 hval0
  refine (walk h0_ l0_ c0_ u0_ m0_ h1_ l1_ c1_ u1_ m1_ W ).mono fun e W' ⟨he, bel⟩ => ?_
  subst he
  exact ⟨_, rfl, _, _, _, [], _, [], hW', trodAll_mk1 (shut_bool Try.underlying4 _), (trodAll_cons_mk (Below.trod laidOut (by kernel_rfl) (of_decide_eq_true (by kernel_rfl)) k0 bel lt0) (trodAll_cons_mk (Below.trod laidOut (by kernel_rfl) (of_decide_eq_true (by kernel_rfl)) k1 bel lt1) trodAll_mk0)), rfl, bel.frame _, fun h => by cases h⟩

theorem over : Rows.policyStaysRow.holds Try.pinned (OpenSpec.ofChange Rows.policyStaysSpec) :=
  OpenClaim.holds_of_wide 4 Try.f4 rfl rfl rfl rfl rfl rfl rfl ⟨rfl, rfl, rfl, rfl, rfl⟩ rfl rfl rfl rfl rfl (by kernel_rfl) Try.func4 (by kernel_rfl)
    (of_decide_eq_true (by kernel_rfl)) (by unfold Func.isWrapper; first | (rw [if_pos (by decide +kernel)]; kernel_rfl) | (rw [if_neg (by decide +kernel)]; exact ⟨rfl, rfl⟩))
    (fun os started H enc _ => lifted os started H enc)

theorem policyStaysHolds : Rows.PolicyStaysSaid := over
#print axioms policyStaysHolds
end Go.Proofs.Ytndlnekibfcjnaa.policyStays
