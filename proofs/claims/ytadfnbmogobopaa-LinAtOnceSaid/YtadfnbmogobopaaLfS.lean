/- leaf.SameAns and osierref1.SameAns on any two answers. No condition: lemmas. -/
import Derived.Test.YtadfnbmogobopaaLfF
namespace Go.Proofs.Ytadfnbmogobopaa
open Go.RowKit
set_option linter.all false

/-- Alike in all. -/
def AdEq (d e : Ad) : Prop := d.err = e.err ∧ d.ok = e.ok ∧ (d.k = e.k ∧ d.v = e.v) ∧ d.n = e.n ∧ d.ps = e.ps
instance adEqDec (d e : Ad) : Decidable (AdEq d e) := by unfold AdEq; infer_instance
theorem AdEq.refl (d : Ad) : AdEq d d := ⟨rfl, rfl, ⟨rfl, rfl⟩, rfl, rfl⟩

set_option maxHeartbeats 3200000 in
theorem lsame_ans (d1 d2 : Ad) (a1 a2 : Option Addr) (c1 c2 : Nat) (w : World) (h1 : Prs w a1 c1 d1.ps) (h2 : Prs w a2 c2 d2.ps) (B : Bool) (hB : decide (AdEq d1 d2) = B) :
    Calls Try.prog 36 #[d1.val a1 c1, d2.val a2 c2] w fun e w' => e = .returned (.bool B) ∧ Below w.heap.size w w' := by
  obtain ⟨e, o, k, v, n, p⟩ := d1
  obtain ⟨e', o', k', v', n', p'⟩ := d2
  unfold AdEq at hB
  unfold Ad.val
  dsimp only at hB h1 h2 ⊢
  have ba : Below w.heap.size w ((w.alloc (.cells #[.int .i64 e, .bool o, .int .i64 k, .int .i64 v, .int .i64 n, .slice a1 p.length c1] 34)).alloc (.cells #[.int .i64 e', .bool o', .int .i64 k', .int .i64 v', .int .i64 n', .slice a2 p'.length c2] 34)) := ((Below.refl _ _).alloc (Nat.le_refl _) _).alloc (by simp) _
  by_cases x1 : e = e'
  rotate_left
  · have hBt : B = false := by rw [← hB]; exact decide_eq_false (fun h => x1 h.1)
    subst hBt
    have y1 : (e == e') = false := by simpa using x1
    clear hB x1 h1 h2
    go_enter Try.func36, Try.ntmps36
    go_wp2_with (fail)
    go_ret
    exact ⟨rfl, ba⟩
  subst x1
  by_cases x2 : o = o'
  rotate_left
  · have hBt : B = false := by rw [← hB]; exact decide_eq_false (fun h => x2 h.2.1)
    subst hBt
    have y2 : (o == o') = false := by simpa using x2
    clear hB h1 h2
    go_enter Try.func36, Try.ntmps36
    go_wp2_with (fail)
    go_ret
    exact ⟨rfl, ba⟩
  subst x2
  by_cases x3 : k = k'
  rotate_left
  · have hBt : B = false := by rw [← hB]; exact decide_eq_false (fun h => x3 h.2.2.1.1)
    subst hBt
    have y3 : (k == k') = false := by simpa using x3
    have z3 : ¬ k' = k := fun e => x3 e.symm
    clear hB h1 h2
    go_enter Try.func36, Try.ntmps36
    go_wp2_with (fail)
    go_ret
    exact ⟨rfl, ba⟩
  subst x3
  by_cases x4 : v = v'
  rotate_left
  · have hBt : B = false := by rw [← hB]; exact decide_eq_false (fun h => x4 h.2.2.1.2)
    subst hBt
    have y4 : (v == v') = false := by simpa using x4
    have z4 : ¬ v' = v := fun e => x4 e.symm
    clear hB h1 h2
    go_enter Try.func36, Try.ntmps36
    go_wp2_with (fail)
    go_ret
    exact ⟨rfl, ba⟩
  subst x4
  by_cases x5 : n = n'
  rotate_left
  · have hBt : B = false := by rw [← hB]; exact decide_eq_false (fun h => x5 h.2.2.2.1)
    subst hBt
    have y5 : (n == n') = false := by simpa using x5
    clear hB x5 h1 h2
    go_enter Try.func36, Try.ntmps36
    go_wp2_with (fail)
    go_ret
    exact ⟨rfl, ba⟩
  subst x5
  have cs := fun W h h' => lsame_any a1 a2 c1 c2 p p' W h h' B (by rw [← hB]; exact decide_eq_decide.2 ⟨fun h => ⟨rfl, rfl, ⟨rfl, rfl⟩, rfl, h⟩, fun h => h.2.2.2.2⟩)
  clear hB
  go_enter Try.func36, Try.ntmps36
  go_wp2_with (go_at_call 51; ((with_reducible refine (cs _ (h1.below ba) (h2.below ba)).mono ?_); rintro e w2 ⟨rfl, hb2⟩))
  go_ret
  exact ⟨rfl, ba.trans (hb2.mono ba.size)⟩

end Go.Proofs.Ytadfnbmogobopaa
