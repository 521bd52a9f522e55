/- Contracts of package look: lower, plus, Size, High, Get. -/
import Derived.Test.YtmbeaefgakfbnaaLk0
namespace Go.Proofs.Ytmbeaefgakfbnaa
open Go.RowKit
set_option linter.all false

/-- What node.Get answers over these items, as long as nothing older turns. -/
def Gets (ao : Option Addr) (L : List It) (w : World) : Prop := ∀ W, Below w.heap.size w W → ∀ id : Int,
  Calls Try.prog 26 #[.pointer ao, .int .i64 id] W fun e w' =>
    e = .returned (.tuple #[.agg #[.int .i64 (nv L id 0), .int .i64 (nv L id 1), .int .i64 (nv L id 2), .int .i64 (nv L id 3), .int .i64 (nv L id 4), .int .i64 (nv L id 5)], .bool (kindL L id == 1)]) ∧ Below W.heap.size W w'
theorem Gets.later {ao : Option Addr} {L : List It} {w W : World} (h : Gets ao L w) (hb : Below w.heap.size w W) : Gets ao L W := fun W' hb' => h W' (hb.trans (hb'.mono hb.size))
theorem Gets.ofArena {w : World} {p : Nat} {F : Nat → Prop} {room st : Int} {L : List It} (h : Arena w p F room st L) : Gets (some ⟨p, 0, none⟩) L w := by
  intro W hb id
  by_cases hk : kindL L id = 1
  · refine (get_yes id W p F room st L (h.below hb) hk).mono fun e w' hh => ?_
    rw [nv_yes hk, nv_yes hk, nv_yes hk, nv_yes hk, nv_yes hk, nv_yes hk, show (kindL L id == 1) = true from by rw [hk]; rfl]
    exact hh
  · refine (get_no id W p F room st L (h.below hb) hk).mono fun e w' hh => ?_
    rw [nv_no hk, nv_no hk, nv_no hk, nv_no hk, nv_no hk, nv_no hk, show (kindL L id == 1) = false from by simpa using hk]
    exact hh
theorem Gets.nil (w : World) : Gets none [] w := by
  intro W hb id
  have hk : kindL [] id = 0 := by unfold kindL itemAt; split <;> simp
  refine (get_nil id W).mono fun e w' hh => ?_
  rw [nv_no (by omega), nv_no (by omega), nv_no (by omega), nv_no (by omega), nv_no (by omega), nv_no (by omega), show (kindL [] id == 1) = false from by rw [hk]; rfl]
  exact hh

/-! ### lower, plus -/

theorem lower_any (t c d : Int) (w : World) (hd : downL [] t c = d) :
    Calls Try.prog 29 #[.int .i64 t, .int .i64 c] w fun e w' => e = .returned (.int .i64 d) ∧ w = w' := by
  subst hd
  unfold downL
  by_cases h : c < t
  · rw [if_pos h]
    go_enter Try.func29, Try.ntmps29
    go_wp2
    go_ret
    exact ⟨rfl, rfl⟩
  · rw [if_neg h]
    go_enter Try.func29, Try.ntmps29
    go_wp2
    go_ret
    exact ⟨rfl, rfl⟩
theorem downL_any (L M : List It) (t c : Int) : downL L t c = downL M t c := rfl

/-! ### Size, High -/

set_option maxHeartbeats 1600000 in
theorem size_any {ao : Option Addr} {L : List It} (t d : Int) (w : World) (hg : Gets ao L w) (hd : nv L t 4 = d) :
    Calls Try.prog 21 #[.pointer ao, .int .i64 t] w fun e w' => e = .returned (.int .i64 d) ∧ Below w.heap.size w w' := by
  have cg := hg w (Below.refl _ _) t
  rw [hd] at cg
  obtain ⟨n0, h0⟩ : ∃ n, nv L t 0 = n := ⟨_, rfl⟩
  obtain ⟨n1, h1⟩ : ∃ n, nv L t 1 = n := ⟨_, rfl⟩
  obtain ⟨n2, h2⟩ : ∃ n, nv L t 2 = n := ⟨_, rfl⟩
  obtain ⟨n3, h3⟩ : ∃ n, nv L t 3 = n := ⟨_, rfl⟩
  obtain ⟨n5, h5⟩ : ∃ n, nv L t 5 = n := ⟨_, rfl⟩
  rw [h0, h1, h2, h3, h5] at cg
  clear hg hd h0 h1 h2 h3 h5
  go_enter Try.func21, Try.ntmps21
  go_wp2_with (go_at_call 26; ((with_reducible refine cg.mono ?_); clear cg; rintro e w1 ⟨rfl, hb⟩))
  go_ret
  exact ⟨rfl, hb.alloc hb.size _⟩
end Go.Proofs.Ytmbeaefgakfbnaa
