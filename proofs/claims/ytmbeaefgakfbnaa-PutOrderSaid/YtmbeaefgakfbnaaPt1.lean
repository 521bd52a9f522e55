/- Contracts of package put: counted, at, isTreap, madeOf. -/
import Derived.Test.YtmbeaefgakfbnaaTr
import Derived.Test.YtmbeaefgakfbnaaLk5
import Derived.Test.YtmbeaefgakfbnaaNTreeS
namespace Go.Proofs.Ytmbeaefgakfbnaa
open Go.RowKit
set_option linter.all false

section
variable {w : World} {p : Nat} {F : Nat → Prop} {room st : Int} {L : List It}

/-- counted of what may hang. -/
theorem counted_node (h : Arena w p F room st L) (t c : Int) (hk : kindL L c = 1) (hlt : c < t) :
    Calls Try.prog 42 #[.pointer (some ⟨p, 0, none⟩), .int .i64 t, .int .i64 c] w fun e w' => e = .returned (.int .i64 c) ∧ Below w.heap.size w w' := by
  have cg := get_yes c w p F room st L h hk
  have hd : decide (c < t) = true := decide_eq_true hlt
  clear hk h hlt
  go_enter Try.func42, Try.ntmps42
  go_wp2_with (go_at_call 26; ((with_reducible refine cg.mono ?_); clear cg; rintro e w2 ⟨rfl, hb⟩))
  go_ret
  exact ⟨rfl, hb.alloc hb.size _⟩
theorem counted_zero (h : Arena w p F room st L) (t : Int) :
    Calls Try.prog 42 #[.pointer (some ⟨p, 0, none⟩), .int .i64 t, .int .i64 0] w fun e w' => e = .returned (.int .i64 0) ∧ Below w.heap.size w w' := by
  have cg := get_no 0 w p F room st L h (by rw [kindL_zero L 0 (by decide)]; decide)
  clear h
  go_enter Try.func42, Try.ntmps42
  go_wp2_with (go_at_call 26; ((with_reducible refine cg.mono ?_); clear cg; rintro e w2 ⟨rfl, hb⟩))
  go_ret
  exact ⟨rfl, hb.alloc hb.size _⟩
theorem counted_ok (h : Arena w p F room st L) (t c : Int) (hk : HungOk L c) (hlt : c < t ∨ c = 0) :
    Calls Try.prog 42 #[.pointer (some ⟨p, 0, none⟩), .int .i64 t, .int .i64 c] w fun e w' => e = .returned (.int .i64 c) ∧ Below w.heap.size w w' := by
  by_cases hc : c = 0
  · subst hc; exact counted_zero h t
  · exact counted_node h t c (hk.resolve_left hc) (hlt.resolve_right hc)

/-- isTreap of nothing, of a node, of what is neither. -/
theorem isTreap_is (h : Arena w p F room st L) (t : Int) (b : Bool) (hb : b = true ↔ HungOk L t) :
    Calls Try.prog 24 #[.pointer (some ⟨p, 0, none⟩), .int .i64 t] w fun e w' => e = .returned (.bool b) ∧ Below w.heap.size w w' := by
  by_cases hk : kindL L t = 1
  · obtain rfl : b = true := hb.2 (.inr hk)
    have cg := get_yes t w p F room st L h hk
    clear h hb hk
    go_enter Try.func24, Try.ntmps24
    go_wp2_with (go_at_call 26; ((with_reducible refine cg.mono ?_); clear cg; rintro e w2 ⟨rfl, hb⟩))
    go_ret
    exact ⟨rfl, hb.alloc hb.size _⟩
  · have cg := get_no t w p F room st L h hk
    by_cases ht : t = 0
    · obtain rfl : b = true := hb.2 (.inl ht)
      subst ht
      clear h hb hk
      go_enter Try.func24, Try.ntmps24
      go_wp2_with (go_at_call 26; ((with_reducible refine cg.mono ?_); clear cg; rintro e w2 ⟨rfl, hb⟩))
      go_ret
      exact ⟨rfl, hb.alloc hb.size _⟩
    · obtain rfl : b = false := by
        cases b
        · rfl
        · exact ((hb.1 rfl).elim (fun e => absurd e ht) (fun e => absurd e hk))
      have h0 : (t == 0) = false := by simp [ht]
      clear h hb hk ht
      go_enter Try.func24, Try.ntmps24
      go_wp2_with (go_at_call 26; ((with_reducible refine cg.mono ?_); clear cg; rintro e w2 ⟨rfl, hb⟩))
      go_ret
      exact ⟨rfl, hb.alloc hb.size _⟩
theorem isTreap_nil (w : World) (t : Int) :
    Calls Try.prog 24 #[.pointer none, .int .i64 t] w fun e w' => e = .returned (.bool false) ∧ Below w.heap.size w w' := by
  have cg := get_nil t w
  go_enter Try.func24, Try.ntmps24
  go_wp2_with (go_at_call 26; ((with_reducible refine cg.mono ?_); clear cg; rintro e w2 ⟨rfl, hb⟩))
  go_ret
  exact ⟨rfl, hb.alloc hb.size _⟩
end
end Go.Proofs.Ytmbeaefgakfbnaa
