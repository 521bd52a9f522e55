/- 'osierlaw2.awake' and 'osierlaw2.Heavy'. -/
import Derived.Test.YtighdfmjmmphaaaHeld
namespace Go.Proofs.Ytighdfmjmmphaaa
open Go.RowKit
set_option linter.unusedVariables false

set_option maxHeartbeats 1600000 in
theorem awake_any (w : World) : Calls Try.prog 10 #[] w fun e w' => e = .returned (.bool true) ∧ Below w.heap.size w w' := by
  go_enter Try.func10, Try.ntmps10
  go_wp2_with (first
    | (go_at_call 11; have c := new_held 5 5 w _ (Below.refl _ _) (by decide); ((with_reducible refine c.mono ?_); clear c; rintro e w1 ⟨p, rfl, h1⟩))
    | (go_at_call 13; have c := make_lit h1 3 [7, 8] #[.int .i64 7, .int .i64 8] 2 1 [(3, [7, 8])] (by decide) (by decide) rfl rfl (by decide) rfl rfl; ((with_reducible refine c.mono ?_); clear c; rintro e w2 ⟨rfl, h2⟩; clear h1))
    | (go_at_call 15; have c := cell_held h2 1 2 [(3, [7, 8]), (0, [1])] (by decide) rfl rfl; ((with_reducible refine c.mono ?_); clear c; rintro e w3 ⟨rfl, h3⟩; clear h2))
    | (go_at_call 19; have c := swap_held h3 2 1 9 true 1 [(3, [7, 8]), (0, [9])] rfl (by decide +kernel) rfl; ((with_reducible refine c.mono ?_); clear c; rintro e w4 ⟨rfl, h4⟩; clear h3))
    | (go_at_call 23; have c := val_held h4 1 1 8 rfl; ((with_reducible refine c.mono ?_); clear c; rintro e w5 ⟨rfl, h5⟩; clear h4))
    | (go_at_call 25; have c := kind_held h5 1 3 rfl; ((with_reducible refine c.mono ?_); clear c; rintro e w6 ⟨rfl, h6⟩; clear h5))
    | (go_at_call 17; have c := load_held h6 2 9 2 rfl (by decide +kernel); ((with_reducible refine c.mono ?_); clear c; rintro e w7 ⟨rfl, h7⟩; clear h6))
    | (go_at_call 27; have c := used_held h7 2 rfl; ((with_reducible refine c.mono ?_); clear c; rintro e w8 ⟨rfl, rfl⟩))
    | (go_at_call 29; have c := steps_held h7; ((with_reducible refine c.mono ?_); clear c; rintro e w8 ⟨rfl, rfl⟩)))
  go_ret
  exact ⟨rfl, h7.b⟩

/-- A slice of integers that came in: its elements. -/
def ArgInts (w : World) (a : Option Addr) (len : Nat) (vs : List Int) : Prop :=
  vs.length = len ∧ len ≤ maxLen ∧ (∀ n ∈ vs, (Lit.int .i64 n).wf = true) ∧ ∀ n, n < len → ∃ b o, a = some ⟨b, o, none⟩ ∧ w.cell? ⟨b, o + n, none⟩ = some (.int .i64 (vs.getD n 0))

theorem args_of_row {w : World} {a : Option Addr} {len cap : Nat} {zs : List Int}
    (h : (a = none ∧ len = 0 ∧ cap = 0 ∧ zs = []) ∨
      ∃ x, a = some x ∧ len ≤ cap ∧ cap ≤ maxLen ∧ zs.length = cap ∧ (∀ i, i < zs.length → w.cell? (x.add i) = some (.int .i64 (zs.getD i 0))) ∧ ∀ n ∈ zs, (Lit.int .i64 n).wf = true) :
    ∃ vs, ArgInts w a len vs := by
  rcases h with ⟨rfl, rfl, rfl, rfl⟩ | ⟨x, rfl, hl, hm, hz, hcell, hwz⟩
  · exact ⟨[], rfl, Nat.zero_le _, by simp, fun n hn => absurd hn (Nat.not_lt_zero n)⟩
  · refine ⟨zs.take len, by simp; omega, by omega, fun n hn => hwz n (List.mem_of_mem_take hn), fun n hn => ?_⟩
    obtain ⟨b, o, spot⟩ := x
    have hc := hcell n (by omega)
    have hs : spot = none := by simpa [Addr.add] using World.cell?_spot (hcell 0 (by omega))
    subst hs
    rw [add_lit] at hc
    refine ⟨b, o, rfl, ?_⟩
    rw [hc]
    simp [List.getD_eq_getElem?_getD, List.getElem?_take, hn]

theorem steps_in (u st t : Int) (h0 : 0 ≤ st) (h1 : st ≤ 1000000) (h : t = st + 1) : stepped (some u) st = t := by
  subst h; show wrap64 (st + 1) = st + 1; unfold wrap64; omega

theorem Held.arg {w0 w : World} {p : Nat} {room st : Int} {l : List It} {a : Option Addr} {len : Nat} {vs : List Int} (h : Held w0 w p room st l) (ha : ArgInts w0 a len vs) (n : Nat) (hn : n < len) :
    ∃ b o, a = some ⟨b, o, none⟩ ∧ w.cell? ⟨b, o + n, none⟩ = some (.int .i64 (vs.getD n 0)) := by
  obtain ⟨b, o, e, hc⟩ := ha.2.2.2 n hn
  exact ⟨b, o, e, h.old hc⟩

end Go.Proofs.Ytighdfmjmmphaaa
