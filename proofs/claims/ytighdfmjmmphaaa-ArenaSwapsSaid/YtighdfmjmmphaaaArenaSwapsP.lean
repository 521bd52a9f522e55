/- 'osierlaw2.ArenaSwaps' returns true for every int64 and every slice of int64 (nil, empty, of any length), and the slice reads afterwards as before. No condition. -/
import Derived.Test.YtighdfmjmmphaaaRows
import Derived.Test.YtighdfmjmmphaaaAwk
import Derived.LoopTactic
import Derived.WalkKit
import Derived.ProofKit
import Derived.OpenShut
import Derived.ShutString
import Derived.ChangeOld
import Derived.Below
namespace Go.Proofs.Ytighdfmjmmphaaa.arenaSwaps
open Go.ChangeShapes Go.WideShapes Go.ChangeAt Go.RowKit
open Go.ChangeMaps (open_string shut_string)
set_option linter.unusedVariables false

theorem own : ownKnob Try.prog.godebug = none := by kernel_rfl
theorem laidOut : laidOutB Try.prog = true := by kernel_rfl

/-- WHAT THE WALK IS TOLD OF A SLICE OF INTEGERS THAT CAME IN: it is nil; or it leads to a row of 'cap' cells, the numbers 'zs' (the first 'len' are its elements, the rest its spare room), each fitting its kind. -/
def IsRow (k : IntKind) (w : World) (a : Option Addr) (len cap : Nat) (zs : List Int) : Prop :=
  (a = none ∧ len = 0 ∧ cap = 0 ∧ zs = []) ∨
  ∃ x, a = some x ∧ len ≤ cap ∧ cap ≤ maxLen ∧ zs.length = cap ∧ (∀ i, i < zs.length → w.cell? (x.add i) = some (.int k (zs.getD i 0))) ∧ ∀ n ∈ zs, (Lit.int k n).wf = true

theorem cell_one (x : Int) : cellL [(0, [x])] 1 = some x := rfl
set_option maxHeartbeats 1600000 in
theorem walk (a0 : Int) (a1 : Option Addr) (len1 cap1 : Nat) (z1 : List Int) (w : World) (w0 : (Lit.int .i64 a0).wf = true) (w1 : IsRow .i64 w a1 len1 cap1 z1) :
    Calls Try.prog 6 #[.int .i64 a0, .slice a1 len1 cap1] w fun e w' => e = .returned (.bool true) ∧ Below w.heap.size w w' := by
  obtain ⟨vs, HC⟩ := args_of_row w1
  have hlen := HC.2.1
  have HC := Lib.hid HC
  clear w1
  unfold maxLen at hlen
  by_cases h60 : 60 < len1
  · have h60' : (60 : Int) < (len1 : Int) := by omega
    have ca := awake_any w
    go_enter Try.func6, Try.ntmps6
    go_wp2_with (go_at_call 10; ((with_reducible refine ca.mono ?_); rintro e w' ⟨rfl, hb⟩))
    go_ret
    exact ⟨rfl, hb⟩
  · have h60' : ¬ (60 : Int) < (len1 : Int) := by omega
    have cn := new_held 3 3 w w (Below.refl _ _) (by decide)
    go_enter Try.func6, Try.ntmps6
    go_wp2_with (first
      | (go_at_call 11; ((with_reducible refine cn.mono ?_); rintro e w1 ⟨p, rfl, h1⟩))
      | (go_at_call 15; have cc := cell_held h1 a0 1 [(0, [a0])] (by decide) rfl rfl; ((with_reducible refine cc.mono ?_); clear cc; rintro e w2 ⟨rfl, h2⟩; clear h1)))
    go_loopw [8, 27] (fun now i wr => ∃ (n : Nat) (x : Int), n ≤ len1 ∧ i = .int .i64 n ∧ now = .int .i64 x ∧ Held w wr p 3 (2 * (n : Int)) [(0, [x])]) (fun _ i _ => len1 - (intOf i).toNat)
    case atStart => exact ⟨0, a0, Nat.zero_le _, rfl, rfl, h2⟩
    case round =>
      obtain ⟨n, x, hn, rfl, rfl, hH⟩ := hrel
      by_cases hlt : n < len1
      · obtain ⟨b, o, rfl, hcn⟩ := hH.arg HC.out n hlt
        obtain ⟨y, hy⟩ : ∃ y, vs.getD n 0 = y := ⟨_, rfl⟩
        rw [hy] at hcn
        clear hy
        by_cases hx : x = a0
        · subst hx
          have cs := swap_held hH 1 x y true (2 * (n : Int) + 1) [(0, [y])] (by simp [cell_one]) (by rw [cell_one]; exact steps_in _ _ _ (by omega) (by omega) rfl) (by simp [swapL, cell_one, setL])
          clear hH
          go_wp2_with (first
            | (go_at_call 19; ((with_reducible refine cs.mono ?_); clear cs; rintro e w4 ⟨rfl, h4⟩))
            | (go_at_call 17; have cl := load_held h4 1 y (2 * ((n + 1 : Nat) : Int)) (by simp [cell_one]) (by rw [cell_one]; exact steps_in _ _ _ (by omega) (by omega) (by omega)); ((with_reducible refine cl.mono ?_); clear cl; rintro e w5 ⟨rfl, h5⟩)))
          go_roundw
          case rel => exact ⟨n + 1, y, by omega, by go_num, rfl, h5⟩
          case measure => simp [intOf]; omega
        · have cs := swap_held hH 1 a0 y false (2 * (n : Int) + 1) [(0, [x])] (by simp [cell_one, hx]) (by rw [cell_one]; exact steps_in _ _ _ (by omega) (by omega) rfl) (by simp [swapL, cell_one, hx])
          have hx1 : (x == a0) = false := by simp [hx]
          clear hH hx
          go_wp2_with (first
            | (go_at_call 19; ((with_reducible refine cs.mono ?_); clear cs; rintro e w4 ⟨rfl, h4⟩))
            | (go_at_call 17; have cl := load_held h4 1 x (2 * ((n + 1 : Nat) : Int)) (by simp [cell_one]) (by rw [cell_one]; exact steps_in _ _ _ (by omega) (by omega) (by omega)); ((with_reducible refine cl.mono ?_); clear cl; rintro e w5 ⟨rfl, h5⟩)))
          go_roundw
          case rel => exact ⟨n + 1, x, by omega, by go_num, rfl, h5⟩
          case measure => simp [intOf]; omega
      · obtain rfl : n = len1 := by omega
        have cst := steps_held hH
        go_wp2_with (first
          | (go_at_call 29; ((with_reducible refine cst.mono ?_); clear cst; rintro e w4 ⟨rfl, rfl⟩))
          | (go_at_call 10; ((with_reducible refine (awake_any _).mono ?_); rintro e w5 ⟨rfl, hb⟩)))
        go_ret
        exact ⟨rfl, (hH.below hb).b⟩

set_option maxRecDepth 100000 in
theorem lifted (os : Os) (started : os.Started) (H : Type) (enc : TypeId × Value → H) :
    ReturnsInHanded {} Try.checked os 6 .any (Rows.arenaSwapsSpec.pre6 enc Try.prog Try.f6 Rows.arenaSwapsRow.domain false) (Rows.arenaSwapsSpec.post enc Try.prog Try.f6 false true false false) := by
  refine returnsInHanded_of_change (C := Try.checked) own started (by kernel_rfl) Try.func6
    (ChangeSpec.witness6 (enc := enc) (C := Try.checked) false ⟨#[], #[.int .i64 0, .slice none 0 0], []⟩ 8 (by kernel_rfl) (by kernel_rfl) (by kernel_rfl) (by kernel_rfl)) ?_
  intro W base args ds gs before hval0 hW hcnd _
  have hval : ∀ (j : Nat) t v, Try.f6.params[j]? = some t → args[j]? = some v → Value.okWide Try.prog W .any base t v := hval0
  have hW' := hW
  obtain ⟨p, q, hA0, hV, rfl, hfz, hnd⟩ := hW
  have hA : DataW.TrodAll enc Try.prog W 0 (fun _ => true) true Try.f6.params.toList args.toList ds p := hA0
  rw [Try.params6] at hA hval
  obtain ⟨v0, vs0, d0, ds0, p0, q0, hargs, rfl, rfl, h0, r0⟩ := trodAll_cons hA
  obtain ⟨v1, vs1, d1, ds1, p1, q1, rfl, rfl, rfl, h1, r1⟩ := trodAll_cons r0
  obtain ⟨rfl, rfl, rfl⟩ := trodAll_nil r1
  obtain rfl : args = #[v0, v1] := by cases args; simp_all
  obtain ⟨rfl, rfl⟩ := trodVars_none hV
  obtain ⟨a0, rfl, rfl, rfl, w0⟩ := open_int Try.underlying3 (hval 0 3 v0 rfl rfl) h0
  obtain ⟨a1, len1, cap1, rfl⟩ := okWide_slice Try.underlying29 (hval 1 29 v1 rfl rfl)
  have k1 := h1
  have lt1 : ∀ x ∈ p1, x.block < W.heap.size := by obtain ⟨m, hm⟩ := k1; exact DataW.trod_lt m _ _ _ hm
  obtain ⟨z1, w1⟩ : ∃ zs, IsRow .i64 W a1 len1 cap1 zs := by
    obtain ⟨fuel, hf⟩ := h1
    rcases open_ints Try.underlying29 Try.underlying3 (by kernel_rfl) hf with ⟨hcs, _⟩ | ⟨x, l, c, zs, hcs, _, hl, hm, hz, _, hcell, hwz⟩
    · simp [Value.cells] at hcs
      obtain ⟨rfl, rfl, rfl⟩ := hcs
      exact ⟨[], .inl ⟨rfl, rfl, rfl, rfl⟩⟩
    · simp [Value.cells] at hcs
      obtain ⟨rfl, rfl, rfl⟩ := hcs
      exact ⟨zs, .inr ⟨_, rfl, hl, hm, by simpa using hz, hcell, hwz⟩⟩
  clear hA0 hval0
  refine (walk a0 a1 len1 cap1 z1 W w0 w1).mono fun e W' ⟨he, bel⟩ => ?_
  subst he
  exact ⟨_, rfl, _, _, _, [], _, [], hW', trodAll_mk1 (shut_bool Try.underlying4 _), (trodAll_cons_mk (shut_int Try.underlying3 w0) (trodAll_cons_mk (Below.trod laidOut (by kernel_rfl) (of_decide_eq_true (by kernel_rfl)) k1 bel lt1) trodAll_mk0)), rfl, bel.frame _, fun h => by cases h⟩

theorem over : Rows.arenaSwapsRow.holds Try.pinned (OpenSpec.ofChange Rows.arenaSwapsSpec) :=
  OpenClaim.holds_of_wide 6 Try.f6 rfl rfl rfl rfl rfl rfl rfl ⟨rfl, rfl, rfl, rfl, rfl⟩ rfl rfl rfl rfl rfl (by kernel_rfl) Try.func6 (by kernel_rfl)
    (of_decide_eq_true (by kernel_rfl)) (by unfold Func.isWrapper; first | (rw [if_pos (by decide +kernel)]; kernel_rfl) | (rw [if_neg (by decide +kernel)]; exact ⟨rfl, rfl⟩))
    (fun os started H enc _ => lifted os started H enc)

theorem arenaSwapsHolds : Rows.ArenaSwapsSaid := over
#print axioms arenaSwapsHolds
end Go.Proofs.Ytighdfmjmmphaaa.arenaSwaps
