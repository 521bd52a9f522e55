/- 'osierlaw2.ArenaOnce' returns true for every int64 and every slice of int64 (nil, empty, of any length), and the slice reads afterwards as before. No condition. -/
import Derived.Test.YtighdfmjmmphaaaRows
import Derived.Test.YtighdfmjmmphaaaAwk
import Derived.LoopTactic
import Derived.WalkKit
import Derived.ProofKit
import Derived.OpenShut
import Derived.ShutString
import Derived.ChangeOld
import Derived.Below
namespace Go.Proofs.Ytighdfmjmmphaaa.arenaOnce
open Go.ChangeShapes Go.WideShapes Go.ChangeAt Go.RowKit
open Go.ChangeMaps (open_string shut_string)
set_option linter.unusedVariables false

theorem own : ownKnob Try.prog.godebug = none := by kernel_rfl
theorem laidOut : laidOutB Try.prog = true := by kernel_rfl

/-- WHAT THE WALK IS TOLD OF A SLICE OF INTEGERS THAT CAME IN: it is nil; or it leads to a row of 'cap' cells, the numbers 'zs' (the first 'len' are its elements, the rest its spare room), each fitting its kind. -/
def IsRow (k : IntKind) (w : World) (a : Option Addr) (len cap : Nat) (zs : List Int) : Prop :=
  (a = none ∧ len = 0 ∧ cap = 0 ∧ zs = []) ∨
  ∃ x, a = some x ∧ len ≤ cap ∧ cap ≤ maxLen ∧ zs.length = cap ∧ (∀ i, i < zs.length → w.cell? (x.add i) = some (.int k (zs.getD i 0))) ∧ ∀ n ∈ zs, (Lit.int k n).wf = true

def three (x v : Int) : List It := [(0, [x]), (0, [v]), (1, [v])]
theorem three_1 (x v : Int) : cellL (three x v) 1 = some x := rfl
theorem three_2 (x v : Int) : cellL (three x v) 2 = some v := rfl
theorem three_3 (x v : Int) : cellL (three x v) 3 = none := rfl

theorem once_1 {w0 w : World} {p : Nat} {st : Int} (x v y : Int) (h : Held w0 w p 5 st (three x v)) :
    Calls Try.prog 21 #[.pointer (some ⟨p, 0, none⟩), .int .i64 1, .int .i64 y] w fun e w' => e = .returned (.bool (decide (x = 0 ∧ y ≠ 0))) ∧ ∃ st', Held w0 w' p 5 st' (three (if x = 0 then y else x) v) :=
  (once_held h 1 y (decide (some x = some 0 ∧ y ≠ 0)) (stepped (some x) st) (three (if x = 0 then y else x) v) (by rw [three_1]) rfl (by
    unfold onceL
    rw [three_1]
    by_cases hx : x = 0
    · by_cases hy : y = 0
      · subst hx; subst hy; rfl
      · subst hx; rw [if_pos ⟨rfl, hy⟩, if_pos rfl]; rfl
    · rw [if_neg (by simp [hx]), if_neg hx])).mono fun e w' ⟨he, hh⟩ => ⟨by rw [he]; simp, _, hh⟩
theorem once_2 {w0 w : World} {p : Nat} {st : Int} (x v y : Int) (h : Held w0 w p 5 st (three x v)) (hv : v ≠ 0) :
    Calls Try.prog 21 #[.pointer (some ⟨p, 0, none⟩), .int .i64 2, .int .i64 y] w fun e w' => e = .returned (.bool false) ∧ ∃ st', Held w0 w' p 5 st' (three x v) :=
  (once_held h 2 y false (stepped (some v) st) (three x v) (by rw [three_2]; simp [hv]) rfl (by unfold onceL; rw [three_2]; simp [hv])).mono fun e w' ⟨he, hh⟩ => ⟨he, _, hh⟩

set_option maxHeartbeats 3200000 in
theorem walk (a0 : Int) (a1 : Option Addr) (len1 cap1 : Nat) (z1 : List Int) (w : World) (w0 : (Lit.int .i64 a0).wf = true) (w1 : IsRow .i64 w a1 len1 cap1 z1) :
    Calls Try.prog 8 #[.int .i64 a0, .slice a1 len1 cap1] w fun e w' => e = .returned (.bool true) ∧ Below w.heap.size w w' := by
  obtain ⟨vs, HC⟩ := args_of_row w1
  have hlen := HC.2.1
  have HC := Lib.hid HC
  clear w1
  unfold maxLen at hlen
  by_cases h60 : 40 < len1
  · have h60' : (40 : Int) < (len1 : Int) := by omega
    have ca := awake_any w
    go_enter Try.func8, Try.ntmps8
    go_wp2_with (go_at_call 10; ((with_reducible refine ca.mono ?_); rintro e w' ⟨rfl, hb⟩))
    go_ret
    exact ⟨rfl, hb⟩
  · have h60' : ¬ (40 : Int) < (len1 : Int) := by omega
    have cn := new_held 5 5 w w (Below.refl _ _) (by decide)
    go_enter Try.func8, Try.ntmps8
    go_wp2_with (first
      | (go_at_call 11; ((with_reducible refine cn.mono ?_); rintro e w1 ⟨p, rfl, h1⟩))
      | (go_at_call 15; have cc := cell_held h1 0 1 [(0, [0])] (by decide) rfl rfl; ((with_reducible refine cc.mono ?_); clear cc; rintro e w2 ⟨rfl, h2⟩; clear h1))
      | (go_at_call 15; have cc := cell_held h2 a0 2 [(0, [0]), (0, [a0])] (by simp) rfl rfl; ((with_reducible refine cc.mono ?_); clear cc; rintro e w3 ⟨rfl, h3⟩; clear h2))
      | (go_at_call 13; have cc := make_lit h3 1 [a0] #[.int .i64 a0] 1 3 (three 0 a0) (by decide) (by simp) rfl rfl (by simp) rfl rfl; ((with_reducible refine cc.mono ?_); clear cc; rintro e w4 ⟨rfl, h4⟩; clear h3))
      | (go_at_call 21; have cc := once_held h4 3 5 false 0 (three 0 a0) rfl rfl rfl; ((with_reducible refine cc.mono ?_); clear cc; rintro e w5 ⟨rfl, h5⟩; clear h4))
      | (go_at_call 19; have cc := swap_held h5 3 0 5 false 0 (three 0 a0) rfl rfl rfl; ((with_reducible refine cc.mono ?_); clear cc; rintro e w6 ⟨rfl, h6⟩; clear h5))
      | (go_at_call 17; have cc := load_held h6 3 0 0 rfl rfl; ((with_reducible refine cc.mono ?_); clear cc; rintro e w7 ⟨rfl, h7⟩; clear h6))
      | (go_at_call 29; have cc := steps_held h7; ((with_reducible refine cc.mono ?_); clear cc; rintro e w8 ⟨rfl, rfl⟩)))
    go_loopw [12, 71] (fun now i wr => ∃ (n : Nat) (x st : Int), n ≤ len1 ∧ i = .int .i64 n ∧ now = .int .i64 x ∧ Held w wr p 5 st (three x a0)) (fun _ i _ => len1 - (intOf i).toNat)
    case atStart => exact ⟨0, 0, 0, Nat.zero_le _, rfl, rfl, h7⟩
    case round =>
      clear h7
      obtain ⟨n, x, st, hn, rfl, rfl, hH⟩ := hrel
      by_cases hlt : n < len1
      · obtain ⟨b, o, rfl, hcn⟩ := hH.arg HC.out n hlt
        obtain ⟨y, hy⟩ : ∃ y, vs.getD n 0 = y := ⟨_, rfl⟩
        rw [hy] at hcn
        clear hy
        have c1 := once_1 x a0 y hH
        clear hH
        by_cases hv0 : a0 = 0
        · have hv1 : (a0 != 0) = false := by simp [hv0]
          clear hv0
          by_cases hx : x = 0
          · subst hx
            by_cases hy : y = 0
            · subst hy
              rw [decide_eq_false (by simp), if_pos rfl] at c1
              go_wp2_with (first
                | (go_at_call 21; ((with_reducible refine c1.mono ?_); clear c1; rintro e w5 ⟨rfl, st5, h5⟩))
                | (go_at_call 21; have c2 := once_2 0 a0 0 h5 hV.out; ((with_reducible refine c2.mono ?_); clear c2 h5; rintro e w6 ⟨rfl, st6, h6⟩)))
              go_roundw
              case rel => exact ⟨n + 1, 0, _, by omega, by go_num, rfl, by first | exact h6 | exact h5⟩
              case measure => simp [intOf]; omega
            · rw [decide_eq_true ⟨rfl, hy⟩, if_pos rfl] at c1
              have hy1 : (y != 0) = true := by simp [hy]
              have hy2 : (y == 0) = false := by simp [hy]
              clear hy
              go_wp2_with (first
                | (go_at_call 21; ((with_reducible refine c1.mono ?_); clear c1; rintro e w5 ⟨rfl, st5, h5⟩))
                | (go_at_call 21; have c2 := once_2 y a0 y h5 hV.out; ((with_reducible refine c2.mono ?_); clear c2 h5; rintro e w6 ⟨rfl, st6, h6⟩)))
              go_roundw
              case rel => exact ⟨n + 1, y, _, by omega, by go_num, rfl, by first | exact h6 | exact h5⟩
              case measure => simp [intOf]; omega
          · rw [decide_eq_false (by simp [hx]), if_neg hx] at c1
            have hx1 : (x == 0) = false := by simp [hx]
            clear hx
            go_wp2_with (first
              | (go_at_call 21; ((with_reducible refine c1.mono ?_); clear c1; rintro e w5 ⟨rfl, st5, h5⟩))
              | (go_at_call 21; have c2 := once_2 x a0 y h5 hV.out; ((with_reducible refine c2.mono ?_); clear c2 h5; rintro e w6 ⟨rfl, st6, h6⟩)))
            go_roundw
            case rel => exact ⟨n + 1, x, _, by omega, by go_num, rfl, by first | exact h6 | exact h5⟩
            case measure => simp [intOf]; omega
        · have hv : a0 ≠ 0 := hv0
          have hv1 : (a0 != 0) = true := by simp [hv0]
          have hV := Lib.hid hv
          clear hv0 hv
          by_cases hx : x = 0
          · subst hx
            by_cases hy : y = 0
            · subst hy
              rw [decide_eq_false (by simp), if_pos rfl] at c1
              go_wp2_with (first
                | (go_at_call 21; ((with_reducible refine c1.mono ?_); clear c1; rintro e w5 ⟨rfl, st5, h5⟩))
                | (go_at_call 21; have c2 := once_2 0 a0 0 h5 hV.out; ((with_reducible refine c2.mono ?_); clear c2 h5; rintro e w6 ⟨rfl, st6, h6⟩)))
              go_roundw
              case rel => exact ⟨n + 1, 0, _, by omega, by go_num, rfl, by first | exact h6 | exact h5⟩
              case measure => simp [intOf]; omega
            · rw [decide_eq_true ⟨rfl, hy⟩, if_pos rfl] at c1
              have hy1 : (y != 0) = true := by simp [hy]
              have hy2 : (y == 0) = false := by simp [hy]
              clear hy
              go_wp2_with (first
                | (go_at_call 21; ((with_reducible refine c1.mono ?_); clear c1; rintro e w5 ⟨rfl, st5, h5⟩))
                | (go_at_call 21; have c2 := once_2 y a0 y h5 hV.out; ((with_reducible refine c2.mono ?_); clear c2 h5; rintro e w6 ⟨rfl, st6, h6⟩)))
              go_roundw
              case rel => exact ⟨n + 1, y, _, by omega, by go_num, rfl, by first | exact h6 | exact h5⟩
              case measure => simp [intOf]; omega
          · rw [decide_eq_false (by simp [hx]), if_neg hx] at c1
            have hx1 : (x == 0) = false := by simp [hx]
            clear hx
            go_wp2_with (first
              | (go_at_call 21; ((with_reducible refine c1.mono ?_); clear c1; rintro e w5 ⟨rfl, st5, h5⟩))
              | (go_at_call 21; have c2 := once_2 x a0 y h5 hV.out; ((with_reducible refine c2.mono ?_); clear c2 h5; rintro e w6 ⟨rfl, st6, h6⟩)))
            go_roundw
            case rel => exact ⟨n + 1, x, _, by omega, by go_num, rfl, by first | exact h6 | exact h5⟩
            case measure => simp [intOf]; omega
      · obtain rfl : n = len1 := by omega
        go_wp2_with (first
          | (go_at_call 17; have cc := load_held hH 1 x _ rfl rfl; ((with_reducible refine cc.mono ?_); clear cc; rintro e w4 ⟨rfl, h4⟩; clear hH))
          | (go_at_call 23; have cc := val_held h4 3 0 a0 rfl; ((with_reducible refine cc.mono ?_); clear cc; rintro e w5 ⟨rfl, h5⟩; clear h4))
          | (go_at_call 23; have cc := val_held h5 1 0 0 rfl; ((with_reducible refine cc.mono ?_); clear cc; rintro e w6 ⟨rfl, h6⟩; clear h5))
          | (go_at_call 25; have cc := kind_held h6 1 0 rfl; ((with_reducible refine cc.mono ?_); clear cc; rintro e w7 ⟨rfl, h7⟩; clear h6))
          | (go_at_call 10; ((with_reducible refine (awake_any _).mono ?_); rintro e w8 ⟨rfl, hb⟩)))
        go_ret
        exact ⟨rfl, (h7.below hb).b⟩

set_option maxRecDepth 100000 in
theorem lifted (os : Os) (started : os.Started) (H : Type) (enc : TypeId × Value → H) :
    ReturnsInHanded {} Try.checked os 8 .any (Rows.arenaOnceSpec.pre6 enc Try.prog Try.f8 Rows.arenaOnceRow.domain false) (Rows.arenaOnceSpec.post enc Try.prog Try.f8 false true false false) := by
  refine returnsInHanded_of_change (C := Try.checked) own started (by kernel_rfl) Try.func8
    (ChangeSpec.witness6 (enc := enc) (C := Try.checked) false ⟨#[], #[.int .i64 0, .slice none 0 0], []⟩ 8 (by kernel_rfl) (by kernel_rfl) (by kernel_rfl) (by kernel_rfl)) ?_
  intro W base args ds gs before hval0 hW hcnd _
  have hval : ∀ (j : Nat) t v, Try.f8.params[j]? = some t → args[j]? = some v → Value.okWide Try.prog W .any base t v := hval0
  have hW' := hW
  obtain ⟨p, q, hA0, hV, rfl, hfz, hnd⟩ := hW
  have hA : DataW.TrodAll enc Try.prog W 0 (fun _ => true) true Try.f8.params.toList args.toList ds p := hA0
  rw [Try.params8] at hA hval
  obtain ⟨v0, vs0, d0, ds0, p0, q0, hargs, rfl, rfl, h0, r0⟩ := trodAll_cons hA
  obtain ⟨v1, vs1, d1, ds1, p1, q1, rfl, rfl, rfl, h1, r1⟩ := trodAll_cons r0
  obtain ⟨rfl, rfl, rfl⟩ := trodAll_nil r1
  obtain rfl : args = #[v0, v1] := by cases args; simp_all
  obtain ⟨rfl, rfl⟩ := trodVars_none hV
  obtain ⟨a0, rfl, rfl, rfl, w0⟩ := open_int Try.underlying3 (hval 0 3 v0 rfl rfl) h0
  obtain ⟨a1, len1, cap1, rfl⟩ := okWide_slice Try.underlying29 (hval 1 29 v1 rfl rfl)
  have k1 := h1
  have lt1 : ∀ x ∈ p1, x.block < W.heap.size := by obtain ⟨m, hm⟩ := k1; exact DataW.trod_lt m _ _ _ hm
  obtain ⟨z1, w1⟩ : ∃ zs, IsRow .i64 W a1 len1 cap1 zs := by
    obtain ⟨fuel, hf⟩ := h1
    rcases open_ints Try.underlying29 Try.underlying3 (by kernel_rfl) hf with ⟨hcs, _⟩ | ⟨x, l, c, zs, hcs, _, hl, hm, hz, _, hcell, hwz⟩
    · simp [Value.cells] at hcs
      obtain ⟨rfl, rfl, rfl⟩ := hcs
      exact ⟨[], .inl ⟨rfl, rfl, rfl, rfl⟩⟩
    · simp [Value.cells] at hcs
      obtain ⟨rfl, rfl, rfl⟩ := hcs
      exact ⟨zs, .inr ⟨_, rfl, hl, hm, by simpa using hz, hcell, hwz⟩⟩
  clear hA0 hval0
  refine (walk a0 a1 len1 cap1 z1 W w0 w1).mono fun e W' ⟨he, bel⟩ => ?_
  subst he
  exact ⟨_, rfl, _, _, _, [], _, [], hW', trodAll_mk1 (shut_bool Try.underlying4 _), (trodAll_cons_mk (shut_int Try.underlying3 w0) (trodAll_cons_mk (Below.trod laidOut (by kernel_rfl) (of_decide_eq_true (by kernel_rfl)) k1 bel lt1) trodAll_mk0)), rfl, bel.frame _, fun h => by cases h⟩

theorem over : Rows.arenaOnceRow.holds Try.pinned (OpenSpec.ofChange Rows.arenaOnceSpec) :=
  OpenClaim.holds_of_wide 8 Try.f8 rfl rfl rfl rfl rfl rfl rfl ⟨rfl, rfl, rfl, rfl, rfl⟩ rfl rfl rfl rfl rfl (by kernel_rfl) Try.func8 (by kernel_rfl)
    (of_decide_eq_true (by kernel_rfl)) (by unfold Func.isWrapper; first | (rw [if_pos (by decide +kernel)]; kernel_rfl) | (rw [if_neg (by decide +kernel)]; exact ⟨rfl, rfl⟩))
    (fun os started H enc _ => lifted os started H enc)

theorem arenaOnceHolds : Rows.ArenaOnceSaid := over
#print axioms arenaOnceHolds
end Go.Proofs.Ytighdfmjmmphaaa.arenaOnce
