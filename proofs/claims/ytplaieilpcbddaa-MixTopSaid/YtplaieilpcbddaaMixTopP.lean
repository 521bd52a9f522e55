/- 'osierlaw1.MixTop' returns true for every slice of int64 keys (nil, empty, of any length), and the slice reads afterwards as before. No condition. -/
import Derived.Test.YtplaieilpcbddaaRows
import Derived.Test.YtplaieilpcbddaaCon
import Derived.LoopTactic
import Derived.WalkKit
import Derived.ProofKit
import Derived.OpenShut
import Derived.ShutString
import Derived.ChangeOld
import Derived.Below
namespace Go.Proofs.Ytplaieilpcbddaa.mixTop
open Go.ChangeShapes Go.WideShapes Go.ChangeAt Go.RowKit
open Go.ChangeMaps (open_string shut_string)
set_option linter.unusedVariables false

theorem own : ownKnob Try.prog.godebug = none := by kernel_rfl
theorem laidOut : laidOutB Try.prog = true := by kernel_rfl

/-- WHAT THE WALK IS TOLD OF A SLICE OF INTEGERS THAT CAME IN: it is nil; or it leads to a row of 'cap' cells, the numbers 'zs' (the first 'len' are its elements, the rest its spare room), each fitting its kind. -/
def IsRow (k : IntKind) (w : World) (a : Option Addr) (len cap : Nat) (zs : List Int) : Prop :=
  (a = none ∧ len = 0 ∧ cap = 0 ∧ zs = []) ∨
  ∃ x, a = some x ∧ len ≤ cap ∧ cap ≤ maxLen ∧ zs.length = cap ∧ (∀ i, i < zs.length → w.cell? (x.add i) = some (.int k (zs.getD i 0))) ∧ ∀ n ∈ zs, (Lit.int k n).wf = true

/-- Of the first n keys 'top' is one, or the first, and is above all others or the same. -/
def TopOf (l : List Int) (n : Nat) (t : Int) : Prop := ∀ j, j < n → t = l.getD j 0 ∨ abv t (l.getD j 0) = true

theorem topOf_one (l : List Int) : TopOf l 0 (l.getD 0 0) := fun j hj => absurd hj (Nat.not_lt_zero j)

theorem topOf_take (l : List Int) (n : Nat) (t : Int) (h : TopOf l n t) (k : abv (l.getD n 0) t = true) : TopOf l (n + 1) (l.getD n 0) := by
  intro j hj
  rcases Nat.lt_succ_iff_lt_or_eq.mp hj with h1 | h1
  · rcases h j h1 with h2 | h2
    · rw [← h2]; exact .inr k
    · exact .inr (abv_trans _ _ _ k h2)
  · subst h1; exact .inl rfl

theorem topOf_keep (l : List Int) (n : Nat) (t : Int) (h : TopOf l n t) (k : abv (l.getD n 0) t = false) : TopOf l (n + 1) t := by
  intro j hj
  rcases Nat.lt_succ_iff_lt_or_eq.mp hj with h1 | h1
  · exact h j h1
  · subst h1
    by_cases e : t = l.getD j 0
    · exact .inl e
    · have := abv_or t (l.getD j 0) e
      rw [k] at this
      exact .inr this

theorem above_yes (a b : Int) (h : abv a b = true) (w : World) : Calls Try.prog 9 #[.int .i64 a, .int .i64 b] w fun e w' => e = .returned (.bool true) ∧ w = w' :=
  (above_any a b w).mono fun _ _ g => ⟨by rw [g.1, h], g.2⟩
theorem above_no (a b : Int) (h : abv a b = false) (w : World) : Calls Try.prog 9 #[.int .i64 a, .int .i64 b] w fun e w' => e = .returned (.bool false) ∧ w = w' :=
  (above_any a b w).mono fun _ _ g => ⟨by rw [g.1, h], g.2⟩

set_option maxHeartbeats 800000 in
theorem walk (a0 : Option Addr) (len0 cap0 : Nat) (z0 : List Int) (w : World) (w0 : IsRow .i64 w a0 len0 cap0 z0) :
    Calls Try.prog 5 #[.slice a0 len0 cap0] w fun e w' => e = .returned (.bool true) ∧ Below w.heap.size w w' := by
  rcases w0 with ⟨rfl, rfl, rfl, rfl⟩ | ⟨x, rfl, hl, hm, hz, hcell, hwz⟩
  · go_enter Try.func5, Try.ntmps5
    go_wp2_with (go_at_call 11; ((with_reducible refine (awake_any _).mono ?_); rintro e w' ⟨rfl, rfl⟩))
    go_ret
    exact ⟨rfl, Below.refl _ _⟩
  · by_cases h0 : len0 < 1
    · obtain rfl : len0 = 0 := by omega
      go_enter Try.func5, Try.ntmps5
      go_wp2_with (go_at_call 11; ((with_reducible refine (awake_any _).mono ?_); rintro e w' ⟨rfl, rfl⟩))
      go_ret
      exact ⟨rfl, Below.refl _ _⟩
    · by_cases h1 : 60 < len0
      · have h0' : ¬ (len0 : Int) < 1 := by omega
        have h1' : (60 : Int) < (len0 : Int) := by omega
        go_enter Try.func5, Try.ntmps5
        go_wp2_with (go_at_call 11; ((with_reducible refine (awake_any _).mono ?_); rintro e w' ⟨rfl, rfl⟩))
        go_ret
        exact ⟨rfl, Below.refl _ _⟩
      · obtain ⟨b, off, spot⟩ := x
        have hc0 := hcell 0 (by omega)
        have hspot : spot = none := by simpa [Addr.add] using World.cell?_spot hc0
        subst hspot
        have hc : ∀ i, i < len0 → w.cell? ⟨b, off + i, none⟩ = some (.int .i64 (z0.getD i 0)) := fun i hi => by
          have := hcell i (by omega)
          rw [show Addr.add ⟨b, off, none⟩ i = ⟨b, off + i, none⟩ by unfold Addr.add; split <;> simp_all] at this
          exact this
        clear hcell
        have hc00 : w.cell? ⟨b, off, none⟩ = some (.int .i64 (z0.getD 0 0)) := by simpa using hc 0 (by omega)
        have H := Lib.hid hc
        clear hc
        have h0' : ¬ (len0 : Int) < 1 := by omega
        have h1' : ¬ (60 : Int) < (len0 : Int) := by omega
        have hp : (0 : Int) < (len0 : Int) := by omega
        clear hc0 hwz
        have hzz := Lib.hid hz
        clear hz
        go_enter Try.func5, Try.ntmps5
        go_wp2_with (fail)
        go_loop [3, 22] (fun t i => ∃ n : Nat, n ≤ len0 ∧ i = .int .i64 n ∧ ∃ tv : Int, t = .int .i64 tv ∧ TopOf z0 n tv) (fun _ i => len0 - (intOf i).toNat)
        case atStart => exact ⟨0, Nat.zero_le _, rfl, _, by simp [List.getD_eq_getElem?_getD], topOf_one z0⟩
        case round =>
          obtain ⟨n, hn, rfl, tv, rfl, hT⟩ := hrel
          have HT := Lib.hid hT
          clear hT
          by_cases hlt : n < len0
          · have hcn := H.out n hlt
            obtain ⟨x, hx⟩ : ∃ x, z0.getD n 0 = x := ⟨_, rfl⟩
            rw [hx] at hcn
            have HX := Lib.hid hx
            clear hx
            cases hb : abv x tv
            · have cb := above_no x tv hb
              have HB := Lib.hid hb
              clear hb
              go_wp2_with (go_at_call 9; ((with_reducible refine (cb _).mono ?_); rintro e w' ⟨rfl, rfl⟩))
              go_round
              case rel => exact ⟨n + 1, by omega, by go_num, tv, rfl, topOf_keep z0 n tv HT.out (by rw [HX.out]; exact HB.out)⟩
              case measure => simp [intOf]; omega
            · have cb := above_yes x tv hb
              have HB := Lib.hid hb
              clear hb
              go_wp2_with (go_at_call 9; ((with_reducible refine (cb _).mono ?_); rintro e w' ⟨rfl, rfl⟩))
              go_round
              case rel => exact ⟨n + 1, by omega, by go_num, x, rfl, by rw [← HX.out]; exact topOf_take z0 n tv HT.out (by rw [HX.out]; exact HB.out)⟩
              case measure => simp [intOf]; omega
          · obtain rfl : n = len0 := by omega
            go_wp2_with (fail)
            go_loop [33] (fun i => ∃ m : Nat, m ≤ n ∧ i = .int .i64 m) (fun i => n - (intOf i).toNat)
            case atStart => exact ⟨0, Nat.zero_le _, rfl⟩
            case round =>
              obtain ⟨m, hm', rfl⟩ := hrel
              by_cases hlt' : m < n
              · have hcn := H.out m hlt'
                have hor := HT.out m hlt'
                obtain ⟨x, hx⟩ : ∃ x, z0.getD m 0 = x := ⟨_, rfl⟩
                rw [hx] at hcn hor
                clear hx
                by_cases hq : x = tv
                · subst hq
                  clear hor
                  have hq' : (x != x) = false := by simp
                  go_wp2_with (fail)
                  go_round
                  case rel => exact ⟨m + 1, by omega, by go_num⟩
                  case measure => simp [intOf]; omega
                · have hb : abv tv x = true := by
                    rcases hor with e | e
                    · exact absurd e.symm hq
                    · exact e
                  have cb := above_yes tv x hb
                  have hq1 : (x == tv) = false := by simp [hq]
                  have hq' : (x != tv) = true := by simp [hq]
                  clear hor hb hq
                  go_wp2_with (go_at_call 9; ((with_reducible refine (cb _).mono ?_); rintro e w' ⟨rfl, rfl⟩))
                  go_round
                  case rel => exact ⟨m + 1, by omega, by go_num⟩
                  case measure => simp [intOf]; omega
              · obtain rfl : m = n := by omega
                go_wp2_with (go_at_call 11; ((with_reducible refine (awake_any _).mono ?_); rintro e w' ⟨rfl, rfl⟩))
                go_ret
                exact ⟨rfl, Below.refl _ _⟩

set_option maxRecDepth 100000 in
theorem lifted (os : Os) (started : os.Started) (H : Type) (enc : TypeId × Value → H) :
    ReturnsInHanded {} Try.checked os 5 .any (Rows.mixTopSpec.pre6 enc Try.prog Try.f5 Rows.mixTopRow.domain false) (Rows.mixTopSpec.post enc Try.prog Try.f5 false true false false) := by
  refine returnsInHanded_of_change (C := Try.checked) own started (by kernel_rfl) Try.func5
    (ChangeSpec.witness6 (enc := enc) (C := Try.checked) false ⟨#[], #[.slice none 0 0], []⟩ 8 (by kernel_rfl) (by kernel_rfl) (by kernel_rfl) (by kernel_rfl)) ?_
  intro W base args ds gs before hval0 hW hcnd _
  have hval : ∀ (j : Nat) t v, Try.f5.params[j]? = some t → args[j]? = some v → Value.okWide Try.prog W .any base t v := hval0
  have hW' := hW
  obtain ⟨p, q, hA0, hV, rfl, hfz, hnd⟩ := hW
  have hA : DataW.TrodAll enc Try.prog W 0 (fun _ => true) true Try.f5.params.toList args.toList ds p := hA0
  rw [Try.params5] at hA hval
  obtain ⟨v0, vs0, d0, ds0, p0, q0, hargs, rfl, rfl, h0, r0⟩ := trodAll_cons hA
  obtain ⟨rfl, rfl, rfl⟩ := trodAll_nil r0
  obtain rfl : args = #[v0] := by cases args; simp_all
  obtain ⟨rfl, rfl⟩ := trodVars_none hV
  obtain ⟨a0, len0, cap0, rfl⟩ := okWide_slice Try.underlying27 (hval 0 27 v0 rfl rfl)
  have k0 := h0
  have lt0 : ∀ x ∈ p0, x.block < W.heap.size := by obtain ⟨m, hm⟩ := k0; exact DataW.trod_lt m _ _ _ hm
  obtain ⟨z0, w0⟩ : ∃ zs, IsRow .i64 W a0 len0 cap0 zs := by
    obtain ⟨fuel, hf⟩ := h0
    rcases open_ints Try.underlying27 Try.underlying3 (by kernel_rfl) hf with ⟨hcs, _⟩ | ⟨x, l, c, zs, hcs, _, hl, hm, hz, _, hcell, hwz⟩
    · simp [Value.cells] at hcs
      obtain ⟨rfl, rfl, rfl⟩ := hcs
      exact ⟨[], .inl ⟨rfl, rfl, rfl, rfl⟩⟩
    · simp [Value.cells] at hcs
      obtain ⟨rfl, rfl, rfl⟩ := hcs
      exact ⟨zs, .inr ⟨_, rfl, hl, hm, by simpa using hz, hcell, hwz⟩⟩
  clear hA0 hval0
  refine (walk a0 len0 cap0 z0 W w0).mono fun e W' ⟨he, bel⟩ => ?_
  subst he
  exact ⟨_, rfl, _, _, _, [], _, [], hW', trodAll_mk1 (shut_bool Try.underlying4 _), (trodAll_cons_mk (Below.trod laidOut (by kernel_rfl) (of_decide_eq_true (by kernel_rfl)) k0 bel lt0) trodAll_mk0), rfl, bel.frame _, fun h => by cases h⟩

theorem over : Rows.mixTopRow.holds Try.pinned (OpenSpec.ofChange Rows.mixTopSpec) :=
  OpenClaim.holds_of_wide 5 Try.f5 rfl rfl rfl rfl rfl rfl rfl ⟨rfl, rfl, rfl, rfl, rfl⟩ rfl rfl rfl rfl rfl (by kernel_rfl) Try.func5 (by kernel_rfl)
    (of_decide_eq_true (by kernel_rfl)) (by unfold Func.isWrapper; first | (rw [if_pos (by decide +kernel)]; kernel_rfl) | (rw [if_neg (by decide +kernel)]; exact ⟨rfl, rfl⟩))
    (fun os started H enc _ => lifted os started H enc)

theorem mixTopHolds : Rows.MixTopSaid := over
#print axioms mixTopHolds
end Go.Proofs.Ytplaieilpcbddaa.mixTop
