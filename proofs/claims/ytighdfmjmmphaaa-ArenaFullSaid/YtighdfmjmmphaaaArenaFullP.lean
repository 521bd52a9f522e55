/- 'osierlaw2.ArenaFull' returns true for every int64 and every slice of int64 (nil, empty, of any length), and the slice reads afterwards as before. No condition. -/
import Derived.Test.YtighdfmjmmphaaaRows
import Derived.Test.YtighdfmjmmphaaaAwk
import Derived.LoopTactic
import Derived.WalkKit
import Derived.ProofKit
import Derived.OpenShut
import Derived.ShutString
import Derived.ChangeOld
import Derived.Below
namespace Go.Proofs.Ytighdfmjmmphaaa.arenaFull
open Go.ChangeShapes Go.WideShapes Go.ChangeAt Go.RowKit
open Go.ChangeMaps (open_string shut_string)
set_option linter.unusedVariables false

theorem own : ownKnob Try.prog.godebug = none := by kernel_rfl
theorem laidOut : laidOutB Try.prog = true := by kernel_rfl

/-- WHAT THE WALK IS TOLD OF A SLICE OF INTEGERS THAT CAME IN: it is nil; or it leads to a row of 'cap' cells, the numbers 'zs' (the first 'len' are its elements, the rest its spare room), each fitting its kind. -/
def IsRow (k : IntKind) (w : World) (a : Option Addr) (len cap : Nat) (zs : List Int) : Prop :=
  (a = none ∧ len = 0 ∧ cap = 0 ∧ zs = []) ∨
  ∃ x, a = some x ∧ len ≤ cap ∧ cap ≤ maxLen ∧ zs.length = cap ∧ (∀ i, i < zs.length → w.cell? (x.add i) = some (.int k (zs.getD i 0))) ∧ ∀ n ∈ zs, (Lit.int k n).wf = true

theorem wu (a : Int) : IntKind.u64.wrap a = a % 18446744073709551616 := by first | rfl | simp [IntKind.wrap]
theorem room30 (a : Int) : ∃ R : Nat, R < 30 ∧ wrap64 ((IntKind.u64.wrap a).tmod 30) = (R : Int) := by
  have h0 : 0 ≤ a % 18446744073709551616 := Int.emod_nonneg _ (by decide)
  refine ⟨((a % 18446744073709551616) % 30).toNat, by omega, ?_⟩
  rw [wu, Int.tmod_eq_emod_of_nonneg h0]
  unfold wrap64
  omega
theorem and1 (k : Int) : bits .and .i64 k 1 = k % 2 := by
  show IntKind.i64.wrap (((BitVec.ofInt 64 k) &&& (BitVec.ofInt 64 1)).toNat : Int) = _
  have h : ((BitVec.ofInt 64 k) &&& (BitVec.ofInt 64 1)).toNat = (BitVec.ofInt 64 k).toNat % 2 := by
    rw [BitVec.toNat_and]
    exact Nat.and_one_is_mod _
  rw [h, IntKind.wrap_i64, BitVec.toNat_ofInt]
  omega

def itm (k : Int) (i : Nat) : It := if k % 2 = 0 then (0, [k]) else (7, [k, (i : Int)])
def items (vs : List Int) (m : Nat) : List It := (List.range m).map fun i => itm (vs.getD i 0) i
theorem items_succ (vs : List Int) (m : Nat) : items vs (m + 1) = items vs m ++ [itm (vs.getD m 0) m] := by simp [items, List.range_succ]
theorem items_len (vs : List Int) (m : Nat) : (items vs m).length = m := by simp [items]
theorem items_at (vs : List Int) (m i : Nat) (h : i < m) : itemAt (items vs m) ((i : Int) + 1) = some (itm (vs.getD i 0) i) := by
  unfold itemAt
  rw [if_neg (by omega), show ((i : Int) + 1 - 1).toNat = i by omega]
  simp [items, h]
theorem items_cell (vs : List Int) (m i : Nat) (k : Int) (h : i < m) (hk : vs.getD i 0 = k) (he : k % 2 = 0) : cellL (items vs m) ((i : Int) + 1) = some k := by
  unfold cellL; rw [items_at vs m i h, hk]; simp [itm, he]
theorem items_val (vs : List Int) (m i : Nat) (k : Int) (h : i < m) (hk : vs.getD i 0 = k) (he : k % 2 = 1) :
    valL (items vs m) ((i : Int) + 1) 0 = k ∧ valL (items vs m) ((i : Int) + 1) 1 = (i : Int) ∧ valL (items vs m) ((i : Int) + 1) 2 = 0 := by
  unfold valL; rw [items_at vs m i h, hk]; simp [itm, he]

set_option maxRecDepth 100000 in
set_option maxHeartbeats 6400000 in
theorem walk (a0 : Int) (a1 : Option Addr) (len1 cap1 : Nat) (z1 : List Int) (w : World) (w0 : (Lit.int .i64 a0).wf = true) (w1 : IsRow .i64 w a1 len1 cap1 z1) :
    Calls Try.prog 7 #[.int .i64 a0, .slice a1 len1 cap1] w fun e w' => e = .returned (.bool true) ∧ Below w.heap.size w w' := by
  obtain ⟨vs, HC⟩ := args_of_row w1
  have hlen := HC.2.1
  have hcap : len1 ≤ cap1 := by
    rcases w1 with ⟨rfl, rfl, rfl, rfl⟩ | ⟨x, rfl, hl, hm, _⟩
    · exact Nat.le_refl _
    · exact hl
  have hcapm : cap1 ≤ maxLen := by
    rcases w1 with ⟨rfl, rfl, rfl, rfl⟩ | ⟨x, rfl, hl, hm, _⟩
    · exact Nat.zero_le _
    · exact hm
  have HC := Lib.hid HC
  clear w1
  unfold maxLen at hlen hcapm
  by_cases h60 : 60 < len1
  · have h60' : (60 : Int) < (len1 : Int) := by omega
    have ca := awake_any w
    go_enter Try.func7, Try.ntmps7
    go_wp2_with (go_at_call 10; ((with_reducible refine ca.mono ?_); rintro e w' ⟨rfl, hb⟩))
    go_ret
    exact ⟨rfl, hb⟩
  · have h60' : ¬ (60 : Int) < (len1 : Int) := by omega
    obtain ⟨R, hR30, hR⟩ := room30 a0
    have cn := new_held (R : Int) (R : Int) w w (Below.refl _ _) (by omega)
    go_enter Try.func7, Try.ntmps7
    go_wp2_with (go_at_call 11; ((with_reducible refine cn.mono ?_); rintro e w1 ⟨p, rfl, h1⟩))
    go_loopw [24] (fun i wr => ∃ n : Nat, n ≤ len1 ∧ i = .int .i64 n ∧ Held w wr p R 0 (items vs (min n R))) (fun i _ => len1 - (intOf i).toNat)
    case atStart => exact ⟨0, Nat.zero_le _, rfl, by simpa [items] using h1⟩
    case round =>
      clear h1 hR cn
      obtain ⟨n, hn, rfl, hH⟩ := hrel
      by_cases hlt : n < len1
      · obtain ⟨b, o, rfl, hcn⟩ := hH.arg HC.out n hlt
        obtain ⟨k, hk⟩ : ∃ k, vs.getD n 0 = k := ⟨_, rfl⟩
        rw [hk] at hcn
        have ha := and1 k
        by_cases hnr : n < R
        · rw [Nat.min_eq_left (by omega)] at hH
          have hi1 : ((items vs n).length : Int) < (R : Int) := by rw [items_len]; omega
          have hi2 : (n : Int) + 1 = (items vs n).length + 1 := by rw [items_len]
          have hi3 : min (n + 1) R = n + 1 := by omega
          by_cases he : k % 2 = 0
          · have hl : items vs (n + 1) = items vs n ++ [(0, [k])] := by rw [items_succ, hk]; simp [itm, he]
            rw [he] at ha
            have cc := cell_held hH k ((n : Int) + 1) _ hi1 hi2 hl
            have H3 := Lib.hid hi3
            clear hk he hl hi1 hi2 hi3 hH
            go_wp2_with (go_at_call 15; ((with_reducible refine cc.mono ?_); clear cc; rintro e w2 ⟨rfl, h2⟩))
            go_roundw
            case rel => exact ⟨n + 1, by omega, by go_num, by rw [H3.out]; exact h2⟩
            case measure => simp [intOf]; omega
          · have he1 : k % 2 = 1 := by omega
            have hl : items vs (n + 1) = items vs n ++ [(7, [k, (n : Int)])] := by rw [items_succ, hk]; simp [itm, he]
            rw [he1] at ha
            have cc := make_lit hH 7 [k, (n : Int)] #[.int .i64 k, .int .i64 (n : Int)] 2 ((n : Int) + 1) _ (by decide) (by simp) rfl rfl hi1 hi2 hl
            have H3 := Lib.hid hi3
            clear hk he he1 hl hi1 hi2 hi3 hH
            go_wp2_with (go_at_call 13; ((with_reducible refine cc.mono ?_); clear cc; rintro e w2 ⟨rfl, h2⟩))
            go_roundw
            case rel => exact ⟨n + 1, by omega, by go_num, by rw [H3.out]; exact h2⟩
            case measure => simp [intOf]; omega
        · rw [Nat.min_eq_right (by omega)] at hH
          have hi1 : (R : Int) = ((items vs R).length : Int) := by rw [items_len]
          have hi3 : min (n + 1) R = R := by omega
          by_cases he : k % 2 = 0
          · rw [he] at ha
            have cc := cell_held_full hH k hi1
            have H3 := Lib.hid hi3
            clear hk he hi1 hi3 hH
            go_wp2_with (go_at_call 15; ((with_reducible refine cc.mono ?_); clear cc; rintro e w2 ⟨rfl, h2⟩))
            go_roundw
            case rel => exact ⟨n + 1, by omega, by go_num, by rw [H3.out]; exact h2⟩
            case measure => simp [intOf]; omega
          · have he1 : k % 2 = 1 := by omega
            rw [he1] at ha
            have cc := fun ao W (hW : Held w W p R 0 (items vs R)) => make_held_full hW 7 ao 2 2 (by decide) (by decide) hi1
            have H3 := Lib.hid hi3
            have HH := Lib.hid hH
            clear hk he he1 hi1 hi3 hH
            go_wp2_with (go_at_call 13; ((with_reducible refine (cc _ _ (HH.out.alloc _)).mono ?_); clear cc; rintro e w2 ⟨rfl, h2⟩))
            go_roundw
            case rel => exact ⟨n + 1, by omega, by go_num, by rw [H3.out]; exact h2⟩
            case measure => simp [intOf]; omega
      · obtain rfl : n = len1 := by omega
        by_cases hRl : n < R
        · rw [Nat.min_eq_left (by omega)] at hH
          have hM1 : n ≤ n := by omega
          have hM2 : n ≤ R := by omega
          have hM3 : (n : Int) ≤ (R : Int) := by omega
          go_wp2_with (fail)
          go_loopw [82] (fun i wr => ∃ (m : Nat) (st : Int), m ≤ n ∧ i = .int .i64 m ∧ Held w wr p R st (items vs n)) (fun i _ => n - (intOf i).toNat)
          case atStart => exact ⟨0, 0, Nat.zero_le _, rfl, hH⟩
          case round =>
            clear hH
            obtain ⟨m, st, hm, rfl, hH⟩ := hrel
            by_cases hlt : m < n
            · obtain ⟨b, o, rfl, hcn⟩ := hH.arg HC.out m (by omega)
              obtain ⟨k, hk⟩ : ∃ k, vs.getD m 0 = k := ⟨_, rfl⟩
              rw [hk] at hcn
              have ha := and1 k
              by_cases he : k % 2 = 0
              · have cc := load_held hH ((m : Int) + 1) k _ (by rw [items_cell vs n m k hlt hk he]; rfl) rfl
                rw [he] at ha
                clear hk he hH
                go_wp2_with (go_at_call 17; ((with_reducible refine cc.mono ?_); clear cc; rintro e w2 ⟨rfl, h2⟩))
                go_roundw
                case rel => exact ⟨m + 1, _, by omega, by go_num, h2⟩
                case measure => simp [intOf]; omega
              · have he1 : k % 2 = 1 := by omega
                have hv := items_val vs n m k hlt hk he1
                rw [he1] at ha
                have HV := Lib.hid hv
                clear hk he he1 hv
                go_wp2_with (first
                  | (go_at_call 23; have cc := val_held hH ((m : Int) + 1) 0 k HV.out.1; ((with_reducible refine cc.mono ?_); clear cc; rintro e w2 ⟨rfl, h2⟩; clear hH))
                  | (go_at_call 23; have cc := val_held h2 ((m : Int) + 1) 1 (m : Int) HV.out.2.1; ((with_reducible refine cc.mono ?_); clear cc; rintro e w3 ⟨rfl, h3⟩; clear h2))
                  | (go_at_call 23; have cc := val_held h3 ((m : Int) + 1) 2 0 HV.out.2.2; ((with_reducible refine cc.mono ?_); clear cc; rintro e w4 ⟨rfl, h4⟩; clear h3)))
                go_roundw
                case rel => exact ⟨m + 1, _, by omega, by go_num, h4⟩
                case measure => simp [intOf]; omega
            · obtain ⟨N, hN⟩ : ∃ N : Int, N = (R : Int) - (n : Int) := ⟨_, rfl⟩
              have cu := used_held hH (n : Int) (by rw [items_len])
              have cr := room_held hH N (by rw [items_len]; exact hN)
              have hs : (((n : Int) + N) == (R : Int)) = true := by simp; omega
              have hN1 : 0 ≤ N := by omega
              have hN2 : N ≤ 30 := by omega
              clear hN
              go_wp2_with (first
                | (go_at_call 27; ((with_reducible refine cu.mono ?_); clear cu; rintro e w2 ⟨rfl, rfl⟩))
                | (go_at_call 28; ((with_reducible refine cr.mono ?_); clear cr; rintro e w3 ⟨rfl, h3⟩))
                | (go_at_call 10; ((with_reducible refine (awake_any _).mono ?_); rintro e w4 ⟨rfl, hb⟩)))
              go_ret
              exact ⟨rfl, (h3.below hb).b⟩
        · rw [Nat.min_eq_right (by omega)] at hH
          have hM1 : R ≤ n := by omega
          have hM2 : R ≤ R := by omega
          have hM3 : (R : Int) ≤ (R : Int) := by omega
          go_wp2_with (fail)
          go_loopw [82] (fun i wr => ∃ (m : Nat) (st : Int), m ≤ R ∧ i = .int .i64 m ∧ Held w wr p R st (items vs R)) (fun i _ => R - (intOf i).toNat)
          case atStart => exact ⟨0, 0, Nat.zero_le _, rfl, hH⟩
          case round =>
            clear hH
            obtain ⟨m, st, hm, rfl, hH⟩ := hrel
            by_cases hlt : m < R
            · obtain ⟨b, o, rfl, hcn⟩ := hH.arg HC.out m (by omega)
              obtain ⟨k, hk⟩ : ∃ k, vs.getD m 0 = k := ⟨_, rfl⟩
              rw [hk] at hcn
              have ha := and1 k
              by_cases he : k % 2 = 0
              · have cc := load_held hH ((m : Int) + 1) k _ (by rw [items_cell vs R m k hlt hk he]; rfl) rfl
                rw [he] at ha
                clear hk he hH
                go_wp2_with (go_at_call 17; ((with_reducible refine cc.mono ?_); clear cc; rintro e w2 ⟨rfl, h2⟩))
                go_roundw
                case rel => exact ⟨m + 1, _, by omega, by go_num, h2⟩
                case measure => simp [intOf]; omega
              · have he1 : k % 2 = 1 := by omega
                have hv := items_val vs R m k hlt hk he1
                rw [he1] at ha
                have HV := Lib.hid hv
                clear hk he he1 hv
                go_wp2_with (first
                  | (go_at_call 23; have cc := val_held hH ((m : Int) + 1) 0 k HV.out.1; ((with_reducible refine cc.mono ?_); clear cc; rintro e w2 ⟨rfl, h2⟩; clear hH))
                  | (go_at_call 23; have cc := val_held h2 ((m : Int) + 1) 1 (m : Int) HV.out.2.1; ((with_reducible refine cc.mono ?_); clear cc; rintro e w3 ⟨rfl, h3⟩; clear h2))
                  | (go_at_call 23; have cc := val_held h3 ((m : Int) + 1) 2 0 HV.out.2.2; ((with_reducible refine cc.mono ?_); clear cc; rintro e w4 ⟨rfl, h4⟩; clear h3)))
                go_roundw
                case rel => exact ⟨m + 1, _, by omega, by go_num, h4⟩
                case measure => simp [intOf]; omega
            · obtain ⟨N, hN⟩ : ∃ N : Int, N = (R : Int) - (R : Int) := ⟨_, rfl⟩
              have cu := used_held hH (R : Int) (by rw [items_len])
              have cr := room_held hH N (by rw [items_len]; exact hN)
              have hs : (((R : Int) + N) == (R : Int)) = true := by simp; omega
              have hN1 : 0 ≤ N := by omega
              have hN2 : N ≤ 30 := by omega
              clear hN
              go_wp2_with (first
                | (go_at_call 27; ((with_reducible refine cu.mono ?_); clear cu; rintro e w2 ⟨rfl, rfl⟩))
                | (go_at_call 28; ((with_reducible refine cr.mono ?_); clear cr; rintro e w3 ⟨rfl, h3⟩))
                | (go_at_call 10; ((with_reducible refine (awake_any _).mono ?_); rintro e w4 ⟨rfl, hb⟩)))
              go_ret
              exact ⟨rfl, (h3.below hb).b⟩

set_option maxRecDepth 100000 in
theorem lifted (os : Os) (started : os.Started) (H : Type) (enc : TypeId × Value → H) :
    ReturnsInHanded {} Try.checked os 7 .any (Rows.arenaFullSpec.pre6 enc Try.prog Try.f7 Rows.arenaFullRow.domain false) (Rows.arenaFullSpec.post enc Try.prog Try.f7 false true false false) := by
  refine returnsInHanded_of_change (C := Try.checked) own started (by kernel_rfl) Try.func7
    (ChangeSpec.witness6 (enc := enc) (C := Try.checked) false ⟨#[], #[.int .i64 0, .slice none 0 0], []⟩ 8 (by kernel_rfl) (by kernel_rfl) (by kernel_rfl) (by kernel_rfl)) ?_
  intro W base args ds gs before hval0 hW hcnd _
  have hval : ∀ (j : Nat) t v, Try.f7.params[j]? = some t → args[j]? = some v → Value.okWide Try.prog W .any base t v := hval0
  have hW' := hW
  obtain ⟨p, q, hA0, hV, rfl, hfz, hnd⟩ := hW
  have hA : DataW.TrodAll enc Try.prog W 0 (fun _ => true) true Try.f7.params.toList args.toList ds p := hA0
  rw [Try.params7] at hA hval
  obtain ⟨v0, vs0, d0, ds0, p0, q0, hargs, rfl, rfl, h0, r0⟩ := trodAll_cons hA
  obtain ⟨v1, vs1, d1, ds1, p1, q1, rfl, rfl, rfl, h1, r1⟩ := trodAll_cons r0
  obtain ⟨rfl, rfl, rfl⟩ := trodAll_nil r1
  obtain rfl : args = #[v0, v1] := by cases args; simp_all
  obtain ⟨rfl, rfl⟩ := trodVars_none hV
  obtain ⟨a0, rfl, rfl, rfl, w0⟩ := open_int Try.underlying3 (hval 0 3 v0 rfl rfl) h0
  obtain ⟨a1, len1, cap1, rfl⟩ := okWide_slice Try.underlying29 (hval 1 29 v1 rfl rfl)
  have k1 := h1
  have lt1 : ∀ x ∈ p1, x.block < W.heap.size := by obtain ⟨m, hm⟩ := k1; exact DataW.trod_lt m _ _ _ hm
  obtain ⟨z1, w1⟩ : ∃ zs, IsRow .i64 W a1 len1 cap1 zs := by
    obtain ⟨fuel, hf⟩ := h1
    rcases open_ints Try.underlying29 Try.underlying3 (by kernel_rfl) hf with ⟨hcs, _⟩ | ⟨x, l, c, zs, hcs, _, hl, hm, hz, _, hcell, hwz⟩
    · simp [Value.cells] at hcs
      obtain ⟨rfl, rfl, rfl⟩ := hcs
      exact ⟨[], .inl ⟨rfl, rfl, rfl, rfl⟩⟩
    · simp [Value.cells] at hcs
      obtain ⟨rfl, rfl, rfl⟩ := hcs
      exact ⟨zs, .inr ⟨_, rfl, hl, hm, by simpa using hz, hcell, hwz⟩⟩
  clear hA0 hval0
  refine (walk a0 a1 len1 cap1 z1 W w0 w1).mono fun e W' ⟨he, bel⟩ => ?_
  subst he
  exact ⟨_, rfl, _, _, _, [], _, [], hW', trodAll_mk1 (shut_bool Try.underlying4 _), (trodAll_cons_mk (shut_int Try.underlying3 w0) (trodAll_cons_mk (Below.trod laidOut (by kernel_rfl) (of_decide_eq_true (by kernel_rfl)) k1 bel lt1) trodAll_mk0)), rfl, bel.frame _, fun h => by cases h⟩

theorem over : Rows.arenaFullRow.holds Try.pinned (OpenSpec.ofChange Rows.arenaFullSpec) :=
  OpenClaim.holds_of_wide 7 Try.f7 rfl rfl rfl rfl rfl rfl rfl ⟨rfl, rfl, rfl, rfl, rfl⟩ rfl rfl rfl rfl rfl (by kernel_rfl) Try.func7 (by kernel_rfl)
    (of_decide_eq_true (by kernel_rfl)) (by unfold Func.isWrapper; first | (rw [if_pos (by decide +kernel)]; kernel_rfl) | (rw [if_neg (by decide +kernel)]; exact ⟨rfl, rfl⟩))
    (fun os started H enc _ => lifted os started H enc)

theorem arenaFullHolds : Rows.ArenaFullSaid := over
#print axioms arenaFullHolds
end Go.Proofs.Ytighdfmjmmphaaa.arenaFull
