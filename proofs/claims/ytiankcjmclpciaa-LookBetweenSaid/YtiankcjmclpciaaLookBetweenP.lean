/- 'osierlaw4.LookBetween' returns true for every argument. No condition. -/
import Derived.Test.YtiankcjmclpciaaRows
import Derived.Test.YtiankcjmclpciaaLkAwk
import Derived.LoopTactic
import Derived.WalkKit
import Derived.ProofKit
import Derived.OpenShut
import Derived.ChangeOld
import Derived.Below
namespace Go.Proofs.Ytiankcjmclpciaa.lookBetween
open Go.ChangeShapes Go.WideShapes Go.ChangeAt Go.RowKit
set_option linter.all false

theorem own : ownKnob Try.prog.godebug = none := by kernel_rfl
theorem laidOut : laidOutB Try.prog = true := by kernel_rfl

/-- How many keys of the first n are between. -/
def betw (l : List Pr) (j k : Int) (n : Nat) : Nat := ((l.take n).filter (fun q => decide (j ≤ q.1) && decide (q.1 < k))).length
theorem betw_le (l : List Pr) (j k : Int) (n : Nat) : betw l j k n ≤ n := by
  unfold betw
  refine Nat.le_trans (List.length_filter_le _ _) ?_
  rw [List.length_take]; omega
theorem betw_succ {l : List Pr} {n : Nat} {q : Pr} (hq : l[n]? = some q) (j k : Int) : betw l j k (n + 1) = betw l j k n + if j ≤ q.1 ∧ q.1 < k then 1 else 0 := by
  obtain ⟨hn, e⟩ := List.getElem?_eq_some_iff.1 hq
  unfold betw
  rw [List.take_succ_eq_append_getElem hn, List.filter_append, List.length_append, e]
  by_cases h1 : j ≤ q.1 <;> by_cases h2 : q.1 < k <;> simp [h1, h2]
theorem betw_all {l : List Pr} {j k : Int} (h : j ≤ k) : belowL l k = belowL l j + betw l j k l.length := by
  unfold betw belowL
  rw [List.take_of_length_le (Nat.le_refl _)]
  induction l with
  | nil => rfl
  | cons q l ih =>
    by_cases h1 : q.1 < j
    · have h2 : q.1 < k := by omega
      have h3 : ¬ j ≤ q.1 := by omega
      simp [h1, h2, h3]; omega
    · have h3 : j ≤ q.1 := by omega
      by_cases h2 : q.1 < k
      · simp [h1, h2, h3]; omega
      · simp [h1, h2]; simpa using ih
theorem below_min {l : List Pr} (h : Rng l) : belowL l (-9223372036854775808) = 0 := by
  unfold belowL
  rw [List.length_eq_zero_iff, List.filter_eq_nil_iff]
  intro q hq
  have := h.key hq
  simp; omega

set_option maxRecDepth 100000 in
set_option maxHeartbeats 12800000 in
theorem walk (a0 : Option Addr) (cap0 : Nat) (z0 : List Pr) (a1 : Int) (a2 : Int) (w : World) (w0 : Prs w a0 cap0 z0) (r0 : Rng z0) (w1 : (Lit.int .i64 a1).wf = true) (w2 : (Lit.int .i64 a2).wf = true) :
    Calls Try.prog 7 #[.slice a0 z0.length cap0, .int .i64 a1, .int .i64 a2] w fun e w' => e = .returned (.bool true) ∧ Below w.heap.size w w' := by
  have cp : Calls Try.prog 9 #[.slice a0 z0.length cap0, .int .i64 50] w (PairsIs w 50) := pairs_srt a0 cap0 z0 50 w w0 r0 (by omega)
  have hc0 := w0.1
  have hc1 := w0.2.1
  clear w0 r0
  unfold maxLen at hc1
  obtain ⟨j, k, hjk, horder⟩ : ∃ j k : Int, j ≤ k ∧ ((a1 ≤ a2 ∧ j = a1 ∧ k = a2) ∨ (a2 < a1 ∧ j = a2 ∧ k = a1)) := by
    by_cases h : a1 ≤ a2
    · exact ⟨a1, a2, h, .inl ⟨h, rfl, rfl⟩⟩
    · exact ⟨a2, a1, by omega, .inr ⟨by omega, rfl, rfl⟩⟩
  rcases horder with ⟨hcmp, rfl, rfl⟩ | ⟨hcmp, rfl, rfl⟩
  all_goals
    go_enter Try.func7, Try.ntmps7
    go_wp2_with (first
      | (go_at_call 9; ((with_reducible refine cp.mono ?_); clear cp; rintro e W2 ⟨ao, c, l, rfl, hl, hs, hr, hP, hbw⟩; have hP1 := hP.1; have hP2 := hP.2.1; have HP := Lib.hid hP; have HS := Lib.hid hs; have HR := Lib.hid hr; clear hP hs hr; unfold maxLen at hP2))
      | (go_at_call 10; ((with_reducible refine (new_held 100 100 W2 _ (Below.refl _ _) (by decide)).mono ?_); rintro e W3 ⟨p, rfl, h1⟩))
      | (go_at_call 11; ((with_reducible refine (laid_any W2 p _ _ _ ao c l _ [] (Nat.le_refl _) HP.out h1 Good.nil (by simp; omega) (by omega)).mono ?_); rintro e W4 ⟨t, L, rfl, h4, n4, t4, g4⟩; rw [List.nil_append] at h4 t4; have T4 := Lib.hid t4; have H4 := Lib.hid h4; clear t4 g4 h1 n4 h4)))
    go_loopw [11, 30] (fun m i wr => ∃ n : Nat, n ≤ l.length ∧ i = .int .i64 n ∧ m = .int .i64 (betw l j k n : Nat) ∧ Held W2 wr p 100 0 L) (fun _ i _ => l.length - (intOf i).toNat)
    case atStart => exact ⟨0, Nat.zero_le _, rfl, rfl, H4.out⟩
    case round =>
      clear H4
      obtain ⟨n, hn, rfl, rfl, hH⟩ := hrel
      have HH := Lib.hid hH
      have hble := betw_le l j k n
      clear hH
      by_cases hlt : n < l.length
      · obtain ⟨q, hq⟩ : ∃ q, l[n]? = some q := ⟨_, List.getElem?_eq_getElem hlt⟩
        obtain ⟨b, o, rfl, c0, c1⟩ := (HP.out.below HH.out.b).2.2 n q hq
        have hsu := betw_succ hq j k
        obtain ⟨x0, x1⟩ := q
        dsimp only at c0 c1 hsu
        have h5 := HH.out.alloc (.cells #[.int .i64 x0, .int .i64 x1] 31)
        obtain ⟨m, hm⟩ : ∃ m, betw l j k n = m := ⟨_, rfl⟩
        rw [hm] at hsu hble
        rw [hm]
        clear hq hm
        by_cases g1 : j ≤ x0
        · by_cases g2 : x0 < k
          · rw [if_pos ⟨g1, g2⟩] at hsu
            have HSU := Lib.hid hsu
            clear hsu
            go_wp2_with (fail)
            go_roundw
            case rel => exact ⟨n + 1, by omega, by go_num, by rw [HSU.out]; go_num, h5⟩
            case measure => simp [intOf]; omega
          · rw [if_neg (fun h => g2 h.2)] at hsu
            have HSU := Lib.hid hsu
            clear hsu
            go_wp2_with (fail)
            go_roundw
            case rel => exact ⟨n + 1, by omega, by go_num, by rw [HSU.out]; go_num, h5⟩
            case measure => simp [intOf]; omega
        · rw [if_neg (fun h => g1 h.1)] at hsu
          have HSU := Lib.hid hsu
          clear hsu
          go_wp2_with (fail)
          go_roundw
          case rel => exact ⟨n + 1, by omega, by go_num, by rw [HSU.out]; go_num, h5⟩
          case measure => simp [intOf]; omega
      · obtain rfl : n = l.length := by omega
        have hba := betw_all (l := l) hjk
        have hmin := below_min HR.out
        obtain ⟨m, hm⟩ : ∃ m, betw l j k l.length = m := ⟨_, rfl⟩
        obtain ⟨bj, hbj⟩ : ∃ m, belowL l j = m := ⟨_, rfl⟩
        obtain ⟨bk, hbk⟩ : ∃ m, belowL l k = m := ⟨_, rfl⟩
        have hbl := belowL_le l k
        rw [hm, hbj, hbk] at hba
        rw [hbk] at hbl
        rw [hm] at hble
        rw [hm]
        have HBJ := Lib.hid hbj
        have HBK := Lib.hid hbk
        have HMIN := Lib.hid hmin
        have hsub : IntKind.i64.wrap ((bk : Int) - (bj : Int)) = (m : Int) := by rw [IntKind.wrap_i64]; omega
        have hsub2 : wrap64 ((bk : Int) - (bj : Int)) = (m : Int) := by unfold wrap64; omega
        have hsub3 : (bk : Int) - (bj : Int) = (m : Int) := by omega
        clear hm hbj hbk hmin hba
        go_wp2_with (first
          | (go_at_call 20; have cc := tbelow HH.out T4.out HS.out (by omega) k bk (by rw [HBK.out]); ((with_reducible refine cc.mono ?_); clear cc; rintro e W6 ⟨rfl, hb6⟩; have h6 := HH.out.below hb6; clear hb6))
          | (go_at_call 20; have cc := tbelow h6 T4.out HS.out (by omega) j bj (by rw [HBJ.out]); ((with_reducible refine cc.mono ?_); clear cc; rintro e W7 ⟨rfl, hb7⟩; have h7 := h6.below hb7; clear hb7))
          | (go_at_call 20; have cc := tbelow h7 T4.out HS.out (by omega) (-9223372036854775808) 0 (by rw [HMIN.out]; rfl); ((with_reducible refine cc.mono ?_); clear cc; rintro e W8 ⟨rfl, hb8⟩; have h8 := h7.below hb8; clear hb8))
          | (go_at_call 25; ((with_reducible refine (may_any ao c l _ (HP.out.below h8.b) HS.out).mono ?_); rintro e W9 ⟨rfl, hb9⟩; have h9 := h8.below hb9; clear hb9))
          | (go_at_call 21; ((with_reducible refine (lawake_any _).mono ?_); rintro e W10 ⟨rfl, hb10⟩; have h10 := h9.below hb10; clear hb10)))
        go_ret
        exact ⟨rfl, hbw.trans (h10.b.mono hbw.size)⟩

set_option maxRecDepth 100000 in
theorem lifted (os : Os) (started : os.Started) (H : Type) (enc : TypeId × Value → H) :
    ReturnsInHanded {} Try.checked os 7 .any (Rows.lookBetweenSpec.pre6 enc Try.prog Try.f7 Rows.lookBetweenRow.domain false) (Rows.lookBetweenSpec.post enc Try.prog Try.f7 false true false false) := by
  refine returnsInHanded_of_change (C := Try.checked) own started (by kernel_rfl) Try.func7
    (ChangeSpec.witness6 (enc := enc) (C := Try.checked) false ⟨#[], #[.slice none 0 0, .int .i64 0, .int .i64 0], []⟩ 8 (by kernel_rfl) (by kernel_rfl) (by kernel_rfl) (by kernel_rfl)) ?_
  intro W base args ds gs before hval0 hW hcnd _
  have hval : ∀ (j : Nat) t v, Try.f7.params[j]? = some t → args[j]? = some v → Value.okWide Try.prog W .any base t v := hval0
  have hW' := hW
  obtain ⟨p, q, hA0, hV, rfl, hfz, hnd⟩ := hW
  have hA : DataW.TrodAll enc Try.prog W 0 (fun _ => true) true Try.f7.params.toList args.toList ds p := hA0
  rw [Try.params7] at hA hval
  obtain ⟨v0, vs0, d0, ds0, p0, q0, hargs, rfl, rfl, h0, r0⟩ := trodAll_cons hA
  obtain ⟨v1, vs1, d1, ds1, p1, q1, rfl, rfl, rfl, h1, r1⟩ := trodAll_cons r0
  obtain ⟨v2, vs2, d2, ds2, p2, q2, rfl, rfl, rfl, h2, r2⟩ := trodAll_cons r1
  obtain ⟨rfl, rfl, rfl⟩ := trodAll_nil r2
  obtain rfl : args = #[v0, v1, v2] := by cases args; simp_all
  obtain ⟨rfl, rfl⟩ := trodVars_none hV
  have k0 := h0
  have lt0 : ∀ x ∈ p0, x.block < W.heap.size := by obtain ⟨m, hm⟩ := k0; exact DataW.trod_lt m _ _ _ hm
  obtain ⟨b0, l0, c0, rfl⟩ := okWide_slice Try.underlying22 (hval 0 22 v0 rfl rfl)
  obtain ⟨a0, cap0, z0, e0, w0, g0⟩ := open_pairsw (enc := enc) (w := W) (v := .slice b0 l0 c0) (fuel := h0.choose) (by simpa [Value.cells] using h0.choose_spec)
  rw [e0] at hval k0 h0 hW' hval0 hA0
  have k1 := h1
  have lt1 : ∀ x ∈ p1, x.block < W.heap.size := by obtain ⟨m, hm⟩ := k1; exact DataW.trod_lt m _ _ _ hm
  obtain ⟨a1, rfl, rfl, rfl, w1⟩ := open_int Try.underlying3 (hval 1 3 v1 rfl rfl) h1
  have k2 := h2
  have lt2 : ∀ x ∈ p2, x.block < W.heap.size := by obtain ⟨m, hm⟩ := k2; exact DataW.trod_lt m _ _ _ hm
  obtain ⟨a2, rfl, rfl, rfl, w2⟩ := open_int Try.underlying3 (hval 2 3 v2 rfl rfl) h2
  clear hA0 hval0
  rw [e0]; refine (walk a0 cap0 z0 a1 a2 W w0 g0 w1 w2).mono fun e W' ⟨he, bel⟩ => ?_
  subst he
  exact ⟨_, rfl, _, _, _, [], _, [], hW', trodAll_mk1 (shut_bool Try.underlying4 _), (trodAll_cons_mk (Below.trod laidOut (by kernel_rfl) (of_decide_eq_true (by kernel_rfl)) k0 bel lt0) (trodAll_cons_mk (Below.trod laidOut (by kernel_rfl) (of_decide_eq_true (by kernel_rfl)) k1 bel lt1) (trodAll_cons_mk (Below.trod laidOut (by kernel_rfl) (of_decide_eq_true (by kernel_rfl)) k2 bel lt2) trodAll_mk0))), rfl, bel.frame _, fun h => by cases h⟩

theorem over : Rows.lookBetweenRow.holds Try.pinned (OpenSpec.ofChange Rows.lookBetweenSpec) :=
  OpenClaim.holds_of_wide 7 Try.f7 rfl rfl rfl rfl rfl rfl rfl ⟨rfl, rfl, rfl, rfl, rfl⟩ rfl rfl rfl rfl rfl (by kernel_rfl) Try.func7 (by kernel_rfl)
    (of_decide_eq_true (by kernel_rfl)) (by unfold Func.isWrapper; first | (rw [if_pos (by decide +kernel)]; kernel_rfl) | (rw [if_neg (by decide +kernel)]; exact ⟨rfl, rfl⟩))
    (fun os started H enc _ => lifted os started H enc)

theorem lookBetweenHolds : Rows.LookBetweenSaid := over
#print axioms lookBetweenHolds
end Go.Proofs.Ytiankcjmclpciaa.lookBetween
