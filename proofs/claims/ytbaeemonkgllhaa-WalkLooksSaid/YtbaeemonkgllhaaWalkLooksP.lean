/- 'osierlaw9.WalkLooks' returns true for every argument. No condition. -/
import Derived.Test.YtbaeemonkgllhaaRows
import Derived.Test.YtbaeemonkgllhaaWaAwk
import Derived.Test.YtbaeemonkgllhaaNForm
import Derived.LoopTactic
import Derived.WalkKit
import Derived.ProofKit
import Derived.OpenShut
import Derived.ChangeOld
import Derived.Below
namespace Go.Proofs.Ytbaeemonkgllhaa.walkLooks
open Go.ChangeShapes Go.WideShapes Go.ChangeAt Go.RowKit
set_option linter.all false

theorem own : ownKnob Try.prog.godebug = none := by kernel_rfl
theorem laidOut : laidOutB Try.prog = true := by kernel_rfl

theorem rng_below {l : List Pr} {lo hi : Int} (h : lo ≤ hi) : belowL l lo + (rngL l lo hi).length = belowL l (hi + 1) := by
  unfold belowL rngL
  induction l with
  | nil => rfl
  | cons q l ih =>
    rw [List.filter_cons, List.filter_cons, List.filter_cons]
    by_cases h1 : q.1 < lo
    · rw [if_pos (by simpa using h1), if_neg (by simp; omega), if_pos (by simp; omega)]
      simp only [List.length_cons]; omega
    · by_cases h2 : q.1 ≤ hi
      · rw [if_neg (by simp; omega), if_pos (by simp; omega), if_pos (by simp; omega)]
        simp only [List.length_cons]; omega
      · rw [if_neg (by simp; omega), if_neg (by simp; omega), if_neg (by simp; omega)]
        exact ih

set_option maxRecDepth 100000 in
set_option maxHeartbeats 12800000 in
theorem walk (a0 : Option Addr) (cap0 : Nat) (z0 : List Pr) (a1 : Int) (a2 : Int) (w : World) (w0 : Prs w a0 cap0 z0) (r0 : Rng z0) (w1 : (Lit.int .i64 a1).wf = true) (w2 : (Lit.int .i64 a2).wf = true) :
    Calls Try.prog 7 #[.slice a0 z0.length cap0, .int .i64 a1, .int .i64 a2] w fun e w' => e = .returned (.bool true) ∧ Below w.heap.size w w' := by
  have cp : Calls Try.prog 8 #[.slice a0 z0.length cap0, .int .i64 40] w (PairsIs w 40) := pairs_srt a0 cap0 z0 40 w w0 r0 (by omega)
  have hc0 := w0.1
  have hc1 := w0.2.1
  have hb2 := wf_range w2
  clear w0 r0
  unfold maxLen at hc1
  go_enter Try.func7, Try.ntmps7
  go_wp2_with (fail)
  refine cp.mono ?_
  clear cp
  rintro e W2 ⟨ao, c, l, rfl, hl, hs, hr, hP, hbw⟩
  have hP1 := hP.1
  have hP2 := hP.2.1
  have HBW := Lib.hid hbw
  have HP := Lib.hid hP
  have HS := Lib.hid hs
  have HR := Lib.hid hr
  have hl1000 : l.length ≤ 1000 := by omega
  clear hP hs hr hbw
  unfold maxLen at hP2
  go_wp2_with (first
    | (go_at_call 9; ((with_reducible refine (new_held 100 100 W2 _ (Below.refl _ _) (by decide)).mono ?_); rintro e W3 ⟨p, rfl, h1⟩))
    | (go_at_call 10; ((with_reducible refine (laid_any W2 p _ _ _ ao c l _ [] (Nat.le_refl _) HP.out h1 Good.nil (by simp; omega) (by omega)).mono ?_); rintro e W4 ⟨t, L, rfl, h4, n4, t4, g4⟩; rw [List.nil_append] at h4 t4; have T4 := Lib.hid t4; clear t4 g4 h1 n4))
    | (go_at_call 14; have cc := wall h4 T4.out HS.out hl1000 HR.out l.length rfl; ((with_reducible refine cc.mono ?_); clear cc; rintro e W5 ⟨x5, y5, rfl, m5, k5, hR5, hb5⟩; have h5 := h4.below hb5; have R5 := Lib.hid (hR5.prs rfl); unfold maxLen at k5; clear h4 hb5 hR5)))
  go_loopw [39] (fun i wr => ∃ n : Nat, n ≤ l.length ∧ i = .int .i64 n ∧ Below W5.heap.size W5 wr) (fun i _ => l.length - (intOf i).toNat)
  case atStart => exact ⟨0, Nat.zero_le _, rfl, Below.refl _ _⟩
  case round =>
    obtain ⟨n, hn, rfl, hb⟩ := hrel
    by_cases hlt : n < l.length
    · obtain ⟨q, hq⟩ : ∃ q, l[n]? = some q := ⟨_, List.getElem?_eq_getElem hlt⟩
      obtain ⟨b, o, rfl, c0, c1⟩ := (R5.out.below hb).2.2 n q hq
      obtain ⟨y0, y1⟩ := q
      dsimp only at c0 c1
      have HQ := Lib.hid (show atL l (n : Int) = some (y0, y1) by unfold atL; rw [if_neg (by omega), Int.toNat_natCast]; exact hq)
      have HH := Lib.hid ((h5.below hb).alloc (.cells #[.int .i64 y0, .int .i64 y1] 30))
      clear hq
      go_wp2_with (go_at_call 20; have cc := tnth HH.out T4.out hl1000 n y0 y1 true (by rw [HQ.out]; rfl) (by rw [HQ.out]; rfl); ((with_reducible refine cc.mono ?_); clear cc; rintro e W6 ⟨rfl, hb6⟩; have hb7 := (below_past hb hb6).alloc (below_past hb hb6).size (.cells #[.int .i64 y0, .int .i64 y1] 30); have tw := ((Two.new wr y0 y1 30).keep hb6).past (.cells #[.int .i64 y0, .int .i64 y1] 30); obtain ⟨z0', z1', -, -⟩ := tw))
      go_roundw
      case rel => exact ⟨n + 1, by omega, by go_num, hb7⟩
      case measure => simp [intOf]; omega
    · obtain rfl : n = l.length := by omega
      have h7 := h5.below hb
      have R7 := Lib.hid (R5.out.below hb)
      clear h5 R5 hb hlt hn
      have hnn : ¬ l.length < l.length := by omega
      by_cases h1 : a2 < a1
      · have d1 : decide (a2 < a1) = true := decide_eq_true h1
        clear h1 hb2
        go_wp2_with (first
          | (go_at_call 21; ((with_reducible refine (may_any x5 y5 l _ R7.out HS.out).mono ?_); rintro e W8 ⟨rfl, hb8⟩; have h8 := h7.below hb8; clear h7 hb8))
          | (go_at_call 18; ((with_reducible refine (wawake_any _).mono ?_); rintro e W20 ⟨rfl, hb20⟩; have h20 := h8.below hb20)))
        go_ret
        exact ⟨rfl, HBW.out.trans (h20.b.mono HBW.out.size)⟩
      · have d1 : decide (a2 < a1) = false := decide_eq_false h1
        by_cases h2 : a2 = 9223372036854775807
        · have d2 : (a2 == 9223372036854775807) = true := by simpa using h2
          clear h1 hb2 h2
          go_wp2_with (first
            | (go_at_call 21; ((with_reducible refine (may_any x5 y5 l _ R7.out HS.out).mono ?_); rintro e W8 ⟨rfl, hb8⟩; have h8 := h7.below hb8; clear h7 hb8))
            | (go_at_call 18; ((with_reducible refine (wawake_any _).mono ?_); rintro e W20 ⟨rfl, hb20⟩; have h20 := h8.below hb20)))
          go_ret
          exact ⟨rfl, HBW.out.trans (h20.b.mono HBW.out.size)⟩
        · have d2 : (a2 == 9223372036854775807) = false := by simpa using h2
          have hw : wrap64 (a2 + 1) = a2 + 1 := by unfold wrap64; omega
          have hrb := rng_below (l := l) (lo := a1) (hi := a2) (by omega)
          have hbl := belowL_le l (a2 + 1)
          obtain ⟨nc, hnc⟩ : ∃ n : Int, ((rngL l a1 a2).length : Int) = n := ⟨_, rfl⟩
          obtain ⟨n1, hn1⟩ : ∃ n : Int, (belowL l (a2 + 1) : Int) = n := ⟨_, rfl⟩
          obtain ⟨n2, hn2⟩ : ∃ n : Int, (belowL l a1 : Int) = n := ⟨_, rfl⟩
          have hsub : wrap64 (n1 - n2) = nc := by unfold wrap64; omega
          have HN := Lib.hid (And.intro hnc (And.intro hn1 hn2))
          clear h1 hb2 h2 hrb hbl hnc hn1 hn2
          go_wp2_with (first
            | (go_at_call 16; have cc := wcount h7 T4.out HS.out hl1000 a1 a2 nc HN.out.1; ((with_reducible refine cc.mono ?_); clear cc; rintro e W8 ⟨rfl, hb8⟩; have h8 := h7.below hb8; clear h7 hb8))
            | (go_at_call 22; have cc := tbelow h8 T4.out HS.out hl1000 (a2 + 1) n1 HN.out.2.1; ((with_reducible refine cc.mono ?_); clear cc; rintro e W9 ⟨rfl, hb9⟩; have h9 := h8.below hb9; clear h8 hb9))
            | (go_at_call 22; have cc := tbelow h9 T4.out HS.out hl1000 a1 n2 HN.out.2.2; ((with_reducible refine cc.mono ?_); clear cc; rintro e W10 ⟨rfl, hb10⟩; have h10 := h9.below hb10; clear h9 hb10))
            | (go_at_call 18; ((with_reducible refine (wawake_any _).mono ?_); rintro e W20 ⟨rfl, hb20⟩; have h20 := h10.below hb20)))
          go_ret
          exact ⟨rfl, HBW.out.trans (h20.b.mono HBW.out.size)⟩

set_option maxRecDepth 100000 in
theorem lifted (os : Os) (started : os.Started) (H : Type) (enc : TypeId × Value → H) :
    ReturnsInHanded {} Try.checked os 7 .any (Rows.walkLooksSpec.pre6 enc Try.prog Try.f7 Rows.walkLooksRow.domain false) (Rows.walkLooksSpec.post enc Try.prog Try.f7 false true false false) := by
  refine returnsInHanded_of_change (C := Try.checked) own started (by kernel_rfl) Try.func7
    (ChangeSpec.witness6 (enc := enc) (C := Try.checked) false ⟨#[], #[.slice none 0 0, .int .i64 0, .int .i64 0], []⟩ 8 (by kernel_rfl) (by kernel_rfl) (by kernel_rfl) (by kernel_rfl)) ?_
  intro W base args ds gs before hval0 hW hcnd _
  have hval : ∀ (j : Nat) t v, Try.f7.params[j]? = some t → args[j]? = some v → Value.okWide Try.prog W .any base t v := hval0
  have hW' := hW
  obtain ⟨p, q, hA0, hV, rfl, hfz, hnd⟩ := hW
  have hA : DataW.TrodAll enc Try.prog W 0 (fun _ => true) true Try.f7.params.toList args.toList ds p := hA0
  rw [Try.params7] at hA hval
  obtain ⟨v0, vs0, d0, ds0, p0, q0, hargs, rfl, rfl, h0, r0⟩ := trodAll_cons hA
  obtain ⟨v1, vs1, d1, ds1, p1, q1, rfl, rfl, rfl, h1, r1⟩ := trodAll_cons r0
  obtain ⟨v2, vs2, d2, ds2, p2, q2, rfl, rfl, rfl, h2, r2⟩ := trodAll_cons r1
  obtain ⟨rfl, rfl, rfl⟩ := trodAll_nil r2
  obtain rfl : args = #[v0, v1, v2] := by cases args; simp_all
  obtain ⟨rfl, rfl⟩ := trodVars_none hV
  have k0 := h0
  have lt0 : ∀ x ∈ p0, x.block < W.heap.size := by obtain ⟨m, hm⟩ := k0; exact DataW.trod_lt m _ _ _ hm
  obtain ⟨b0, l0, c0, rfl⟩ := okWide_slice Try.underlying22 (hval 0 22 v0 rfl rfl)
  obtain ⟨a0, cap0, z0, e0, w0, g0⟩ := open_pairsw (enc := enc) (w := W) (v := .slice b0 l0 c0) (fuel := h0.choose) (by simpa [Value.cells] using h0.choose_spec)
  rw [e0] at hval k0 h0 hW' hval0 hA0
  have k1 := h1
  have lt1 : ∀ x ∈ p1, x.block < W.heap.size := by obtain ⟨m, hm⟩ := k1; exact DataW.trod_lt m _ _ _ hm
  obtain ⟨a1, rfl, rfl, rfl, w1⟩ := open_int Try.underlying3 (hval 1 3 v1 rfl rfl) h1
  have k2 := h2
  have lt2 : ∀ x ∈ p2, x.block < W.heap.size := by obtain ⟨m, hm⟩ := k2; exact DataW.trod_lt m _ _ _ hm
  obtain ⟨a2, rfl, rfl, rfl, w2⟩ := open_int Try.underlying3 (hval 2 3 v2 rfl rfl) h2
  clear hA0 hval0
  rw [e0]; refine (walk a0 cap0 z0 a1 a2 W w0 g0 w1 w2).mono fun e W' ⟨he, bel⟩ => ?_
  subst he
  exact ⟨_, rfl, _, _, _, [], _, [], hW', trodAll_mk1 (shut_bool Try.underlying4 _), (trodAll_cons_mk (Below.trod laidOut (by kernel_rfl) (of_decide_eq_true (by kernel_rfl)) k0 bel lt0) (trodAll_cons_mk (Below.trod laidOut (by kernel_rfl) (of_decide_eq_true (by kernel_rfl)) k1 bel lt1) (trodAll_cons_mk (Below.trod laidOut (by kernel_rfl) (of_decide_eq_true (by kernel_rfl)) k2 bel lt2) trodAll_mk0))), rfl, bel.frame _, fun h => by cases h⟩

theorem over : Rows.walkLooksRow.holds Try.pinned (OpenSpec.ofChange Rows.walkLooksSpec) :=
  OpenClaim.holds_of_wide 7 Try.f7 rfl rfl rfl rfl rfl rfl rfl ⟨rfl, rfl, rfl, rfl, rfl⟩ rfl rfl rfl rfl rfl (by kernel_rfl) Try.func7 (by kernel_rfl)
    (of_decide_eq_true (by kernel_rfl)) (by unfold Func.isWrapper; first | (rw [if_pos (by decide +kernel)]; kernel_rfl) | (rw [if_neg (by decide +kernel)]; exact ⟨rfl, rfl⟩))
    (fun os started H enc _ => lifted os started H enc)

theorem walkLooksHolds : Rows.WalkLooksSaid := over
#print axioms walkLooksHolds
end Go.Proofs.Ytbaeemonkgllhaa.walkLooks
