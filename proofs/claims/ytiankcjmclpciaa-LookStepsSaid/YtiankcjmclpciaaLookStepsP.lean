/- 'osierlaw4.LookSteps' returns true for every argument. No condition. -/
import Derived.Test.YtiankcjmclpciaaRows
import Derived.Test.YtiankcjmclpciaaLkAwk
import Derived.LoopTactic
import Derived.WalkKit
import Derived.ProofKit
import Derived.OpenShut
import Derived.ChangeOld
import Derived.Below
namespace Go.Proofs.Ytiankcjmclpciaa.lookSteps
open Go.ChangeShapes Go.WideShapes Go.ChangeAt Go.RowKit
set_option linter.all false

theorem own : ownKnob Try.prog.godebug = none := by kernel_rfl
theorem laidOut : laidOutB Try.prog = true := by kernel_rfl

theorem belowL_mono {l : List Pr} {i : Nat} {q : Pr} (hs : Srt l) (hq : l[i]? = some q) : belowL l (q.1 - 1) ≤ i := by
  rw [belowL_left hs hq (by omega)]
  refine Nat.le_trans (belowL_le _ _) ?_
  rw [List.length_take]; omega

set_option maxRecDepth 100000 in
set_option maxHeartbeats 12800000 in
theorem walk (a0 : Option Addr) (cap0 : Nat) (z0 : List Pr) (a1 : Int) (w : World) (w0 : Prs w a0 cap0 z0) (r0 : Rng z0) (w1 : (Lit.int .i64 a1).wf = true) :
    Calls Try.prog 5 #[.slice a0 z0.length cap0, .int .i64 a1] w fun e w' => e = .returned (.bool true) ∧ Below w.heap.size w w' := by
  have cp : Calls Try.prog 9 #[.slice a0 z0.length cap0, .int .i64 60] w (PairsIs w 60) := pairs_srt a0 cap0 z0 60 w w0 r0 (by omega)
  have hc0 := w0.1
  have hc1 := w0.2.1
  clear w0 r0
  unfold maxLen at hc1
  go_enter Try.func5, Try.ntmps5
  go_wp2_with (fail)
  refine cp.mono ?_
  clear cp
  rintro e W2 ⟨ao, c, l, rfl, hl, hs, hr, hP, hbw⟩
  have hP1 := hP.1
  have hP2 := hP.2.1
  have HP := Lib.hid hP
  have HS := Lib.hid hs
  have HR := Lib.hid hr
  clear hP hs hr
  unfold maxLen at hP2
  by_cases hz : l.length = 0
  · obtain rfl := List.eq_nil_of_length_eq_zero hz
    clear hz
    go_wp2_with (go_at_call 21; ((with_reducible refine (lawake_any _).mono ?_); rintro e W9 ⟨rfl, hb9⟩))
    go_ret
    exact ⟨rfl, hbw.trans (hb9.mono hbw.size)⟩
  · have hpos : 0 < l.length := by omega
    have hz' : ((l.length : Int) == 0) = false := by rw [beq_eq_false_iff_ne]; omega
    clear hz
    obtain ⟨n, hn, hum⟩ := umod a1 (l.length : Int) (by omega) (by omega)
    have hn : n < l.length := by omega
    obtain ⟨q, hq⟩ : ∃ q, l[n]? = some q := ⟨_, List.getElem?_eq_getElem hn⟩
    have hkey := HR.out.key (List.mem_of_getElem? hq)
    have hbel := belowL_here HS.out hq
    have hbel2 := belowL_mono HS.out hq
    have hf := findL_here HS.out hq
    obtain ⟨x0, x1⟩ := q
    dsimp only at hkey hbel hbel2 hf
    obtain ⟨bl, hbl⟩ : ∃ m, belowL l (x0 - 1) = m := ⟨_, rfl⟩
    rw [hbl] at hbel2
    have HQ := Lib.hid hq
    have HB := Lib.hid hbel
    have HB2 := Lib.hid hbl
    have HF := Lib.hid hf
    have HU := Lib.hid hum
    clear hq hbel hf hum hbl
    go_wp2_with (first
    | (go_at_call 10; ((with_reducible refine (new_held 100 100 W2 _ (Below.refl _ _) (by decide)).mono ?_); rintro e W3 ⟨p, rfl, h1⟩))
    | (go_at_call 11; ((with_reducible refine (laid_any W2 p _ _ _ ao c l _ [] (Nat.le_refl _) HP.out h1 Good.nil (by simp; omega) (by omega)).mono ?_); rintro e W4 ⟨t, L, rfl, h4, n4, t4, g4⟩; rw [List.nil_append] at h4 t4; have T4 := Lib.hid t4; clear t4 g4 h1 n4)))
    rw [HU.out]
    refine (tnth h4 T4.out (by omega) n x0 x1 true (by unfold atL; rw [if_neg (by omega), Int.toNat_natCast, HQ.out]; rfl) (by unfold atL; rw [if_neg (by omega), Int.toNat_natCast, HQ.out]; rfl)).mono ?_
    rintro e W5 ⟨rfl, hb5⟩
    have h5 := (h4.below hb5).alloc (.cells #[.int .i64 x0, .int .i64 x1] 31)
    clear hb5 h4
    by_cases hn0 : n = 0
    · subst hn0
      go_wp2_with (first
        | (go_at_call 12; have cc := tget h5 T4.out HS.out x0 x1 true (by rw [HF.out]; rfl) (by rw [HF.out]; rfl); ((with_reducible refine cc.mono ?_); clear cc; rintro e W7 ⟨rfl, hb7⟩; have h7 := h5.below hb7; have v0 := cell_new hb7 0 rfl; have v1 := cell_new hb7 1 rfl; clear hb7))
        | (go_at_call 20; have cc := tbelow h7 T4.out HS.out (by omega) x0 0 (by rw [HB.out]; rfl); ((with_reducible refine cc.mono ?_); clear cc; rintro e W8 ⟨rfl, hb8⟩; have h8 := h7.below hb8; clear hb8))
        | (go_at_call 21; ((with_reducible refine (lawake_any _).mono ?_); rintro e W10 ⟨rfl, hb10⟩; have h10 := h8.below hb10; clear hb10)))
      go_ret
      exact ⟨rfl, hbw.trans (h10.b.mono hbw.size)⟩
    · have hx : -9223372036854775808 < x0 := by
        obtain ⟨q, hq⟩ : ∃ q, l[0]? = some q := ⟨_, List.getElem?_eq_getElem hpos⟩
        have h1 := HS.out.at 0 n q (x0, x1) (by omega) hq HQ.out
        have h2 := HR.out.key (List.mem_of_getElem? hq)
        dsimp only at h1
        omega
      have hn0' : ((n : Int) == 0) = false := by rw [beq_eq_false_iff_ne]; omega
      have hn0'' : (n == 0) = false := by rw [beq_eq_false_iff_ne]; omega
      have hsub : wrap64 (x0 - 1) = x0 - 1 := by unfold wrap64; omega
      have hle : (bl : Int) ≤ (n : Int) := by omega
      clear hn0
      go_wp2_with (first
        | (go_at_call 12; have cc := tget h5 T4.out HS.out x0 x1 true (by rw [HF.out]; rfl) (by rw [HF.out]; rfl); ((with_reducible refine cc.mono ?_); clear cc; rintro e W7 ⟨rfl, hb7⟩; have h7 := h5.below hb7; have v0 := cell_new hb7 0 rfl; have v1 := cell_new hb7 1 rfl; clear hb7))
        | (go_at_call 20; have cc := tbelow h7 T4.out HS.out (by omega) x0 n (by rw [HB.out]); ((with_reducible refine cc.mono ?_); clear cc; rintro e W8 ⟨rfl, hb8⟩; have h8 := h7.below hb8; have y0 := (hb8.cell (World.block_lt_of_cell? _ _ v0)).trans v0; clear hb8))
        | (go_at_call 20; have cc := tbelow h8 T4.out HS.out (by omega) (x0 - 1) bl (by rw [HB2.out]); ((with_reducible refine cc.mono ?_); clear cc; rintro e W9 ⟨rfl, hb9⟩; have h9 := h8.below hb9; clear hb9))
        | (go_at_call 21; ((with_reducible refine (lawake_any _).mono ?_); rintro e W10 ⟨rfl, hb10⟩; have h10 := h9.below hb10; clear hb10)))
      go_ret
      exact ⟨rfl, hbw.trans (h10.b.mono hbw.size)⟩

set_option maxRecDepth 100000 in
theorem lifted (os : Os) (started : os.Started) (H : Type) (enc : TypeId × Value → H) :
    ReturnsInHanded {} Try.checked os 5 .any (Rows.lookStepsSpec.pre6 enc Try.prog Try.f5 Rows.lookStepsRow.domain false) (Rows.lookStepsSpec.post enc Try.prog Try.f5 false true false false) := by
  refine returnsInHanded_of_change (C := Try.checked) own started (by kernel_rfl) Try.func5
    (ChangeSpec.witness6 (enc := enc) (C := Try.checked) false ⟨#[], #[.slice none 0 0, .int .i64 0], []⟩ 8 (by kernel_rfl) (by kernel_rfl) (by kernel_rfl) (by kernel_rfl)) ?_
  intro W base args ds gs before hval0 hW hcnd _
  have hval : ∀ (j : Nat) t v, Try.f5.params[j]? = some t → args[j]? = some v → Value.okWide Try.prog W .any base t v := hval0
  have hW' := hW
  obtain ⟨p, q, hA0, hV, rfl, hfz, hnd⟩ := hW
  have hA : DataW.TrodAll enc Try.prog W 0 (fun _ => true) true Try.f5.params.toList args.toList ds p := hA0
  rw [Try.params5] at hA hval
  obtain ⟨v0, vs0, d0, ds0, p0, q0, hargs, rfl, rfl, h0, r0⟩ := trodAll_cons hA
  obtain ⟨v1, vs1, d1, ds1, p1, q1, rfl, rfl, rfl, h1, r1⟩ := trodAll_cons r0
  obtain ⟨rfl, rfl, rfl⟩ := trodAll_nil r1
  obtain rfl : args = #[v0, v1] := by cases args; simp_all
  obtain ⟨rfl, rfl⟩ := trodVars_none hV
  have k0 := h0
  have lt0 : ∀ x ∈ p0, x.block < W.heap.size := by obtain ⟨m, hm⟩ := k0; exact DataW.trod_lt m _ _ _ hm
  obtain ⟨b0, l0, c0, rfl⟩ := okWide_slice Try.underlying22 (hval 0 22 v0 rfl rfl)
  obtain ⟨a0, cap0, z0, e0, w0, g0⟩ := open_pairsw (enc := enc) (w := W) (v := .slice b0 l0 c0) (fuel := h0.choose) (by simpa [Value.cells] using h0.choose_spec)
  rw [e0] at hval k0 h0 hW' hval0 hA0
  have k1 := h1
  have lt1 : ∀ x ∈ p1, x.block < W.heap.size := by obtain ⟨m, hm⟩ := k1; exact DataW.trod_lt m _ _ _ hm
  obtain ⟨a1, rfl, rfl, rfl, w1⟩ := open_int Try.underlying3 (hval 1 3 v1 rfl rfl) h1
  clear hA0 hval0
  rw [e0]; refine (walk a0 cap0 z0 a1 W w0 g0 w1).mono fun e W' ⟨he, bel⟩ => ?_
  subst he
  exact ⟨_, rfl, _, _, _, [], _, [], hW', trodAll_mk1 (shut_bool Try.underlying4 _), (trodAll_cons_mk (Below.trod laidOut (by kernel_rfl) (of_decide_eq_true (by kernel_rfl)) k0 bel lt0) (trodAll_cons_mk (Below.trod laidOut (by kernel_rfl) (of_decide_eq_true (by kernel_rfl)) k1 bel lt1) trodAll_mk0)), rfl, bel.frame _, fun h => by cases h⟩

theorem over : Rows.lookStepsRow.holds Try.pinned (OpenSpec.ofChange Rows.lookStepsSpec) :=
  OpenClaim.holds_of_wide 5 Try.f5 rfl rfl rfl rfl rfl rfl rfl ⟨rfl, rfl, rfl, rfl, rfl⟩ rfl rfl rfl rfl rfl (by kernel_rfl) Try.func5 (by kernel_rfl)
    (of_decide_eq_true (by kernel_rfl)) (by unfold Func.isWrapper; first | (rw [if_pos (by decide +kernel)]; kernel_rfl) | (rw [if_neg (by decide +kernel)]; exact ⟨rfl, rfl⟩))
    (fun os started H enc _ => lifted os started H enc)

theorem lookStepsHolds : Rows.LookStepsSaid := over
#print axioms lookStepsHolds
end Go.Proofs.Ytiankcjmclpciaa.lookSteps
