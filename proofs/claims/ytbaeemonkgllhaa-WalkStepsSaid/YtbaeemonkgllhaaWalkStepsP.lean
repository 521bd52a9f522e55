/- 'osierlaw9.WalkSteps' returns true for every argument. No condition. -/
import Derived.Test.YtbaeemonkgllhaaRows
import Derived.Test.YtbaeemonkgllhaaWaAwk
import Derived.Test.YtbaeemonkgllhaaNForm
import Derived.LoopTactic
import Derived.WalkKit
import Derived.ProofKit
import Derived.OpenShut
import Derived.ChangeOld
import Derived.Below
namespace Go.Proofs.Ytbaeemonkgllhaa.walkSteps
open Go.ChangeShapes Go.WideShapes Go.ChangeAt Go.RowKit
set_option linter.all false

theorem own : ownKnob Try.prog.godebug = none := by kernel_rfl
theorem laidOut : laidOutB Try.prog = true := by kernel_rfl

theorem nextL_at {l : List Pr} {n : Nat} {q : Pr} {k : Int} (hq : l[n]? = some q) (h1 : ∀ z ∈ l.take n, z.1 ≤ k) (h2 : k < q.1) : nextL l k = some q := by
  have e := split_at hq
  conv => lhs; rw [e]
  rw [nextL_app, nextL_none h1, Option.none_or, nextL_here h2]
/-- How far the steps have come. -/
def Far (l : List Pr) (n : Nat) (k : Int) : Prop := (∀ z ∈ l.take n, z.1 ≤ k) ∧ (∀ z ∈ l.drop n, k < z.1)
theorem Far.start {l : List Pr} (hs : Srt l) {q : Pr} (hq : l[0]? = some q) : Far l 0 (q.1 - 1) := by
  refine ⟨by simp, fun z hz => ?_⟩
  rw [split_at hq] at hz
  simp at hz
  rcases hz with rfl | hz
  · omega
  · have := hs.above hq z (by simpa using hz); omega
theorem Far.step {l : List Pr} (hs : Srt l) {n : Nat} {q : Pr} (hq : l[n]? = some q) : Far l (n + 1) q.1 := by
  refine ⟨fun z hz => ?_, fun z hz => hs.above hq z hz⟩
  have hn := (List.getElem?_eq_some_iff.1 hq).1
  rw [List.take_succ_eq_append_getElem hn, List.mem_append] at hz
  rcases hz with hz | hz
  · have := hs.below hq z hz; omega
  · rw [List.mem_singleton.1 hz, (List.getElem?_eq_some_iff.1 hq).2]; exact Int.le_refl _
theorem Far.next {l : List Pr} {n : Nat} {k : Int} (h : Far l n k) {q : Pr} (hq : l[n]? = some q) : nextL l k = some q :=
  nextL_at hq h.1 (h.2 q (by rw [List.drop_eq_getElem_cons (List.getElem?_eq_some_iff.1 hq).1, (List.getElem?_eq_some_iff.1 hq).2]; exact List.mem_cons_self ..))
theorem Far.last {l : List Pr} {k : Int} (h : Far l l.length k) : nextL l k = none := nextL_none (fun z hz => h.1 z (by rw [List.take_of_length_le (Nat.le_refl _)]; exact hz))

set_option maxRecDepth 100000 in
set_option maxHeartbeats 12800000 in
theorem walk (a0 : Option Addr) (cap0 : Nat) (z0 : List Pr) (w : World) (w0 : Prs w a0 cap0 z0) (r0 : Rng z0) :
    Calls Try.prog 4 #[.slice a0 z0.length cap0] w fun e w' => e = .returned (.bool true) ∧ Below w.heap.size w w' := by
  have cp : Calls Try.prog 8 #[.slice a0 z0.length cap0, .int .i64 60] w (PairsIs w 60) := pairs_srt a0 cap0 z0 60 w w0 r0 (by omega)
  have hc0 := w0.1
  have hc1 := w0.2.1
  clear w0 r0
  unfold maxLen at hc1
  go_enter Try.func4, Try.ntmps4
  go_wp2_with (fail)
  refine cp.mono ?_
  clear cp
  rintro e W2 ⟨ao, c, l, rfl, hl, hs, hr, hP, hbw⟩
  have hP1 := hP.1
  have hP2 := hP.2.1
  have HBW := Lib.hid hbw
  by_cases hz : l.length = 0
  · obtain rfl := List.eq_nil_of_length_eq_zero hz
    clear hP hs hr hbw hz hl hP1 hP2
    go_wp2_with (go_at_call 18; ((with_reducible refine (wawake_any _).mono ?_); rintro e W8 ⟨rfl, hb8⟩))
    go_ret
    exact ⟨rfl, HBW.out.trans (hb8.mono HBW.out.size)⟩
  · obtain ⟨q, hq⟩ : ∃ q, l[0]? = some q := ⟨_, List.getElem?_eq_getElem (by omega)⟩
    obtain ⟨b, o, rfl, c0, c1⟩ := hP.2.2 0 q hq
    have hb1 := wf_range (hr q (List.mem_of_getElem? hq)).1
    obtain ⟨x0, x1⟩ := q
    dsimp only at c0 c1 hb1
    have hz' : ((l.length : Int) == 0) = false := by rw [beq_eq_false_iff_ne]; omega
    have hz2 : (0 : Int) < (l.length : Int) := by omega
    have d0 : W2.cell? ⟨b, o, none⟩ = some (.int .i64 x0) := by simpa using c0
    have HP := Lib.hid hP
    have HS := Lib.hid hs
    have HQ := Lib.hid hq
    have D0 := Lib.hid d0
    have hl1000 : l.length ≤ 1000 := by omega
    clear c0 c1 hP hs hr hq hbw hz
    unfold maxLen at hP2
    by_cases hm : x0 = -9223372036854775808
    · have hm' : (x0 == -9223372036854775808) = true := by simpa using hm
      clear hm hb1
      go_wp2_with (go_at_call 18; ((with_reducible refine (wawake_any _).mono ?_); rintro e W8 ⟨rfl, hb8⟩))
      go_ret
      exact ⟨rfl, HBW.out.trans (hb8.mono HBW.out.size)⟩
    · have hm' : (x0 == -9223372036854775808) = false := by simpa using hm
      have hw1 : wrap64 (x0 - 1) = x0 - 1 := by unfold wrap64; omega
      have HW1 := Lib.hid hw1.symm
      have HF := Lib.hid (Far.start HS.out HQ.out)
      dsimp only at HF
      clear hm hb1
      go_wp2_with (first
        | (go_at_call 9; ((with_reducible refine (new_held 100 100 W2 _ (Below.refl _ _) (by decide)).mono ?_); rintro e W3 ⟨p, rfl, h1⟩))
        | (go_at_call 10; ((with_reducible refine (laid_any W2 p _ _ _ _ c l _ [] (Nat.le_refl _) HP.out h1 Good.nil (by simp; omega) (by omega)).mono ?_); rintro e W4 ⟨t, L, rfl, h4, n4, t4, g4⟩; rw [List.nil_append] at h4 t4; have T4 := Lib.hid t4; have e0 := h4.old D0.out; clear t4 g4 h1 n4)))
      go_loopw [7, 43] (fun at' i wr => ∃ (n : Nat) (k : Int), n ≤ l.length ∧ at' = .int .i64 k ∧ i = .int .i64 n ∧ Far l n k ∧ Held W2 wr p 100 0 L) (fun _ i _ => l.length - (intOf i).toNat)
      case atStart => exact ⟨0, _, Nat.zero_le _, rfl, rfl, HW1.out ▸ HF.out, h4⟩
      case round =>
        clear e0 h4 hm' hw1 HF d0
        obtain ⟨n, k, hn, rfl, rfl, hf, hH⟩ := hrel
        by_cases hlt : n < l.length
        · obtain ⟨q, hq⟩ : ∃ q, l[n]? = some q := ⟨_, List.getElem?_eq_getElem hlt⟩
          obtain ⟨b', o', e', c0, c1⟩ := (HP.out.below hH.b).2.2 n q hq
          cases e'
          have cn := hf.next hq
          obtain ⟨y0, y1⟩ := q
          dsimp only at c0 c1
          have HN := Lib.hid cn
          have HF := Lib.hid (Far.step HS.out hq)
          dsimp only at HF
          clear hf hq cn
          go_wp2_with (go_at_call 12; have cc := wnext (hH.alloc (.cells #[.int .i64 y0, .int .i64 y1] 30)) T4.out HS.out hl1000 k y0 y1 true (by rw [HN.out]; rfl) (by rw [HN.out]; rfl); ((with_reducible refine cc.mono ?_); clear cc; rintro e W6 ⟨rfl, hb6⟩; have h6 := ((hH.alloc _).below hb6).alloc (.cells #[.int .i64 y0, .int .i64 y1] 30); have tw := ((Two.new wr y0 y1 30).keep hb6).past (.cells #[.int .i64 y0, .int .i64 y1] 30); obtain ⟨z0, z1, -, -⟩ := tw))
          go_roundw
          case rel => exact ⟨n + 1, y0, by omega, rfl, by go_num, HF.out, h6⟩
          case measure => simp [intOf]; omega
        · obtain rfl : n = l.length := by omega
          have HN := Lib.hid hf.last
          clear hf
          go_wp2_with (first
            | (go_at_call 12; have cc := wnext hH T4.out HS.out hl1000 k 0 0 false (by rw [HN.out]; rfl) (by rw [HN.out]; rfl); ((with_reducible refine cc.mono ?_); clear cc; rintro e W6 ⟨rfl, hb6⟩; have h6 := (hH.below hb6).alloc (.cells #[.int .i64 0, .int .i64 0] 30)))
            | (go_at_call 18; ((with_reducible refine (wawake_any _).mono ?_); rintro e W8 ⟨rfl, hb8⟩; have h8 := h6.below hb8)))
          go_ret
          exact ⟨rfl, HBW.out.trans (h8.b.mono HBW.out.size)⟩

set_option maxRecDepth 100000 in
theorem lifted (os : Os) (started : os.Started) (H : Type) (enc : TypeId × Value → H) :
    ReturnsInHanded {} Try.checked os 4 .any (Rows.walkStepsSpec.pre6 enc Try.prog Try.f4 Rows.walkStepsRow.domain false) (Rows.walkStepsSpec.post enc Try.prog Try.f4 false true false false) := by
  refine returnsInHanded_of_change (C := Try.checked) own started (by kernel_rfl) Try.func4
    (ChangeSpec.witness6 (enc := enc) (C := Try.checked) false ⟨#[], #[.slice none 0 0], []⟩ 8 (by kernel_rfl) (by kernel_rfl) (by kernel_rfl) (by kernel_rfl)) ?_
  intro W base args ds gs before hval0 hW hcnd _
  have hval : ∀ (j : Nat) t v, Try.f4.params[j]? = some t → args[j]? = some v → Value.okWide Try.prog W .any base t v := hval0
  have hW' := hW
  obtain ⟨p, q, hA0, hV, rfl, hfz, hnd⟩ := hW
  have hA : DataW.TrodAll enc Try.prog W 0 (fun _ => true) true Try.f4.params.toList args.toList ds p := hA0
  rw [Try.params4] at hA hval
  obtain ⟨v0, vs0, d0, ds0, p0, q0, hargs, rfl, rfl, h0, r0⟩ := trodAll_cons hA
  obtain ⟨rfl, rfl, rfl⟩ := trodAll_nil r0
  obtain rfl : args = #[v0] := by cases args; simp_all
  obtain ⟨rfl, rfl⟩ := trodVars_none hV
  have k0 := h0
  have lt0 : ∀ x ∈ p0, x.block < W.heap.size := by obtain ⟨m, hm⟩ := k0; exact DataW.trod_lt m _ _ _ hm
  obtain ⟨b0, l0, c0, rfl⟩ := okWide_slice Try.underlying22 (hval 0 22 v0 rfl rfl)
  obtain ⟨a0, cap0, z0, e0, w0, g0⟩ := open_pairsw (enc := enc) (w := W) (v := .slice b0 l0 c0) (fuel := h0.choose) (by simpa [Value.cells] using h0.choose_spec)
  rw [e0] at hval k0 h0 hW' hval0 hA0
  clear hA0 hval0
  rw [e0]; refine (walk a0 cap0 z0 W w0 g0).mono fun e W' ⟨he, bel⟩ => ?_
  subst he
  exact ⟨_, rfl, _, _, _, [], _, [], hW', trodAll_mk1 (shut_bool Try.underlying4 _), (trodAll_cons_mk (Below.trod laidOut (by kernel_rfl) (of_decide_eq_true (by kernel_rfl)) k0 bel lt0) trodAll_mk0), rfl, bel.frame _, fun h => by cases h⟩

theorem over : Rows.walkStepsRow.holds Try.pinned (OpenSpec.ofChange Rows.walkStepsSpec) :=
  OpenClaim.holds_of_wide 4 Try.f4 rfl rfl rfl rfl rfl rfl rfl ⟨rfl, rfl, rfl, rfl, rfl⟩ rfl rfl rfl rfl rfl (by kernel_rfl) Try.func4 (by kernel_rfl)
    (of_decide_eq_true (by kernel_rfl)) (by unfold Func.isWrapper; first | (rw [if_pos (by decide +kernel)]; kernel_rfl) | (rw [if_neg (by decide +kernel)]; exact ⟨rfl, rfl⟩))
    (fun os started H enc _ => lifted os started H enc)

theorem walkStepsHolds : Rows.WalkStepsSaid := over
#print axioms walkStepsHolds
end Go.Proofs.Ytbaeemonkgllhaa.walkSteps
