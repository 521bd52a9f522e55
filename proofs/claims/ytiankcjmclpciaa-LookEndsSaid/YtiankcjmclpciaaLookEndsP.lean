/- 'osierlaw4.LookEnds' returns true for every argument. No condition. -/
import Derived.Test.YtiankcjmclpciaaRows
import Derived.Test.YtiankcjmclpciaaLkAwk
import Derived.Test.YtiankcjmclpciaaLk4
import Derived.LoopTactic
import Derived.WalkKit
import Derived.ProofKit
import Derived.OpenShut
import Derived.ChangeOld
import Derived.Below
namespace Go.Proofs.Ytiankcjmclpciaa.lookEnds
open Go.ChangeShapes Go.WideShapes Go.ChangeAt Go.RowKit
set_option linter.all false

theorem own : ownKnob Try.prog.godebug = none := by kernel_rfl
theorem laidOut : laidOutB Try.prog = true := by kernel_rfl

theorem hi_pos {l : List Pr} (h : 0 < l.length) : 1 ≤ hi l := by
  obtain ⟨i, hi'⟩ : ∃ i : Nat, topL l = i := ⟨(topL l).toNat, by have := topL_lt l; omega⟩
  rw [hi_at l i hi']; omega

set_option maxRecDepth 100000 in
set_option maxHeartbeats 12800000 in
theorem walk (a0 : Option Addr) (cap0 : Nat) (z0 : List Pr) (w : World) (w0 : Prs w a0 cap0 z0) (r0 : Rng z0) :
    Calls Try.prog 6 #[.slice a0 z0.length cap0] w fun e w' => e = .returned (.bool true) ∧ Below w.heap.size w w' := by
  have cp : Calls Try.prog 9 #[.slice a0 z0.length cap0, .int .i64 50] w (PairsIs w 50) := pairs_srt a0 cap0 z0 50 w w0 r0 (by omega)
  have hc0 := w0.1
  have hc1 := w0.2.1
  clear w0 r0
  unfold maxLen at hc1
  go_enter Try.func6, Try.ntmps6
  go_wp2_with (first
    | (go_at_call 9; ((with_reducible refine cp.mono ?_); clear cp; rintro e W2 ⟨ao, c, l, rfl, hl, hs, hr, hP, hbw⟩; have hP1 := hP.1; have hP2 := hP.2.1; have HP := Lib.hid hP; have HS := Lib.hid hs; clear hP hs hr; unfold maxLen at hP2))
    | (go_at_call 10; ((with_reducible refine (new_held 100 100 W2 _ (Below.refl _ _) (by decide)).mono ?_); rintro e W3 ⟨p, rfl, h1⟩))
    | (go_at_call 11; ((with_reducible refine (laid_any W2 p _ _ _ ao c l _ [] (Nat.le_refl _) HP.out h1 Good.nil (by simp; omega) (by omega)).mono ?_); rintro e W4 ⟨t, L, rfl, h4, n4, t4, g4⟩; rw [List.nil_append] at h4 t4; have T4 := Lib.hid t4; clear t4 g4 h1 n4)))
  have hlen : l.length ≤ 1000 := by omega
  by_cases hz : l.length = 0
  · obtain rfl := List.eq_nil_of_length_eq_zero hz
    refine (tsize h4 T4.out 0 (by simp)).mono ?_
    rintro e W5 ⟨rfl, hb5⟩
    have h5 := h4.below hb5
    clear hb5 h4
    go_wp2_with (fail)
    refine (tnth h5 T4.out hlen 0 0 0 false rfl rfl).mono ?_
    rintro e W6 ⟨rfl, hb6⟩
    have U6 := Lib.hid (Two.new W6 0 0 31)
    have h6 := (h5.below hb6).alloc (.cells #[.int .i64 0, .int .i64 0] 31)
    clear hb6 h5
    go_wp2_with (fail)
    refine (tnth h6 T4.out hlen (-1) 0 0 false rfl rfl).mono ?_
    rintro e W7 ⟨rfl, hb7⟩
    have U6 := Lib.hid ((U6.out.keep hb7).past (.cells #[.int .i64 0, .int .i64 0] 31))
    have U7 := Lib.hid (Two.new W7 0 0 31)
    have h7 := (h6.below hb7).alloc (.cells #[.int .i64 0, .int .i64 0] 31)
    clear hb7 h6
    go_wp2_with (fail)
    refine (tmin h7 T4.out 0 0 false rfl rfl).mono ?_
    rintro e W8 ⟨rfl, hb8⟩
    have U6 := Lib.hid ((U6.out.keep hb8).past (.cells #[.int .i64 0, .int .i64 0] 31))
    have U7 := Lib.hid ((U7.out.keep hb8).past (.cells #[.int .i64 0, .int .i64 0] 31))
    have U8 := Lib.hid (Two.new W8 0 0 31)
    have h8 := (h7.below hb8).alloc (.cells #[.int .i64 0, .int .i64 0] 31)
    clear hb8 h7
    go_wp2_with (fail)
    refine (tmax h8 T4.out 0 0 false rfl rfl).mono ?_
    rintro e W9 ⟨rfl, hb9⟩
    have U6 := Lib.hid ((U6.out.keep hb9).past (.cells #[.int .i64 0, .int .i64 0] 31))
    have U7 := Lib.hid ((U7.out.keep hb9).past (.cells #[.int .i64 0, .int .i64 0] 31))
    have U8 := Lib.hid ((U8.out.keep hb9).past (.cells #[.int .i64 0, .int .i64 0] 31))
    have U9 := Lib.hid (Two.new W9 0 0 31)
    have h9 := (h8.below hb9).alloc (.cells #[.int .i64 0, .int .i64 0] 31)
    clear hb9 h8
    go_wp2_with (fail)
    refine (tnth h9 T4.out hlen 0 0 0 false rfl rfl).mono ?_
    rintro e W10 ⟨rfl, hb10⟩
    have U6 := Lib.hid ((U6.out.keep hb10).past (.cells #[.int .i64 0, .int .i64 0] 31))
    have U7 := Lib.hid ((U7.out.keep hb10).past (.cells #[.int .i64 0, .int .i64 0] 31))
    have U8 := Lib.hid ((U8.out.keep hb10).past (.cells #[.int .i64 0, .int .i64 0] 31))
    have U9 := Lib.hid ((U9.out.keep hb10).past (.cells #[.int .i64 0, .int .i64 0] 31))
    have U10 := Lib.hid (Two.new W10 0 0 31)
    have h10 := (h9.below hb10).alloc (.cells #[.int .i64 0, .int .i64 0] 31)
    clear hb10 h9
    go_wp2_with (fail)
    refine (tnth h10 T4.out hlen (-1) 0 0 false rfl rfl).mono ?_
    rintro e W11 ⟨rfl, hb11⟩
    have U6 := Lib.hid ((U6.out.keep hb11).past (.cells #[.int .i64 0, .int .i64 0] 31))
    have U7 := Lib.hid ((U7.out.keep hb11).past (.cells #[.int .i64 0, .int .i64 0] 31))
    have U8 := Lib.hid ((U8.out.keep hb11).past (.cells #[.int .i64 0, .int .i64 0] 31))
    have U9 := Lib.hid ((U9.out.keep hb11).past (.cells #[.int .i64 0, .int .i64 0] 31))
    have U11 := Lib.hid (Two.new W11 0 0 31)
    have h11 := (h10.below hb11).alloc (.cells #[.int .i64 0, .int .i64 0] 31)
    clear hb11 h10
    obtain ⟨xU6, yU6, _, _⟩ := U6.out
    obtain ⟨xU7, yU7, _, _⟩ := U7.out
    obtain ⟨xU8, yU8, _, _⟩ := U8.out
    obtain ⟨xU9, yU9, _, _⟩ := U9.out
    have chi := thigh h11 T4.out 0 (by rw [hi_neg [] (by rw [topL_nil]; omega)]; rfl)
    go_wp2_with (first
      | (go_at_call 15; ((with_reducible refine chi.mono ?_); clear chi; rintro e W12 ⟨rfl, hb12⟩; have h12 := h11.below hb12; clear hb12))
      | (go_at_call 21; ((with_reducible refine (lawake_any _).mono ?_); rintro e W13 ⟨rfl, hb13⟩; have h13 := h12.below hb13; clear hb13)))
    go_ret
    exact ⟨rfl, hbw.trans (h13.b.mono hbw.size)⟩
  · obtain ⟨q, hq⟩ : ∃ q, l[0]? = some q := ⟨_, List.getElem?_eq_getElem (by omega)⟩
    obtain ⟨r, hr⟩ : ∃ q, l[l.length - 1]? = some q := ⟨_, List.getElem?_eq_getElem (by omega)⟩
    obtain ⟨q0, q1⟩ := q
    obtain ⟨r0, r1⟩ := r
    obtain ⟨H, hH⟩ : ∃ H : Int, (hi l : Int) = H := ⟨_, rfl⟩
    have hH0 : (H == 0) = false := by have := hi_pos (l := l) (by omega); simp; omega
    have hN0 : ((l.length : Int) == 0) = false := by rw [beq_eq_false_iff_ne]; omega
    have hN1 : (0 : Int) < (l.length : Int) := by omega
    have hN2 : 0 < l.length := by omega
    have HQ0 := Lib.hid (show atL l 0 = some (q0, q1) by unfold atL; rw [if_neg (by omega)]; exact hq)
    have HR0 := Lib.hid (show atL l ((l.length : Int) - 1) = some (r0, r1) by unfold atL; rw [if_neg (by omega), show ((l.length : Int) - 1).toNat = l.length - 1 by omega]; exact hr)
    have HN0 := Lib.hid (show atL l (l.length : Int) = none by unfold atL; rw [if_neg (by omega)]; exact List.getElem?_eq_none (by omega))
    have HQ := Lib.hid hq
    have HR := Lib.hid hr
    have HH := Lib.hid hH
    clear hq hr hH hz
    refine (tsize h4 T4.out l.length (by simp)).mono ?_
    rintro e W5 ⟨rfl, hb5⟩
    have h5 := h4.below hb5
    clear hb5 h4
    go_wp2_with (fail)
    refine (tnth h5 T4.out hlen 0 q0 q1 true (by rw [HQ0.out]; rfl) (by rw [HQ0.out]; rfl)).mono ?_
    rintro e W6 ⟨rfl, hb6⟩
    have U6 := Lib.hid (Two.new W6 q0 q1 31)
    have h6 := (h5.below hb6).alloc (.cells #[.int .i64 q0, .int .i64 q1] 31)
    clear hb6 h5
    go_wp2_with (fail)
    refine (tnth h6 T4.out hlen ((l.length : Int) - 1) r0 r1 true (by rw [HR0.out]; rfl) (by rw [HR0.out]; rfl)).mono ?_
    rintro e W7 ⟨rfl, hb7⟩
    have U6 := Lib.hid ((U6.out.keep hb7).past (.cells #[.int .i64 r0, .int .i64 r1] 31))
    have U7 := Lib.hid (Two.new W7 r0 r1 31)
    have h7 := (h6.below hb7).alloc (.cells #[.int .i64 r0, .int .i64 r1] 31)
    clear hb7 h6
    go_wp2_with (fail)
    refine (tmin h7 T4.out q0 q1 true (by rw [HQ.out]; rfl) (by rw [HQ.out]; rfl)).mono ?_
    rintro e W8 ⟨rfl, hb8⟩
    have U6 := Lib.hid ((U6.out.keep hb8).past (.cells #[.int .i64 q0, .int .i64 q1] 31))
    have U7 := Lib.hid ((U7.out.keep hb8).past (.cells #[.int .i64 q0, .int .i64 q1] 31))
    have U8 := Lib.hid (Two.new W8 q0 q1 31)
    have h8 := (h7.below hb8).alloc (.cells #[.int .i64 q0, .int .i64 q1] 31)
    clear hb8 h7
    go_wp2_with (fail)
    refine (tmax h8 T4.out r0 r1 true (by rw [HR.out]; rfl) (by rw [HR.out]; rfl)).mono ?_
    rintro e W9 ⟨rfl, hb9⟩
    have U6 := Lib.hid ((U6.out.keep hb9).past (.cells #[.int .i64 r0, .int .i64 r1] 31))
    have U7 := Lib.hid ((U7.out.keep hb9).past (.cells #[.int .i64 r0, .int .i64 r1] 31))
    have U8 := Lib.hid ((U8.out.keep hb9).past (.cells #[.int .i64 r0, .int .i64 r1] 31))
    have U9 := Lib.hid (Two.new W9 r0 r1 31)
    have h9 := (h8.below hb9).alloc (.cells #[.int .i64 r0, .int .i64 r1] 31)
    clear hb9 h8
    go_wp2_with (fail)
    refine (tnth h9 T4.out hlen l.length 0 0 false (by rw [HN0.out]; rfl) (by rw [HN0.out]; rfl)).mono ?_
    rintro e W10 ⟨rfl, hb10⟩
    have U6 := Lib.hid ((U6.out.keep hb10).past (.cells #[.int .i64 0, .int .i64 0] 31))
    have U7 := Lib.hid ((U7.out.keep hb10).past (.cells #[.int .i64 0, .int .i64 0] 31))
    have U8 := Lib.hid ((U8.out.keep hb10).past (.cells #[.int .i64 0, .int .i64 0] 31))
    have U9 := Lib.hid ((U9.out.keep hb10).past (.cells #[.int .i64 0, .int .i64 0] 31))
    have U10 := Lib.hid (Two.new W10 0 0 31)
    have h10 := (h9.below hb10).alloc (.cells #[.int .i64 0, .int .i64 0] 31)
    clear hb10 h9
    go_wp2_with (fail)
    refine (tnth h10 T4.out hlen (-1) 0 0 false rfl rfl).mono ?_
    rintro e W11 ⟨rfl, hb11⟩
    have U6 := Lib.hid ((U6.out.keep hb11).past (.cells #[.int .i64 0, .int .i64 0] 31))
    have U7 := Lib.hid ((U7.out.keep hb11).past (.cells #[.int .i64 0, .int .i64 0] 31))
    have U8 := Lib.hid ((U8.out.keep hb11).past (.cells #[.int .i64 0, .int .i64 0] 31))
    have U9 := Lib.hid ((U9.out.keep hb11).past (.cells #[.int .i64 0, .int .i64 0] 31))
    have U11 := Lib.hid (Two.new W11 0 0 31)
    have h11 := (h10.below hb11).alloc (.cells #[.int .i64 0, .int .i64 0] 31)
    clear hb11 h10
    obtain ⟨xU6, yU6, _, _⟩ := U6.out
    obtain ⟨xU7, yU7, _, _⟩ := U7.out
    obtain ⟨xU8, yU8, _, _⟩ := U8.out
    obtain ⟨xU9, yU9, _, _⟩ := U9.out
    have chi := thigh h11 T4.out H HH.out
    go_wp2_with (first
      | (go_at_call 15; ((with_reducible refine chi.mono ?_); clear chi; rintro e W12 ⟨rfl, hb12⟩; have h12 := h11.below hb12; clear hb12))
      | (go_at_call 21; ((with_reducible refine (lawake_any _).mono ?_); rintro e W13 ⟨rfl, hb13⟩; have h13 := h12.below hb13; clear hb13)))
    go_ret
    exact ⟨rfl, hbw.trans (h13.b.mono hbw.size)⟩

set_option maxRecDepth 100000 in
theorem lifted (os : Os) (started : os.Started) (H : Type) (enc : TypeId × Value → H) :
    ReturnsInHanded {} Try.checked os 6 .any (Rows.lookEndsSpec.pre6 enc Try.prog Try.f6 Rows.lookEndsRow.domain false) (Rows.lookEndsSpec.post enc Try.prog Try.f6 false true false false) := by
  refine returnsInHanded_of_change (C := Try.checked) own started (by kernel_rfl) Try.func6
    (ChangeSpec.witness6 (enc := enc) (C := Try.checked) false ⟨#[], #[.slice none 0 0], []⟩ 8 (by kernel_rfl) (by kernel_rfl) (by kernel_rfl) (by kernel_rfl)) ?_
  intro W base args ds gs before hval0 hW hcnd _
  have hval : ∀ (j : Nat) t v, Try.f6.params[j]? = some t → args[j]? = some v → Value.okWide Try.prog W .any base t v := hval0
  have hW' := hW
  obtain ⟨p, q, hA0, hV, rfl, hfz, hnd⟩ := hW
  have hA : DataW.TrodAll enc Try.prog W 0 (fun _ => true) true Try.f6.params.toList args.toList ds p := hA0
  rw [Try.params6] at hA hval
  obtain ⟨v0, vs0, d0, ds0, p0, q0, hargs, rfl, rfl, h0, r0⟩ := trodAll_cons hA
  obtain ⟨rfl, rfl, rfl⟩ := trodAll_nil r0
  obtain rfl : args = #[v0] := by cases args; simp_all
  obtain ⟨rfl, rfl⟩ := trodVars_none hV
  have k0 := h0
  have lt0 : ∀ x ∈ p0, x.block < W.heap.size := by obtain ⟨m, hm⟩ := k0; exact DataW.trod_lt m _ _ _ hm
  obtain ⟨b0, l0, c0, rfl⟩ := okWide_slice Try.underlying22 (hval 0 22 v0 rfl rfl)
  obtain ⟨a0, cap0, z0, e0, w0, g0⟩ := open_pairsw (enc := enc) (w := W) (v := .slice b0 l0 c0) (fuel := h0.choose) (by simpa [Value.cells] using h0.choose_spec)
  rw [e0] at hval k0 h0 hW' hval0 hA0
  clear hA0 hval0
  rw [e0]; refine (walk a0 cap0 z0 W w0 g0).mono fun e W' ⟨he, bel⟩ => ?_
  subst he
  exact ⟨_, rfl, _, _, _, [], _, [], hW', trodAll_mk1 (shut_bool Try.underlying4 _), (trodAll_cons_mk (Below.trod laidOut (by kernel_rfl) (of_decide_eq_true (by kernel_rfl)) k0 bel lt0) trodAll_mk0), rfl, bel.frame _, fun h => by cases h⟩

theorem over : Rows.lookEndsRow.holds Try.pinned (OpenSpec.ofChange Rows.lookEndsSpec) :=
  OpenClaim.holds_of_wide 6 Try.f6 rfl rfl rfl rfl rfl rfl rfl ⟨rfl, rfl, rfl, rfl, rfl⟩ rfl rfl rfl rfl rfl (by kernel_rfl) Try.func6 (by kernel_rfl)
    (of_decide_eq_true (by kernel_rfl)) (by unfold Func.isWrapper; first | (rw [if_pos (by decide +kernel)]; kernel_rfl) | (rw [if_neg (by decide +kernel)]; exact ⟨rfl, rfl⟩))
    (fun os started H enc _ => lifted os started H enc)

theorem lookEndsHolds : Rows.LookEndsSaid := over
#print axioms lookEndsHolds
end Go.Proofs.Ytiankcjmclpciaa.lookEnds
