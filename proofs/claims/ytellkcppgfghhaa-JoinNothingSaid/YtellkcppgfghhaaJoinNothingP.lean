/- 'osierlaw8.JoinNothing' returns true for every argument. No condition. -/
import Derived.Test.YtellkcppgfghhaaRows
import Derived.Test.YtellkcppgfghhaaJnZ
import Derived.Test.YtellkcppgfghhaaNArgs
import Derived.LoopTactic
import Derived.WalkKit
import Derived.ProofKit
import Derived.OpenShut
import Derived.ChangeOld
import Derived.Below
namespace Go.Proofs.Ytellkcppgfghhaa.joinNothing
open Go.ChangeShapes Go.WideShapes Go.ChangeAt Go.RowKit
set_option linter.all false

theorem own : ownKnob Try.prog.godebug = none := by kernel_rfl
theorem laidOut : laidOutB Try.prog = true := by kernel_rfl

theorem all_one {w : World} {p : Nat} {F : Nat → Prop} {room st : Int} {L : List It} {t : Int} {l : List Pr} (hA : Arena w p F room st L) (T : Tree L t l) (hs : Srt l) (hl : l.length ≤ 500) (hr : ((L.length + l.length : Nat) : Int) ≤ room) (cs : Array Value) (hc : cs.toList = cellsI [t]) :
    Calls Try.prog 27 #[.pointer (some ⟨p, 0, none⟩), .slice (some ⟨w.heap.size, 0, none⟩) 1 1] (w.alloc (.cells cs 3)) fun e w' => e = .returned (.tuple #[.int .i64 t, .int .i64 0]) ∧ Below w.heap.size w w' := by
  have hb : Below w.heap.size w (w.alloc (.cells cs 3)) := (Below.refl _ _).alloc (Nat.le_refl _) _
  have hN := Nums.lits w [t] cs hc 1 rfl (by simp)
  have hA' := hA.below hb
  refine (all_core _ (S := fun j => j < w.heap.size) (ts := [t]) (n := 1) (cap := 1) rfl (Nat.le_refl _) (by decide) (fun i W x => ((i = 0 → x = 0) ∧ (i = 1 → x = t)) ∧ Below (w.alloc (.cells cs 3)).heap.size (w.alloc (.cells cs 3)) W) (fun i W x h => hN.below h.2) ?_ ?_).mono ?_
  · refine (ref_ok (ts := [t]) (ls := [l]) hA' hN rfl (Nat.le_refl _) rfl (fun i t' l' h1 h2 => ?_) (by simpa using hs) (by simpa using hl) ?_).mono ?_
    · match i with
      | 0 => simp at h1 h2; subst h1; subst h2; exact T
      | i + 1 => simp at h1
    · have : cost 0 [l] ≤ l.length := by simp only [cost]; split <;> omega
      omega
    · rintro e w' ⟨rfl, hb2⟩
      exact ⟨rfl, ⟨fun _ => rfl, fun h => absurd h (by decide)⟩, hb2⟩
  · rintro i W x t' ⟨⟨h0, h1⟩, hb2⟩ ht
    match i with
    | 0 =>
      simp at ht
      subst ht
      obtain rfl := h0 rfl
      refine (two_left (hA'.below hb2) T (by omega) hs).mono ?_
      rintro e w' ⟨rfl, hb3⟩
      exact ⟨_, rfl, ⟨fun h => absurd h (by decide), fun _ => rfl⟩, hb2.trans (hb3.mono hb2.size)⟩
    | i + 1 => simp at ht
  · rintro e w' ⟨x, rfl, ⟨_, h1⟩, hb2⟩
    obtain rfl := h1 rfl
    exact ⟨rfl, hb.trans (hb2.mono hb.size)⟩
theorem all_bad {w : World} {p : Nat} {F : Nat → Prop} {room st : Int} {L : List It} {t : Int} (hA : Arena w p F room st L) (ht : ¬ HungOk L t) (cs : Array Value) (hc : cs.toList = cellsI [t]) :
    Calls Try.prog 27 #[.pointer (some ⟨p, 0, none⟩), .slice (some ⟨w.heap.size, 0, none⟩) 1 1] (w.alloc (.cells cs 3)) fun e w' => e = .returned (.tuple #[.int .i64 0, .int .i64 1]) ∧ Below w.heap.size w w' := by
  have hb : Below w.heap.size w (w.alloc (.cells cs 3)) := (Below.refl _ _).alloc (Nat.le_refl _) _
  refine (all_err _ (by decide) (ref_no (hA.below hb) (Nums.lits w [t] cs hc 1 rfl (by simp)) (Nat.le_refl _) (by decide) ht)).mono ?_
  rintro e w' ⟨rfl, hb2⟩
  exact ⟨rfl, hb.trans (hb2.mono hb.size)⟩
theorem no_far (L : List It) (t : Int) (h : (L.length : Int) < t) : ¬ HungOk L t := by
  rintro (h0 | h1)
  · omega
  · have := kind_one_range h1; omega

set_option maxRecDepth 100000 in
set_option maxHeartbeats 12800000 in
theorem walk (a0 : Option Addr) (cap0 : Nat) (z0 : List Pr) (w : World) (w0 : Prs w a0 cap0 z0) (r0 : Rng z0) :
    Calls Try.prog 9 #[.slice a0 z0.length cap0] w fun e w' => e = .returned (.bool true) ∧ Below w.heap.size w w' := by
  have cp : ∀ W, Below w.heap.size w W → Calls Try.prog 11 #[.slice a0 z0.length cap0, .int .i64 40] W (PairsIs W 40) := fun W hb => pairs_srt a0 cap0 z0 40 W (w0.below hb) r0 (by omega)
  clear w0 r0
  go_enter Try.func9, Try.ntmps9
  go_wp2_with (fail)
  refine (cp _ (Below.refl _ _)).mono ?_
  clear cp
  rintro e W2 ⟨ao, c, l, rfl, hl, hs, hr, hP, hbw⟩
  have HBW := Lib.hid hbw
  have HP := Lib.hid hP
  have HS := Lib.hid hs
  have hhi := hi_le _ l (Nat.le_refl _)
  have HHI := Lib.hid hhi
  have hc1 := hP.1
  have hc2 := hP.2.1
  unfold maxLen at hc2
  have FL := Lib.hid (show [[], [], l, []].flatten = l by simp)
  have CO := Lib.hid (show cost 0 [[], [], l, []] ≤ l.length by simp only [cost]; simp; split <;> omega)
  clear hP hs hr hbw hhi
  go_wp2_with (fail)
  refine (new_held 300 300 W2 _ (Below.refl _ _) (by decide)).mono ?_
  rintro e W3 ⟨p, rfl, h1⟩
  go_wp2_with (fail)
  refine (laid_any W2 p _ _ _ ao c l _ [] (Nat.le_refl _) HP.out h1 Good.nil (by simp; omega) (by omega)).mono ?_
  rintro e W4 ⟨t, L, rfl, h4, n4, t4, g4⟩
  rw [List.nil_append] at h4 t4
  have T4 := Lib.hid t4
  have N4 := Lib.hid n4
  clear t4 g4 h1 n4
  go_wp2_with (fail)
  refine (two_right h4.a T4.out (by omega) HS.out).mono ?_
  rintro e W5 ⟨rfl, hb5⟩
  have h5 := h4.below hb5
  clear hb5 h4
  go_wp2_with (fail)
  refine (two_left h5.a T4.out (by omega) HS.out).mono ?_
  rintro e W6 ⟨rfl, hb6⟩
  have h6 := h5.below hb6
  clear hb6 h5
  go_wp2_with (fail)
  refine (two_left h6.a .nil (by simp) Srt.nil).mono ?_
  rintro e W7 ⟨rfl, hb7⟩
  have h7 := h6.below hb7
  clear hb7 h6
  go_wp2_with (fail)
  refine (all_one h7.a T4.out HS.out (by omega) (by rw [N4.out]; omega) _ (by simp [cellsI])).mono ?_
  rintro e W8 ⟨rfl, hb8⟩
  have h8 := h7.below hb8
  clear hb8 h7
  go_wp2_with (fail)
  refine (all_new h8 [0, 0, t, 0] [[], [], l, []] _ (by simp [cellsI]) 4 rfl (by simp) ((((Forest.nil _).snoc .nil).snoc .nil).snoc T4.out |>.snoc .nil) (by rw [FL.out]; exact HS.out) (by rw [FL.out]; omega) (by have := CO.out; rw [N4.out]; omega)).mono ?_
  rintro e W9 ⟨y, M, rfl, h9, hM, hY⟩
  rw [FL.out] at hY
  have TY := Lib.hid hY
  have TT := Lib.hid (T4.out.app M)
  obtain ⟨nu, hnu⟩ : ∃ nu : Int, nu = ((L ++ M).length : Nat) := ⟨_, rfl⟩
  have hnu0 : 0 ≤ nu := by omega
  have hnu1 : nu ≤ 200 := by have := CO.out; rw [hnu, List.length_append, N4.out]; omega
  have NF := Lib.hid (no_far (L ++ M) (nu + 3) (by omega))
  have NU := Lib.hid hnu
  clear hY hM h8 hnu
  generalize L ++ M = LM at h9 TY TT NF NU
  have heq : (t == t) = true := by simp
  go_wp2_with (go_at_call 23; ((with_reducible refine (used_held h9 nu NU.out).mono ?_); rintro e W10 ⟨rfl, hww⟩; subst hww))
  refine (all_bad h9.a NF.out _ (by simp [cellsI])).mono ?_
  rintro e W10 ⟨rfl, hb10⟩
  have h10 := h9.below hb10
  clear hb10 h9
  go_wp2_with (fail)
  refine (says_is TT.out (HP.out.below h10.b) h10.a (by omega) rfl).mono ?_
  rintro e W11 ⟨rfl, hb11⟩
  have h11 := h10.below hb11
  clear hb11 h10
  go_wp2_with (fail)
  refine (says_is TT.out (HP.out.below h11.b) h11.a (by omega) rfl).mono ?_
  rintro e W12 ⟨rfl, hb12⟩
  have h12 := h11.below hb12
  clear hb12 h11
  go_wp2_with (fail)
  refine (says_is TY.out (HP.out.below h12.b) h12.a (by omega) rfl).mono ?_
  rintro e W13 ⟨rfl, hb13⟩
  have h13 := h12.below hb13
  clear hb13 h12
  go_wp2_with (fail)
  refine (may_any ao c l W13 (HP.out.below h13.b) HS.out).mono ?_
  rintro e W14 ⟨rfl, hb14⟩
  have h14 := h13.below hb14
  clear hb14 h13
  go_wp2_with (go_at_call 25; ((with_reducible refine (jawake_any W14).mono ?_); rintro e W15 ⟨rfl, hb15⟩; have h15 := h14.below hb15; clear hb15 h14))
  go_ret
  exact ⟨rfl, HBW.out.trans (h15.b.mono HBW.out.size)⟩

set_option maxRecDepth 100000 in
theorem lifted (os : Os) (started : os.Started) (H : Type) (enc : TypeId × Value → H) :
    ReturnsInHanded {} Try.checked os 9 .any (Rows.joinNothingSpec.pre6 enc Try.prog Try.f9 Rows.joinNothingRow.domain false) (Rows.joinNothingSpec.post enc Try.prog Try.f9 false true false false) := by
  refine returnsInHanded_of_change (C := Try.checked) own started (by kernel_rfl) Try.func9
    (ChangeSpec.witness6 (enc := enc) (C := Try.checked) false ⟨#[], #[.slice none 0 0], []⟩ 8 (by kernel_rfl) (by kernel_rfl) (by kernel_rfl) (by kernel_rfl)) ?_
  intro W base args ds gs before hval0 hW hcnd _
  have hval : ∀ (j : Nat) t v, Try.f9.params[j]? = some t → args[j]? = some v → Value.okWide Try.prog W .any base t v := hval0
  have hW' := hW
  obtain ⟨p, q, hA0, hV, rfl, hfz, hnd⟩ := hW
  have hA : DataW.TrodAll enc Try.prog W 0 (fun _ => true) true Try.f9.params.toList args.toList ds p := hA0
  rw [Try.params9] at hA hval
  obtain ⟨v0, vs0, d0, ds0, p0, q0, hargs, rfl, rfl, h0, r0⟩ := trodAll_cons hA
  obtain ⟨rfl, rfl, rfl⟩ := trodAll_nil r0
  obtain rfl : args = #[v0] := by cases args; simp_all
  obtain ⟨rfl, rfl⟩ := trodVars_none hV
  have k0 := h0
  have lt0 : ∀ x ∈ p0, x.block < W.heap.size := by obtain ⟨m, hm⟩ := k0; exact DataW.trod_lt m _ _ _ hm
  obtain ⟨b0, l0, c0, rfl⟩ := okWide_slice Try.underlying22 (hval 0 22 v0 rfl rfl)
  obtain ⟨a0, cap0, z0, e0, w0, g0⟩ := open_pairsw (enc := enc) (w := W) (v := .slice b0 l0 c0) (fuel := h0.choose) (by simpa [Value.cells] using h0.choose_spec)
  rw [e0] at hval k0 h0 hW' hval0 hA0
  clear hA0 hval0
  rw [e0]; refine (walk a0 cap0 z0 W w0 g0).mono fun e W' ⟨he, bel⟩ => ?_
  subst he
  exact ⟨_, rfl, _, _, _, [], _, [], hW', trodAll_mk1 (shut_bool Try.underlying4 _), (trodAll_cons_mk (Below.trod laidOut (by kernel_rfl) (of_decide_eq_true (by kernel_rfl)) k0 bel lt0) trodAll_mk0), rfl, bel.frame _, fun h => by cases h⟩

theorem over : Rows.joinNothingRow.holds Try.pinned (OpenSpec.ofChange Rows.joinNothingSpec) :=
  OpenClaim.holds_of_wide 9 Try.f9 rfl rfl rfl rfl rfl rfl rfl ⟨rfl, rfl, rfl, rfl, rfl⟩ rfl rfl rfl rfl rfl (by kernel_rfl) Try.func9 (by kernel_rfl)
    (of_decide_eq_true (by kernel_rfl)) (by unfold Func.isWrapper; first | (rw [if_pos (by decide +kernel)]; kernel_rfl) | (rw [if_neg (by decide +kernel)]; exact ⟨rfl, rfl⟩))
    (fun os started H enc _ => lifted os started H enc)

theorem joinNothingHolds : Rows.JoinNothingSaid := over
#print axioms joinNothingHolds
end Go.Proofs.Ytellkcppgfghhaa.joinNothing
