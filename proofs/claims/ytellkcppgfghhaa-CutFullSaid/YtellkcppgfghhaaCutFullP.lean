/- 'osierlaw6.CutFull' returns true for every argument. No condition. -/
import Derived.Test.YtellkcppgfghhaaRows
import Derived.Test.YtellkcppgfghhaaCtM
import Derived.Test.YtellkcppgfghhaaCtAwk
import Derived.Test.YtellkcppgfghhaaCtW
import Derived.Test.YtellkcppgfghhaaNArgs
import Derived.Test.YtellkcppgfghhaaNSays
import Derived.LoopTactic
import Derived.WalkKit
import Derived.ProofKit
import Derived.OpenShut
import Derived.ChangeOld
import Derived.Below
namespace Go.Proofs.Ytellkcppgfghhaa.cutFull
open Go.ChangeShapes Go.WideShapes Go.ChangeAt Go.RowKit
set_option linter.all false

theorem own : ownKnob Try.prog.godebug = none := by kernel_rfl
theorem laidOut : laidOutB Try.prog = true := by kernel_rfl

theorem no_neg (L : List It) : ¬ HungOk L (-1) := by
  rintro (h0 | h1)
  · omega
  · have := kind_one_range h1; omega

set_option maxRecDepth 100000 in
set_option maxHeartbeats 12800000 in
theorem walk (a0 : Option Addr) (cap0 : Nat) (z0 : List Pr) (a1 : Int) (a2 : Int) (w : World) (w0 : Prs w a0 cap0 z0) (r0 : Rng z0) (w1 : (Lit.int .i64 a1).wf = true) (w2 : (Lit.int .i64 a2).wf = true) :
    Calls Try.prog 4 #[.slice a0 z0.length cap0, .int .i64 a1, .int .i64 a2] w fun e w' => e = .returned (.bool true) ∧ Below w.heap.size w w' := by
  have cp : ∀ W, Below w.heap.size w W → Calls Try.prog 11 #[.slice a0 z0.length cap0, .int .i64 40] W (PairsIs W 40) := fun W hb => pairs_srt a0 cap0 z0 40 W (w0.below hb) r0 (by omega)
  clear w0 r0
  go_enter Try.func4, Try.ntmps4
  go_wp2_with (fail)
  refine (cp _ (Below.refl _ _)).mono ?_
  clear cp
  rintro e W1 ⟨ao, c, l, rfl, hl, hs, hr, hP, hbw⟩
  have HBW1 := Lib.hid hbw
  by_cases hlen : l.length = 0
  · obtain rfl := List.length_eq_zero_iff.1 hlen
    have ca := cawake_any W1
    clear hP hs hr hlen hl hbw
    go_wp2_with (go_at_call 15; ((with_reducible refine ca.mono ?_); clear ca; rintro e W14 ⟨rfl, hb14⟩))
    go_ret
    exact ⟨rfl, HBW1.out.trans (hb14.mono HBW1.out.size)⟩
  have HP1 := Lib.hid hP
  have HS := Lib.hid hs
  have hhi := hi_le _ l (Nat.le_refl _)
  obtain ⟨H, hH⟩ : ∃ H : Nat, hi l = H := ⟨_, rfl⟩
  rw [hH] at hhi
  have hH40 : (H : Int) ≤ 40 := by omega
  have HH := Lib.hid hH
  have ch := high_any l.length ao c l W1 (Nat.le_refl _) hP (by omega)
  rw [hH] at ch
  obtain ⟨less, hless, hum⟩ := umod a2 (2 * (H : Int) + 1) (by omega) (by omega)
  have HU := Lib.hid hum
  obtain ⟨nk, hnk, hum2⟩ := umod a1 (l.length : Int) (by omega) (by omega)
  have HU2 := Lib.hid hum2
  obtain ⟨⟨kk, vv⟩, hq⟩ : ∃ q, l[nk]? = some q := ⟨_, List.getElem?_eq_getElem (by omega)⟩
  obtain ⟨b, o, rfl, c0, c1⟩ := hP.2.2 nk _ hq
  dsimp only at c0 c1
  have HF := Lib.hid (findL_mem hs (List.mem_of_getElem? hq))
  have hc1 := hP.1
  have hc2 := hP.2.1
  unfold maxLen at hc2
  clear hP hs hr hbw hH hum hum2 hq
  go_wp2_with (fail)
  refine ch.mono ?_
  clear ch
  rintro e W2 ⟨rfl, hb2⟩
  have HBW := Lib.hid (HBW1.out.trans (hb2.mono HBW1.out.size))
  have HP := Lib.hid (HP1.out.below hb2)
  have d0 := (hb2.cell (World.block_lt_of_cell? W1 _ c0)).trans c0
  clear hb2 HBW1 HP1 c0 c1
  go_wp2_with (fail)
  rw [HU.out]
  obtain ⟨R, hR, hR2⟩ : ∃ R : Int, wrap64 ((l.length : Int) + 2 * (H : Int) - (less : Int)) = R ∧ R = (l.length : Int) + 2 * (H : Int) - (less : Int) := ⟨_, by unfold wrap64; omega, rfl⟩
  rw [hR]
  clear HU hR
  refine (new_held R R W2 W2 (Below.refl _ _) (by omega)).mono ?_
  rintro e W3 ⟨p, rfl, h1⟩
  go_wp2_with (fail)
  refine (laid_any W2 p R 0 _ _ c l _ [] (Nat.le_refl _) HP.out h1 Good.nil (by simp; omega) (by omega)).mono ?_
  rintro e W4 ⟨t, L, rfl, h4, n4, t4, g4⟩
  rw [List.nil_append] at h4 t4
  have T4 := Lib.hid t4
  have N4 := Lib.hid n4
  have d0 := h4.old d0
  clear t4 g4 h1 n4
  have hum2 := HU2.out
  have hnk0 : (0 : Int) ≤ (nk : Int) := by omega
  have hln0 : ((l.length : Int) == 0) = false := by rw [beq_eq_false_iff_ne]; omega
  clear HU2
  go_wp2_with (fail)
  refine (cut_some h4.a T4.out HS.out (by omega) HF.out).mono ?_
  rintro e W5 ⟨u, er, M, hg, hq, hc⟩
  have h5 := h4.grew hg (fun _ hk => hk)
  have TM := Lib.hid (T4.out.app M)
  clear hg h4
  rcases hc with ⟨rfl, rfl⟩ | ⟨hne, rfl⟩
  · have T5 := Lib.hid (hq.elim (fun h => h.2.2) (fun h => absurd h.1 (by decide)))
    have L5 := Lib.hid (cutL_len l kk)
    clear hq
    generalize L ++ M = LL at h5 TM T5
    have NK := Lib.hid (no_neg LL)
    go_wp2_with (first
      | (go_at_call 17; ((with_reducible refine (cut_nil t kk W5).mono ?_); rintro e W6 ⟨rfl, hb6⟩; have h6 := h5.below hb6; clear hb6 h5))
      | (go_at_call 17; ((with_reducible refine (cut_no h6.a (-1) kk NK.out).mono ?_); rintro e W7 ⟨rfl, hb7⟩; have h7 := h6.below hb7; clear hb7 h6))
      | (go_at_call 18; ((with_reducible refine (says_any p _ R 0 LL t l TM.out _ c W7 (HP.out.below h7.b) h7.a (by omega)).mono ?_); rintro e W8 ⟨rfl, hb8⟩; have h8 := h7.below hb8; clear hb8 h7))
      | (go_at_call 20; ((with_reducible refine (without_is _ c l kk W8 (HP.out.below h8.b) (by omega)).mono ?_); rintro e W11 ⟨aw, cw, rfl, hPw, hb11⟩; have h11 := h8.below hb11; have PW := Lib.hid hPw; clear hb11 h8 hPw))
      | (go_at_call 18; ((with_reducible refine (says_any p _ R 0 LL u (cutL l kk) T5.out aw cw W11 PW.out h11.a (by have := L5.out; omega)).mono ?_); rintro e W12 ⟨rfl, hb12⟩; have h12 := h11.below hb12; clear hb12 h11))
      | (go_at_call 15; ((with_reducible refine (cawake_any W12).mono ?_); rintro e W14 ⟨rfl, hb14⟩; have h14 := h12.below hb14; clear hb14 h12)))
    go_ret
    exact ⟨rfl, HBW.out.trans (h14.b.mono HBW.out.size)⟩
  · obtain ⟨rfl, hroom, hM⟩ := hq.resolve_left (fun h => hne h.1)
    rw [HH.out] at hM
    rw [List.length_append, N4.out] at hroom
    have hpos : (0 : Int) < (less : Int) := by omega
    have hposd : decide ((0 : Int) < (less : Int)) = true := decide_eq_true hpos
    clear hroom hM hne hq
    generalize L ++ M = LL at h5 TM
    have NK := Lib.hid (no_neg LL)
    go_wp2_with (first
      | (go_at_call 17; ((with_reducible refine (cut_nil t kk W5).mono ?_); rintro e W6 ⟨rfl, hb6⟩; have h6 := h5.below hb6; clear hb6 h5))
      | (go_at_call 17; ((with_reducible refine (cut_no h6.a (-1) kk NK.out).mono ?_); rintro e W7 ⟨rfl, hb7⟩; have h7 := h6.below hb7; clear hb7 h6))
      | (go_at_call 18; ((with_reducible refine (says_any p _ R 0 LL t l TM.out _ c W7 (HP.out.below h7.b) h7.a (by omega)).mono ?_); rintro e W8 ⟨rfl, hb8⟩; have h8 := h7.below hb8; clear hb8 h7))
      | (go_at_call 15; ((with_reducible refine (cawake_any W8).mono ?_); rintro e W14 ⟨rfl, hb14⟩; have h14 := h8.below hb14; clear hb14 h8)))
    go_ret
    exact ⟨rfl, HBW.out.trans (h14.b.mono HBW.out.size)⟩

set_option maxRecDepth 100000 in
theorem lifted (os : Os) (started : os.Started) (H : Type) (enc : TypeId × Value → H) :
    ReturnsInHanded {} Try.checked os 4 .any (Rows.cutFullSpec.pre6 enc Try.prog Try.f4 Rows.cutFullRow.domain false) (Rows.cutFullSpec.post enc Try.prog Try.f4 false true false false) := by
  refine returnsInHanded_of_change (C := Try.checked) own started (by kernel_rfl) Try.func4
    (ChangeSpec.witness6 (enc := enc) (C := Try.checked) false ⟨#[], #[.slice none 0 0, .int .i64 0, .int .i64 0], []⟩ 8 (by kernel_rfl) (by kernel_rfl) (by kernel_rfl) (by kernel_rfl)) ?_
  intro W base args ds gs before hval0 hW hcnd _
  have hval : ∀ (j : Nat) t v, Try.f4.params[j]? = some t → args[j]? = some v → Value.okWide Try.prog W .any base t v := hval0
  have hW' := hW
  obtain ⟨p, q, hA0, hV, rfl, hfz, hnd⟩ := hW
  have hA : DataW.TrodAll enc Try.prog W 0 (fun _ => true) true Try.f4.params.toList args.toList ds p := hA0
  rw [Try.params4] at hA hval
  obtain ⟨v0, vs0, d0, ds0, p0, q0, hargs, rfl, rfl, h0, r0⟩ := trodAll_cons hA
  obtain ⟨v1, vs1, d1, ds1, p1, q1, rfl, rfl, rfl, h1, r1⟩ := trodAll_cons r0
  obtain ⟨v2, vs2, d2, ds2, p2, q2, rfl, rfl, rfl, h2, r2⟩ := trodAll_cons r1
  obtain ⟨rfl, rfl, rfl⟩ := trodAll_nil r2
  obtain rfl : args = #[v0, v1, v2] := by cases args; simp_all
  obtain ⟨rfl, rfl⟩ := trodVars_none hV
  have k0 := h0
  have lt0 : ∀ x ∈ p0, x.block < W.heap.size := by obtain ⟨m, hm⟩ := k0; exact DataW.trod_lt m _ _ _ hm
  obtain ⟨b0, l0, c0, rfl⟩ := okWide_slice Try.underlying22 (hval 0 22 v0 rfl rfl)
  obtain ⟨a0, cap0, z0, e0, w0, g0⟩ := open_pairsw (enc := enc) (w := W) (v := .slice b0 l0 c0) (fuel := h0.choose) (by simpa [Value.cells] using h0.choose_spec)
  rw [e0] at hval k0 h0 hW' hval0 hA0
  have k1 := h1
  have lt1 : ∀ x ∈ p1, x.block < W.heap.size := by obtain ⟨m, hm⟩ := k1; exact DataW.trod_lt m _ _ _ hm
  obtain ⟨a1, rfl, rfl, rfl, w1⟩ := open_int Try.underlying3 (hval 1 3 v1 rfl rfl) h1
  have k2 := h2
  have lt2 : ∀ x ∈ p2, x.block < W.heap.size := by obtain ⟨m, hm⟩ := k2; exact DataW.trod_lt m _ _ _ hm
  obtain ⟨a2, rfl, rfl, rfl, w2⟩ := open_int Try.underlying3 (hval 2 3 v2 rfl rfl) h2
  clear hA0 hval0
  rw [e0]; refine (walk a0 cap0 z0 a1 a2 W w0 g0 w1 w2).mono fun e W' ⟨he, bel⟩ => ?_
  subst he
  exact ⟨_, rfl, _, _, _, [], _, [], hW', trodAll_mk1 (shut_bool Try.underlying4 _), (trodAll_cons_mk (Below.trod laidOut (by kernel_rfl) (of_decide_eq_true (by kernel_rfl)) k0 bel lt0) (trodAll_cons_mk (Below.trod laidOut (by kernel_rfl) (of_decide_eq_true (by kernel_rfl)) k1 bel lt1) (trodAll_cons_mk (Below.trod laidOut (by kernel_rfl) (of_decide_eq_true (by kernel_rfl)) k2 bel lt2) trodAll_mk0))), rfl, bel.frame _, fun h => by cases h⟩

theorem over : Rows.cutFullRow.holds Try.pinned (OpenSpec.ofChange Rows.cutFullSpec) :=
  OpenClaim.holds_of_wide 4 Try.f4 rfl rfl rfl rfl rfl rfl rfl ⟨rfl, rfl, rfl, rfl, rfl⟩ rfl rfl rfl rfl rfl (by kernel_rfl) Try.func4 (by kernel_rfl)
    (of_decide_eq_true (by kernel_rfl)) (by unfold Func.isWrapper; first | (rw [if_pos (by decide +kernel)]; kernel_rfl) | (rw [if_neg (by decide +kernel)]; exact ⟨rfl, rfl⟩))
    (fun os started H enc _ => lifted os started H enc)

theorem cutFullHolds : Rows.CutFullSaid := over
#print axioms cutFullHolds
end Go.Proofs.Ytellkcppgfghhaa.cutFull
