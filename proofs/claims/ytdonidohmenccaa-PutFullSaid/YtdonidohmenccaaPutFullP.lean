/- 'osierlaw5.PutFull' returns true for every argument. No condition. -/
import Derived.Test.YtdonidohmenccaaRows
import Derived.Deep.RegionHeld3
import Derived.Test.YtdonidohmenccaaPtM
import Derived.Test.YtdonidohmenccaaPtAwk
import Derived.Test.YtdonidohmenccaaNArgs
import Derived.Test.YtdonidohmenccaaNSays
import Derived.LoopTactic
import Derived.WalkKit
import Derived.ProofKit
import Derived.OpenShut
import Derived.ChangeOld
import Derived.Below
namespace Go.Proofs.Ytdonidohmenccaa.putFull
open Go.ChangeShapes Go.WideShapes Go.ChangeAt Go.RowKit
set_option linter.all false

theorem own : ownKnob Try.prog.godebug = none := by kernel_rfl
theorem laidOut : laidOutB Try.prog = true := by kernel_rfl

theorem no_node (L : List It) (t : Int) (h : (L.length : Int) < t) : ¬ HungOk L t := by
  rintro (h0 | h1)
  · omega
  · have := kind_one_range h1; omega
section
variable {w W2 W W' : World} {b p : Nat} {R st k v : Int} {LL : List It}
theorem three_held (H : W.cell? ⟨b, 0, none⟩ = some (.int .i64 k) ∧ W.cell? ⟨b, 1, none⟩ = some (.int .i64 v) ∧ Held W2 W p R st LL) : Held W2 W p R st LL := H.2.2
theorem three_new (T : Two W2 b k v) (h : Held W2 W p R st LL) : ∀ W', W' = W.drew → W'.cell? ⟨b, 0, none⟩ = some (.int .i64 k) ∧ W'.cell? ⟨b, 1, none⟩ = some (.int .i64 v) ∧ Held W2 W' p R st LL := by
  rintro W' rfl
  have h' := h.below (Below.refl _ W).drew
  exact ⟨h'.old T.c0, h'.old T.c1, h'⟩
theorem three_keep (T : Two W2 b k v) (hb : Below W.heap.size W W') (H : W.cell? ⟨b, 0, none⟩ = some (.int .i64 k) ∧ W.cell? ⟨b, 1, none⟩ = some (.int .i64 v) ∧ Held W2 W p R st LL) : W'.cell? ⟨b, 0, none⟩ = some (.int .i64 k) ∧ W'.cell? ⟨b, 1, none⟩ = some (.int .i64 v) ∧ Held W2 W' p R st LL := by
  have h' := H.2.2.below hb
  exact ⟨h'.old T.c0, h'.old T.c1, h'⟩
theorem three_same (H : W.cell? ⟨b, 0, none⟩ = some (.int .i64 k) ∧ W.cell? ⟨b, 1, none⟩ = some (.int .i64 v) ∧ Held W2 W p R st LL) : W.cell? ⟨b, 0, none⟩ = some (.int .i64 k) ∧ W.cell? ⟨b, 1, none⟩ = some (.int .i64 v) ∧ Held W2 W p R st LL := H
theorem add_no {w : World} {F : Nat → Prop} {room : Int} {L : List It} (hA : Arena w p F room st L) (t k v : Int) (ht : ¬ HungOk L t) :
    Calls Try.prog 16 #[.pointer (some ⟨p, 0, none⟩), .int .i64 t, .agg #[.int .i64 k, .int .i64 v]] w fun e w' => e = .returned (.tuple #[.int .i64 0, .int .i64 0, .bool false, .int .i64 1]) ∧ Below w.heap.size w w' := by
  have hk : kindL L t ≠ 1 := fun e => ht (.inr e)
  refine (add_put _ t k v 0 w (fun n old there er w' => n = 0 ∧ old = 0 ∧ there = false ∧ er = 1 ∧ Below w.heap.size w w') (fun W hb => lget_any t k W (Gets.ofArena (hA.below hb)) 0 false (by rw [getL_no hk]; rfl) (by rw [getL_no hk]; rfl)) (fun W hb => (put_no (hA.below hb) t k v ht).mono ?_)).mono ?_
  · rintro e w' ⟨rfl, hb2⟩
    exact ⟨0, 0, false, 1, rfl, rfl, rfl, rfl, rfl, hb.trans (hb2.mono hb.size)⟩
  · rintro e w' ⟨n, old, there, er, rfl, rfl, rfl, rfl, rfl, hb⟩
    exact ⟨rfl, hb⟩
end

set_option maxRecDepth 100000 in
set_option maxHeartbeats 12800000 in
theorem walk (a0 : Option Addr) (cap0 : Nat) (z0 : List Pr) (k1 v1 : Int) (a2 : Int) (w : World) (w0 : Prs w a0 cap0 z0) (r0 : Rng z0) (w1 : (Lit.int .i64 k1).wf = true ∧ (Lit.int .i64 v1).wf = true) (w2 : (Lit.int .i64 a2).wf = true) :
    Calls Try.prog 5 #[.slice a0 z0.length cap0, .agg #[.int .i64 k1, .int .i64 v1], .int .i64 a2] w fun e w' => e = .returned (.bool true) ∧ Below w.heap.size w w' := by
  have cp : ∀ W, Below w.heap.size w W → Calls Try.prog 12 #[.slice a0 z0.length cap0, .int .i64 40] W (PairsIs W 40) := fun W hb => pairs_srt a0 cap0 z0 40 W (w0.below hb) r0 (by omega)
  have ba : ∀ o, Below w.heap.size w (w.alloc o) := fun o => (Below.refl _ _).alloc (Nat.le_refl _) _
  have BA := Lib.hid ba
  have T0 := Two.new w k1 v1 24
  clear w0 r0 w1 ba
  go_enter Try.func5, Try.ntmps5
  go_wp2_with (fail)
  refine (cp _ (BA.out _)).mono ?_
  clear cp
  rintro e W1 ⟨ao, c, l, rfl, hl, hs, hr, hP, hbw⟩
  have T1 := T0.keep hbw
  have HBW1 := Lib.hid ((BA.out _).trans (hbw.mono (BA.out _).size))
  have HP1 := Lib.hid hP
  have HS := Lib.hid hs
  have hhi := hi_le _ l (Nat.le_refl _)
  obtain ⟨H, hH⟩ : ∃ H : Nat, hi l = H := ⟨_, rfl⟩
  rw [hH] at hhi
  have hH40 : (H : Int) ≤ 40 := by omega
  have HH := Lib.hid hH
  have ch := high_any l.length ao c l W1 (Nat.le_refl _) hP (by omega)
  rw [hH] at ch
  obtain ⟨less, hless, hum⟩ := umod a2 (2 * (H : Int) + 2 + 1) (by omega) (by omega)
  have HU := Lib.hid hum
  have hc1 := hP.1
  have hc2 := hP.2.1
  unfold maxLen at hc2
  clear hP hs hr hbw T0 BA hH hum
  go_wp2_with (fail)
  refine ch.mono ?_
  clear ch
  rintro e W2 ⟨rfl, hb2⟩
  have T2 := T1.keep hb2
  have HBW := Lib.hid (HBW1.out.trans (hb2.mono HBW1.out.size))
  have HP := Lib.hid (HP1.out.below hb2)
  clear hb2 T1 HBW1 HP1
  go_wp2_with (fail)
  rw [HU.out]
  obtain ⟨R, hR, hR2⟩ : ∃ R : Int, wrap64 ((l.length : Int) + (2 * (H : Int) + 2) - (less : Int)) = R ∧ R = (l.length : Int) + (2 * (H : Int) + 2) - (less : Int) := ⟨_, by unfold wrap64; omega, rfl⟩
  rw [hR]
  clear HU hR
  refine (new_held R R W2 W2 (Below.refl _ _) (by omega)).mono ?_
  rintro e W3 ⟨p, rfl, h1⟩
  go_wp2_with (fail)
  refine (laid_any W2 p R 0 _ ao c l _ [] (Nat.le_refl _) HP.out h1 Good.nil (by simp; omega) (by omega)).mono ?_
  rintro e W4 ⟨t, L, rfl, h4, n4, t4, g4⟩
  rw [List.nil_append] at h4 t4
  have T4 := Lib.hid t4
  have N4 := Lib.hid n4
  have d0 := h4.old T2.c0
  have d1 := h4.old T2.c1
  clear t4 g4 h1 n4
  go_wp2_with (fail)
  refine (put_any h4.a T4.out HS.out (by omega)).mono ?_
  rintro e W5 ⟨u, old, er, there, M, rfl, hg, hc⟩
  have h5 := h4.grew hg (fun _ hk => hk)
  have d0 := h5.old T2.c0
  have d1 := h5.old T2.c1
  have TM := Lib.hid (T4.out.app M)
  clear hg h4
  rcases hc with ⟨rfl, hM, hT, _, _⟩ | ⟨rfl, rfl, rfl, rfl, hroom, hM⟩
  · have T5 := Lib.hid hT
    have L5 := Lib.hid (withL_le HS.out k1 v1)
    clear hT hM
    go_wp2_with (first
      | (go_at_call 19; ((with_reducible refine (with_is ao c l k1 v1 W5 (HP.out.below h5.b) (by omega)).mono ?_); rintro e W11 ⟨⟨aw, cw, rfl, hPw, hb11⟩, _⟩; have h11 := h5.below hb11; have PW := Lib.hid hPw; clear hb11 h5 hPw))
      | (go_at_call 20; ((with_reducible refine (says_any p _ R 0 (L ++ M) u (withL l k1 v1) T5.out aw cw W11 PW.out h11.a (by have := L5.out; omega)).mono ?_); rintro e W12 ⟨rfl, hb12⟩; have h12 := h11.below hb12; clear hb12 h11))
      | (go_at_call 20; ((with_reducible refine (says_any p _ R 0 (L ++ M) t l TM.out ao c W12 (HP.out.below h12.b) h12.a (by omega)).mono ?_); rintro e W13 ⟨rfl, hb13⟩; have h13 := h12.below hb13; clear hb13 h12))
      | (go_at_call 23; ((with_reducible refine (pawake_any W13).mono ?_); rintro e W14 ⟨rfl, hb14⟩; have h14 := h13.below hb14; clear hb14 h13)))
    go_ret
    exact ⟨rfl, HBW.out.trans (h14.b.mono HBW.out.size)⟩
  · rw [HH.out] at hM
    rw [List.length_append, N4.out] at hroom
    have hpos : (0 : Int) < (less : Int) := by omega
    have hposd : decide ((0 : Int) < (less : Int)) = true := decide_eq_true hpos
    generalize L ++ M = LL at h5 TM
    obtain ⟨nu, hnu⟩ : ∃ nu : Int, nu = (LL.length : Int) := ⟨_, rfl⟩
    have hfit : (LL.length : Int) ≤ 60000 := by obtain ⟨sv, vv, hi, _⟩ := h5.a; have := hi.fits; have := hi.max; omega
    have hnuw : IntKind.i64.wrap (nu + 1) = nu + 1 := by rw [IntKind.wrap_i64]; omega
    have hnu0 : 0 ≤ nu := by omega
    have hnu1 : nu ≤ 60000 := by omega
    have NK := Lib.hid (no_node LL (nu + 1) (by omega))
    have NU := Lib.hid hnu
    clear hnu hfit hroom hM
    go_wp2_with (go_at_call 17; ((with_reducible refine (put_nil t k1 v1 W5).mono ?_); rintro e W6 ⟨rfl, hb6⟩; have h6 := h5.below hb6; have d0 := h6.old T2.c0; have d1 := h6.old T2.c1; clear hb6 h5))
    go_region_held3 (fun W => W.cell? ⟨w.heap.size, 0, none⟩ = some (.int .i64 k1) ∧ W.cell? ⟨w.heap.size, 1, none⟩ = some (.int .i64 v1) ∧ Held W2 W p R 0 LL)
      (first | exact three_new T2 h6 _ rfl | exact three_keep T2 hb (by assumption) | exact three_same (by assumption) | go_keep)
      (first
        | (go_at_call 15; ((with_reducible refine (used_held (three_held (by assumption)) nu NU.out).mono ?_); rintro e w3 ⟨rfl, rfl⟩))
        | (go_at_call 16; ((with_reducible refine (add_no (three_held (by assumption)).a (nu + 1) k1 v1 NK.out).mono ?_); rintro e w3 ⟨rfl, hb⟩)))
    have h7 := three_held (by assumption)
    clear h6
    go_wp2_with (first
      | (go_at_call 20; ((with_reducible refine (says_any p _ R 0 LL t l TM.out ao c _ (HP.out.below h7.b) h7.a (by omega)).mono ?_); rintro e W13 ⟨rfl, hb13⟩; have h13 := h7.below hb13; clear hb13 h7))
      | (go_at_call 23; ((with_reducible refine (pawake_any W13).mono ?_); rintro e W14 ⟨rfl, hb14⟩; have h14 := h13.below hb14; clear hb14 h13)))
    go_ret
    exact ⟨rfl, HBW.out.trans (h14.b.mono HBW.out.size)⟩

set_option maxRecDepth 100000 in
theorem lifted (os : Os) (started : os.Started) (H : Type) (enc : TypeId × Value → H) :
    ReturnsInHanded {} Try.checked os 5 .any (Rows.putFullSpec.pre6 enc Try.prog Try.f5 Rows.putFullRow.domain false) (Rows.putFullSpec.post enc Try.prog Try.f5 false true false false) := by
  refine returnsInHanded_of_change (C := Try.checked) own started (by kernel_rfl) Try.func5
    (ChangeSpec.witness6 (enc := enc) (C := Try.checked) false ⟨#[], #[.slice none 0 0, .agg #[.int .i64 0, .int .i64 0], .int .i64 0], []⟩ 8 (by kernel_rfl) (by kernel_rfl) (by kernel_rfl) (by kernel_rfl)) ?_
  intro W base args ds gs before hval0 hW hcnd _
  have hval : ∀ (j : Nat) t v, Try.f5.params[j]? = some t → args[j]? = some v → Value.okWide Try.prog W .any base t v := hval0
  have hW' := hW
  obtain ⟨p, q, hA0, hV, rfl, hfz, hnd⟩ := hW
  have hA : DataW.TrodAll enc Try.prog W 0 (fun _ => true) true Try.f5.params.toList args.toList ds p := hA0
  rw [Try.params5] at hA hval
  obtain ⟨v0, vs0, d0, ds0, p0, q0, hargs, rfl, rfl, h0, r0⟩ := trodAll_cons hA
  obtain ⟨v1, vs1, d1, ds1, p1, q1, rfl, rfl, rfl, h1, r1⟩ := trodAll_cons r0
  obtain ⟨v2, vs2, d2, ds2, p2, q2, rfl, rfl, rfl, h2, r2⟩ := trodAll_cons r1
  obtain ⟨rfl, rfl, rfl⟩ := trodAll_nil r2
  obtain rfl : args = #[v0, v1, v2] := by cases args; simp_all
  obtain ⟨rfl, rfl⟩ := trodVars_none hV
  have k0 := h0
  have lt0 : ∀ x ∈ p0, x.block < W.heap.size := by obtain ⟨m, hm⟩ := k0; exact DataW.trod_lt m _ _ _ hm
  obtain ⟨b0, l0, c0, rfl⟩ := okWide_slice Try.underlying22 (hval 0 22 v0 rfl rfl)
  obtain ⟨a0, cap0, z0, e0, w0, g0⟩ := open_pairsw (enc := enc) (w := W) (v := .slice b0 l0 c0) (fuel := h0.choose) (by simpa [Value.cells] using h0.choose_spec)
  rw [e0] at hval k0 h0 hW' hval0 hA0
  have k1 := h1
  have lt1 : ∀ x ∈ p1, x.block < W.heap.size := by obtain ⟨m, hm⟩ := k1; exact DataW.trod_lt m _ _ _ hm
  obtain ⟨u1, rfl, _⟩ := okWide_struct Try.underlying24 (hval 1 24 v1 rfl rfl)
  obtain ⟨k1_, v1_, e1, w1⟩ := fields_pairw (enc := enc) (w := W) (cs := u1.toList) (fuel := h1.choose) (by simpa [Value.cells] using h1.choose_spec)
  obtain rfl : u1 = #[.int .i64 k1_, .int .i64 v1_] := by cases u1; simp_all
  have k2 := h2
  have lt2 : ∀ x ∈ p2, x.block < W.heap.size := by obtain ⟨m, hm⟩ := k2; exact DataW.trod_lt m _ _ _ hm
  obtain ⟨a2, rfl, rfl, rfl, w2⟩ := open_int Try.underlying3 (hval 2 3 v2 rfl rfl) h2
  clear hA0 hval0
  rw [e0]; refine (walk a0 cap0 z0 k1_ v1_ a2 W w0 g0 w1 w2).mono fun e W' ⟨he, bel⟩ => ?_
  subst he
  exact ⟨_, rfl, _, _, _, [], _, [], hW', trodAll_mk1 (shut_bool Try.underlying4 _), (trodAll_cons_mk (Below.trod laidOut (by kernel_rfl) (of_decide_eq_true (by kernel_rfl)) k0 bel lt0) (trodAll_cons_mk (Below.trod laidOut (by kernel_rfl) (of_decide_eq_true (by kernel_rfl)) k1 bel lt1) (trodAll_cons_mk (Below.trod laidOut (by kernel_rfl) (of_decide_eq_true (by kernel_rfl)) k2 bel lt2) trodAll_mk0))), rfl, bel.frame _, fun h => by cases h⟩

theorem over : Rows.putFullRow.holds Try.pinned (OpenSpec.ofChange Rows.putFullSpec) :=
  OpenClaim.holds_of_wide 5 Try.f5 rfl rfl rfl rfl rfl rfl rfl ⟨rfl, rfl, rfl, rfl, rfl⟩ rfl rfl rfl rfl rfl (by kernel_rfl) Try.func5 (by kernel_rfl)
    (of_decide_eq_true (by kernel_rfl)) (by unfold Func.isWrapper; first | (rw [if_pos (by decide +kernel)]; kernel_rfl) | (rw [if_neg (by decide +kernel)]; exact ⟨rfl, rfl⟩))
    (fun os started H enc _ => lifted os started H enc)

theorem putFullHolds : Rows.PutFullSaid := over
#print axioms putFullHolds
end Go.Proofs.Ytdonidohmenccaa.putFull
