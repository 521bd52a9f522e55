/- 'osierlaw4.LookAll' returns true for every argument. No condition. -/
import Derived.Test.YtiankcjmclpciaaRows
import Derived.Test.YtiankcjmclpciaaLkAwk
import Derived.LoopTactic
import Derived.WalkKit
import Derived.ProofKit
import Derived.OpenShut
import Derived.ChangeOld
import Derived.Below
namespace Go.Proofs.Ytiankcjmclpciaa.lookAll
open Go.ChangeShapes Go.WideShapes Go.ChangeAt Go.RowKit
set_option linter.all false

theorem own : ownKnob Try.prog.godebug = none := by kernel_rfl
theorem laidOut : laidOutB Try.prog = true := by kernel_rfl



set_option maxRecDepth 100000 in
set_option maxHeartbeats 12800000 in
theorem walk (a0 : Option Addr) (cap0 : Nat) (z0 : List Pr) (w : World) (w0 : Prs w a0 cap0 z0) (r0 : Rng z0) :
    Calls Try.prog 8 #[.slice a0 z0.length cap0] w fun e w' => e = .returned (.bool true) ∧ Below w.heap.size w w' := by
  have cp : Calls Try.prog 9 #[.slice a0 z0.length cap0, .int .i64 40] w (PairsIs w 40) := pairs_srt a0 cap0 z0 40 w w0 r0 (by omega)
  have hc0 := w0.1
  have hc1 := w0.2.1
  clear w0 r0
  unfold maxLen at hc1
  go_enter Try.func8, Try.ntmps8
  go_wp2_with (first
    | (go_at_call 9; ((with_reducible refine cp.mono ?_); clear cp; rintro e W2 ⟨ao, c, l, rfl, hl, hs, hr, hP, hbw⟩; have hP1 := hP.1; have hP2 := hP.2.1; have HP := Lib.hid hP; have HS := Lib.hid hs; clear hP hs hr; unfold maxLen at hP2))
    | (go_at_call 10; ((with_reducible refine (new_held 100 100 W2 _ (Below.refl _ _) (by decide)).mono ?_); rintro e W3 ⟨p, rfl, h1⟩))
    | (go_at_call 11; ((with_reducible refine (laid_any W2 p _ _ _ ao c l _ [] (Nat.le_refl _) HP.out h1 Good.nil (by simp; omega) (by omega)).mono ?_); rintro e W4 ⟨t, L, rfl, h4, n4, t4, g4⟩; rw [List.nil_append] at h4 t4; have T4 := Lib.hid t4; have H4 := Lib.hid h4; clear t4 g4 h1 n4 h4)))
  go_loopw [24] (fun i wr => ∃ n : Nat, n ≤ l.length ∧ i = .int .i64 n ∧ Held W2 wr p 100 0 L) (fun i _ => l.length - (intOf i).toNat)
  case atStart => exact ⟨0, Nat.zero_le _, rfl, H4.out⟩
  case round =>
    clear H4
    obtain ⟨n, hn, rfl, hH⟩ := hrel
    have HH := Lib.hid hH
    clear hH
    by_cases hlt : n < l.length
    · obtain ⟨q, hq⟩ : ∃ q, l[n]? = some q := ⟨_, List.getElem?_eq_getElem hlt⟩
      obtain ⟨b, o, rfl, c0, c1⟩ := (HP.out.below HH.out.b).2.2 n q hq
      obtain ⟨x0, x1⟩ := q
      dsimp only at c0 c1
      have HQ := Lib.hid hq
      have HF := Lib.hid (show findL l x0 = some (x0, x1) from findL_here HS.out hq)
      clear hq
      have h5 := HH.out.alloc (.cells #[.int .i64 x0, .int .i64 x1] 31)
      go_wp2_with (first
        | (go_at_call 19; have cc := tnth h5 T4.out (by omega) n x0 x1 true (by unfold atL; rw [if_neg (by omega), Int.toNat_natCast, HQ.out]; rfl) (by unfold atL; rw [if_neg (by omega), Int.toNat_natCast, HQ.out]; rfl); ((with_reducible refine cc.mono ?_); clear cc; rintro e W6 ⟨rfl, hb6⟩; have h6 := (h5.below hb6).alloc (.cells #[.int .i64 x0, .int .i64 x1] 31); have u0 := cell_alloc (cell_new hb6 0 rfl) (.cells #[.int .i64 x0, .int .i64 x1] 31); have u1 := cell_alloc (cell_new hb6 1 rfl) (.cells #[.int .i64 x0, .int .i64 x1] 31); clear hb6))
        | (go_at_call 12; have cc := tget h6 T4.out HS.out x0 x1 true (by rw [HF.out]; rfl) (by rw [HF.out]; rfl); ((with_reducible refine cc.mono ?_); clear cc; rintro e W7 ⟨rfl, hb7⟩; have h7 := h6.below hb7; have v0 := cell_new hb7 0 rfl; have v1 := cell_new hb7 1 rfl; have y0 := (hb7.cell (World.block_lt_of_cell? _ _ u0)).trans u0; have y1 := (hb7.cell (World.block_lt_of_cell? _ _ u1)).trans u1; clear hb7 u0 u1)))
      go_roundw
      case rel => exact ⟨n + 1, by omega, by go_num, h7⟩
      case measure => simp [intOf]; omega
    · obtain rfl : n = l.length := by omega
      have chi := fun W hP => high_any l.length ao c l W (Nat.le_refl _) hP (by omega)
      go_wp2_with (first
        | (go_at_call 14; have cc := tsize HH.out T4.out l.length rfl; ((with_reducible refine cc.mono ?_); clear cc; rintro e W6 ⟨rfl, hb6⟩; have h6 := HH.out.below hb6; clear hb6))
        | (go_at_call 15; have cc := thigh h6 T4.out (hi l) rfl; ((with_reducible refine cc.mono ?_); clear cc; rintro e W7 ⟨rfl, hb7⟩; have h7 := h6.below hb7; clear hb7))
        | (go_at_call 16; ((with_reducible refine (chi _ (HP.out.below h7.b)).mono ?_); rintro e W8 ⟨rfl, hb8⟩; have h8 := h7.below hb8; clear hb8))
        | (go_at_call 21; ((with_reducible refine (lawake_any _).mono ?_); rintro e W9 ⟨rfl, hb9⟩; have h9 := h8.below hb9; clear hb9)))
      go_ret
      exact ⟨rfl, hbw.trans (h9.b.mono hbw.size)⟩

set_option maxRecDepth 100000 in
theorem lifted (os : Os) (started : os.Started) (H : Type) (enc : TypeId × Value → H) :
    ReturnsInHanded {} Try.checked os 8 .any (Rows.lookAllSpec.pre6 enc Try.prog Try.f8 Rows.lookAllRow.domain false) (Rows.lookAllSpec.post enc Try.prog Try.f8 false true false false) := by
  refine returnsInHanded_of_change (C := Try.checked) own started (by kernel_rfl) Try.func8
    (ChangeSpec.witness6 (enc := enc) (C := Try.checked) false ⟨#[], #[.slice none 0 0], []⟩ 8 (by kernel_rfl) (by kernel_rfl) (by kernel_rfl) (by kernel_rfl)) ?_
  intro W base args ds gs before hval0 hW hcnd _
  have hval : ∀ (j : Nat) t v, Try.f8.params[j]? = some t → args[j]? = some v → Value.okWide Try.prog W .any base t v := hval0
  have hW' := hW
  obtain ⟨p, q, hA0, hV, rfl, hfz, hnd⟩ := hW
  have hA : DataW.TrodAll enc Try.prog W 0 (fun _ => true) true Try.f8.params.toList args.toList ds p := hA0
  rw [Try.params8] at hA hval
  obtain ⟨v0, vs0, d0, ds0, p0, q0, hargs, rfl, rfl, h0, r0⟩ := trodAll_cons hA
  obtain ⟨rfl, rfl, rfl⟩ := trodAll_nil r0
  obtain rfl : args = #[v0] := by cases args; simp_all
  obtain ⟨rfl, rfl⟩ := trodVars_none hV
  have k0 := h0
  have lt0 : ∀ x ∈ p0, x.block < W.heap.size := by obtain ⟨m, hm⟩ := k0; exact DataW.trod_lt m _ _ _ hm
  obtain ⟨b0, l0, c0, rfl⟩ := okWide_slice Try.underlying22 (hval 0 22 v0 rfl rfl)
  obtain ⟨a0, cap0, z0, e0, w0, g0⟩ := open_pairsw (enc := enc) (w := W) (v := .slice b0 l0 c0) (fuel := h0.choose) (by simpa [Value.cells] using h0.choose_spec)
  rw [e0] at hval k0 h0 hW' hval0 hA0
  clear hA0 hval0
  rw [e0]; refine (walk a0 cap0 z0 W w0 g0).mono fun e W' ⟨he, bel⟩ => ?_
  subst he
  exact ⟨_, rfl, _, _, _, [], _, [], hW', trodAll_mk1 (shut_bool Try.underlying4 _), (trodAll_cons_mk (Below.trod laidOut (by kernel_rfl) (of_decide_eq_true (by kernel_rfl)) k0 bel lt0) trodAll_mk0), rfl, bel.frame _, fun h => by cases h⟩

theorem over : Rows.lookAllRow.holds Try.pinned (OpenSpec.ofChange Rows.lookAllSpec) :=
  OpenClaim.holds_of_wide 8 Try.f8 rfl rfl rfl rfl rfl rfl rfl ⟨rfl, rfl, rfl, rfl, rfl⟩ rfl rfl rfl rfl rfl (by kernel_rfl) Try.func8 (by kernel_rfl)
    (of_decide_eq_true (by kernel_rfl)) (by unfold Func.isWrapper; first | (rw [if_pos (by decide +kernel)]; kernel_rfl) | (rw [if_neg (by decide +kernel)]; exact ⟨rfl, rfl⟩))
    (fun os started H enc _ => lifted os started H enc)

theorem lookAllHolds : Rows.LookAllSaid := over
#print axioms lookAllHolds
end Go.Proofs.Ytiankcjmclpciaa.lookAll
