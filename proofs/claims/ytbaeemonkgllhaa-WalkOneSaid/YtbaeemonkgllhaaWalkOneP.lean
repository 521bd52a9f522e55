/- 'osierlaw9.WalkOne' returns true for every argument. No condition. -/
import Derived.Test.YtbaeemonkgllhaaRows
import Derived.Test.YtbaeemonkgllhaaWaAwk
import Derived.Deep.RegionHeld3
import Derived.LoopTactic
import Derived.WalkKit
import Derived.ProofKit
import Derived.OpenShut
import Derived.ChangeOld
import Derived.Below
namespace Go.Proofs.Ytbaeemonkgllhaa.walkOne
open Go.ChangeShapes Go.WideShapes Go.ChangeAt Go.RowKit
set_option linter.all false

theorem own : ownKnob Try.prog.godebug = none := by kernel_rfl
theorem laidOut : laidOutB Try.prog = true := by kernel_rfl

theorem rngL_one_none {l : List Pr} {k : Int} (h : findL l k = none) : rngL l k k = [] := by
  unfold findL at h
  rw [List.find?_eq_none] at h
  refine rngL_none (fun z hz => ?_)
  have := h z hz
  simp at this
  omega
theorem rngL_one {l : List Pr} (hs : Srt l) {j : Nat} {q : Pr} (hj : l[j]? = some q) : rngL l q.1 q.1 = [q] := by
  have e := split_at hj
  conv => lhs; rw [e]
  rw [rngL_app, rngL_in (Int.le_refl _) (Int.le_refl _), rngL_none (l := l.take j) (fun z hz => by have := hs.below hj z hz; omega), rngL_none (l := l.drop (j + 1)) (fun z hz => by have := hs.above hj z hz; omega)]
  rfl
section
variable {W2 W W' : World} {g o b c p : Nat} {k v : Int} {L : List It}
def OneS (W2 : World) (g o b c p : Nat) (k v : Int) (L : List It) (W : World) : Prop :=
  W.cell? ⟨g, o, none⟩ = some (.int .i64 k) ∧ W.cell? ⟨g, o + 1, none⟩ = some (.int .i64 v) ∧ W.cell? ⟨b, c, none⟩ = some (.int .i64 k) ∧ W.cell? ⟨b, c + 1, none⟩ = some (.int .i64 v) ∧ Held W2 W p 100 0 L
theorem one_keep (H : OneS W2 g o b c p k v L W) (hb : Below W.heap.size W W') : OneS W2 g o b c p k v L W' := by
  obtain ⟨h0, h1, h2, h3, hH⟩ := H
  have go : ∀ {q : Addr} {v : Value}, W.cell? q = some v → W'.cell? q = some v := fun hc => (hb.cell (World.block_lt_of_cell? W _ hc)).trans hc
  exact ⟨go h0, go h1, go h2, go h3, hH.below hb⟩
theorem one_held (H : W.cell? ⟨g, o, none⟩ = some (.int .i64 k) ∧ W.cell? ⟨g, o + 1, none⟩ = some (.int .i64 v) ∧ W.cell? ⟨b, c, none⟩ = some (.int .i64 k) ∧ W.cell? ⟨b, c + 1, none⟩ = some (.int .i64 v) ∧ Held W2 W p 100 0 L) : Held W2 W p 100 0 L := H.2.2.2.2
theorem one_new (H : OneS W2 g o b c p k v L W) : ∀ W', W' = W.drew → OneS W2 g o b c p k v L W' := by
  rintro W' rfl
  exact one_keep H (Below.refl _ _).drew
end

set_option maxRecDepth 100000 in
set_option maxHeartbeats 12800000 in
theorem walk (a0 : Option Addr) (cap0 : Nat) (z0 : List Pr) (a1 : Int) (w : World) (w0 : Prs w a0 cap0 z0) (r0 : Rng z0) (w1 : (Lit.int .i64 a1).wf = true) :
    Calls Try.prog 6 #[.slice a0 z0.length cap0, .int .i64 a1] w fun e w' => e = .returned (.bool true) ∧ Below w.heap.size w w' := by
  have cp : Calls Try.prog 8 #[.slice a0 z0.length cap0, .int .i64 50] w (PairsIs w 50) := pairs_srt a0 cap0 z0 50 w w0 r0 (by omega)
  have hc0 := w0.1
  have hc1 := w0.2.1
  clear w0 r0
  unfold maxLen at hc1
  go_enter Try.func6, Try.ntmps6
  go_wp2_with (first
    | (go_at_call 8; ((with_reducible refine cp.mono ?_); clear cp; rintro e W2 ⟨ao, c, l, rfl, hl, hs, hr, hP, hbw⟩; have hP1 := hP.1; have hP2 := hP.2.1; have HP := Lib.hid hP; have HS := Lib.hid hs; have HBW := Lib.hid hbw; clear hP hs hr hbw; unfold maxLen at hP2))
    | (go_at_call 9; ((with_reducible refine (new_held 100 100 W2 _ (Below.refl _ _) (by decide)).mono ?_); rintro e W3 ⟨p, rfl, h1⟩))
    | (go_at_call 10; ((with_reducible refine (laid_any W2 p _ _ _ ao c l _ [] (Nat.le_refl _) HP.out h1 Good.nil (by simp; omega) (by omega)).mono ?_); rintro e W4 ⟨t, L, rfl, h4, n4, t4, g4⟩; rw [List.nil_append] at h4 t4; have T4 := Lib.hid t4; clear t4 g4 h1 n4)))
  refine (find_any ao c l a1 _ (HP.out.below h4.b)).mono ?_
  rintro e W5 ⟨k, rfl, hk, hb5⟩
  have h5 := h4.below hb5
  have hl1000 : l.length ≤ 1000 := by omega
  clear hb5 h4
  rcases hk with ⟨rfl, hf⟩ | ⟨j, q, rfl, hj, hjk, hf⟩
  · have E0 := Lib.hid (rngL_one_none hf)
    clear hf
    go_wp2_with (first
      | (go_at_call 15; have cc := wrange h5 T4.out HS.out hl1000 a1 a1 [] 0 E0.out rfl; ((with_reducible refine cc.mono ?_); clear cc; rintro e W6 ⟨ar, cr, rfl, hn1, hn2, hR, hb6⟩; have h6 := h5.below hb6; clear hb6 h5 hR))
      | (go_at_call 16; have cc := wcount h6 T4.out HS.out hl1000 a1 a1 0 (by rw [E0.out]; rfl); ((with_reducible refine cc.mono ?_); clear cc; rintro e W7 ⟨rfl, hb7⟩; have h7 := h6.below hb7; clear hb7 h6))
      | (go_at_call 18; ((with_reducible refine (wawake_any _).mono ?_); rintro e W8 ⟨rfl, hb8⟩; have h8 := h7.below hb8; clear hb8 h7)))
    go_ret
    exact ⟨rfl, HBW.out.trans (h8.b.mono HBW.out.size)⟩
  · subst hjk
    have E1 := Lib.hid (rngL_one HS.out hj)
    obtain ⟨b, o, rfl, c0, c1⟩ := HP.out.2.2 j q hj
    have hjl : j < l.length := (List.getElem?_eq_some_iff.1 hj).1
    obtain ⟨k1, v1⟩ := q
    dsimp only at E1 c0 c1
    have C01 := Lib.hid (And.intro c0 c1)
    have hj0 : (0 : Int) ≤ (j : Int) := by omega
    have hjl' : (j : Int) < (l.length : Int) := by omega
    have hjn : ¬ (j : Int) < 0 := by omega
    clear hf hj c0 c1
    go_upto_region 8 with (first
      | (go_at_call 15; have cc := wrange h5 T4.out HS.out hl1000 k1 k1 [(k1, v1)] 1 E1.out rfl; ((with_reducible refine cc.mono ?_); clear cc; rintro e W6 ⟨ar, cr, rfl, hn1, hn2, hR, hb6⟩; have h6 := h5.below hb6; have hPr := hR.prs rfl; obtain ⟨g, og, rfl, r0, r1⟩ := hPr.2.2 0 (k1, v1) rfl; have R := Lib.hid (And.intro r0 r1); clear hb6 h5 hR hPr r0 r1)))
    have HO : OneS W2 g og b (o + j * 2) p k1 v1 L W6 := ⟨by simpa using R.out.1, by simpa using R.out.2, h6.old C01.out.1, h6.old C01.out.2, h6⟩
    have HHO := Lib.hid HO
    clear HO h6
    go_region_held3 (fun W => W.cell? ⟨g, og, none⟩ = some (.int .i64 k1) ∧ W.cell? ⟨g, og + 1, none⟩ = some (.int .i64 v1) ∧ W.cell? ⟨b, o + j * 2, none⟩ = some (.int .i64 k1) ∧ W.cell? ⟨b, o + j * 2 + 1, none⟩ = some (.int .i64 v1) ∧ Held W2 W p 100 0 L)
      (first | exact one_new HHO.out _ rfl | exact one_keep (by assumption) hb | go_keep)
      (first
        | (go_at_call 16; have cc := wcount (one_held (by assumption)) T4.out HS.out hl1000 k1 k1 1 (by rw [E1.out]; rfl); ((with_reducible refine cc.mono ?_); clear cc; rintro e W7 ⟨rfl, hb⟩))
        | (go_at_call 18; ((with_reducible refine (wawake_any _).mono ?_); rintro e W8 ⟨rfl, hb⟩)))
    all_goals
      have h9 := one_held (by assumption)
      go_wp2_with (fail)
      go_ret
      exact ⟨rfl, HBW.out.trans (h9.b.mono HBW.out.size)⟩

set_option maxRecDepth 100000 in
theorem lifted (os : Os) (started : os.Started) (H : Type) (enc : TypeId × Value → H) :
    ReturnsInHanded {} Try.checked os 6 .any (Rows.walkOneSpec.pre6 enc Try.prog Try.f6 Rows.walkOneRow.domain false) (Rows.walkOneSpec.post enc Try.prog Try.f6 false true false false) := by
  refine returnsInHanded_of_change (C := Try.checked) own started (by kernel_rfl) Try.func6
    (ChangeSpec.witness6 (enc := enc) (C := Try.checked) false ⟨#[], #[.slice none 0 0, .int .i64 0], []⟩ 8 (by kernel_rfl) (by kernel_rfl) (by kernel_rfl) (by kernel_rfl)) ?_
  intro W base args ds gs before hval0 hW hcnd _
  have hval : ∀ (j : Nat) t v, Try.f6.params[j]? = some t → args[j]? = some v → Value.okWide Try.prog W .any base t v := hval0
  have hW' := hW
  obtain ⟨p, q, hA0, hV, rfl, hfz, hnd⟩ := hW
  have hA : DataW.TrodAll enc Try.prog W 0 (fun _ => true) true Try.f6.params.toList args.toList ds p := hA0
  rw [Try.params6] at hA hval
  obtain ⟨v0, vs0, d0, ds0, p0, q0, hargs, rfl, rfl, h0, r0⟩ := trodAll_cons hA
  obtain ⟨v1, vs1, d1, ds1, p1, q1, rfl, rfl, rfl, h1, r1⟩ := trodAll_cons r0
  obtain ⟨rfl, rfl, rfl⟩ := trodAll_nil r1
  obtain rfl : args = #[v0, v1] := by cases args; simp_all
  obtain ⟨rfl, rfl⟩ := trodVars_none hV
  have k0 := h0
  have lt0 : ∀ x ∈ p0, x.block < W.heap.size := by obtain ⟨m, hm⟩ := k0; exact DataW.trod_lt m _ _ _ hm
  obtain ⟨b0, l0, c0, rfl⟩ := okWide_slice Try.underlying22 (hval 0 22 v0 rfl rfl)
  obtain ⟨a0, cap0, z0, e0, w0, g0⟩ := open_pairsw (enc := enc) (w := W) (v := .slice b0 l0 c0) (fuel := h0.choose) (by simpa [Value.cells] using h0.choose_spec)
  rw [e0] at hval k0 h0 hW' hval0 hA0
  have k1 := h1
  have lt1 : ∀ x ∈ p1, x.block < W.heap.size := by obtain ⟨m, hm⟩ := k1; exact DataW.trod_lt m _ _ _ hm
  obtain ⟨a1, rfl, rfl, rfl, w1⟩ := open_int Try.underlying3 (hval 1 3 v1 rfl rfl) h1
  clear hA0 hval0
  rw [e0]; refine (walk a0 cap0 z0 a1 W w0 g0 w1).mono fun e W' ⟨he, bel⟩ => ?_
  subst he
  exact ⟨_, rfl, _, _, _, [], _, [], hW', trodAll_mk1 (shut_bool Try.underlying4 _), (trodAll_cons_mk (Below.trod laidOut (by kernel_rfl) (of_decide_eq_true (by kernel_rfl)) k0 bel lt0) (trodAll_cons_mk (Below.trod laidOut (by kernel_rfl) (of_decide_eq_true (by kernel_rfl)) k1 bel lt1) trodAll_mk0)), rfl, bel.frame _, fun h => by cases h⟩

theorem over : Rows.walkOneRow.holds Try.pinned (OpenSpec.ofChange Rows.walkOneSpec) :=
  OpenClaim.holds_of_wide 6 Try.f6 rfl rfl rfl rfl rfl rfl rfl ⟨rfl, rfl, rfl, rfl, rfl⟩ rfl rfl rfl rfl rfl (by kernel_rfl) Try.func6 (by kernel_rfl)
    (of_decide_eq_true (by kernel_rfl)) (by unfold Func.isWrapper; first | (rw [if_pos (by decide +kernel)]; kernel_rfl) | (rw [if_neg (by decide +kernel)]; exact ⟨rfl, rfl⟩))
    (fun os started H enc _ => lifted os started H enc)

theorem walkOneHolds : Rows.WalkOneSaid := over
#print axioms walkOneHolds
end Go.Proofs.Ytbaeemonkgllhaa.walkOne
