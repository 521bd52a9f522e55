/- Where some order of a history's calls is right, lin.Find finds one that is right. No condition. -/
import Derived.Test.YtadfnbmogobopaaRows
import Derived.Test.YtadfnbmogobopaaLiF
import Derived.LoopTactic
import Derived.WalkKit
import Derived.ProofKit
import Derived.OpenShut
import Derived.ChangeOld
import Derived.Below
namespace Go.Proofs.Ytadfnbmogobopaa.linOrders
open Go.ChangeShapes Go.WideShapes Go.ChangeAt Go.RowKit
set_option linter.all false

theorem own : ownKnob Try.prog.godebug = none := by kernel_rfl
theorem laidOut : laidOutB Try.prog = true := by kernel_rfl

theorem nd_len : ∀ (n : Nat) (l : List Int), l.Nodup → (∀ x ∈ l, 0 ≤ x ∧ x < (n : Int)) → l.length ≤ n
  | 0, l, _, h => by
    cases l with
    | nil => exact Nat.le_refl _
    | cons x l => have := h x (by simp); omega
  | n + 1, l, hd, h => by
    have h1 := nd_len n (l.erase (n : Int)) (hd.erase _) (fun x hx => by
      have h2 := (List.Nodup.mem_erase_iff hd).1 hx
      have h3 := h x h2.2
      have := h2.1
      omega)
    rw [List.length_erase] at h1
    split at h1 <;> omega
theorem ord_len {m : List Pr} {N : List EvD} {l : List Int} {s : Mt} (hm : mtch N = some s) (h : ordR m N l) : l.length ≤ s.l.length := by
  obtain ⟨_, s', h1, h2⟩ := h
  rw [hm] at h1; cases h1
  exact nd_len _ l h2.nm.nd (fun x hx => h2.nm.inr x hx)

set_option maxRecDepth 100000 in
set_option maxHeartbeats 12800000 in
theorem walk (a0 : Option Addr) (cap0 : Nat) (z0 : List Pr) (a1 : Option Addr) (cap1 : Nat) (z1 : List EvD) (a2 : Option Addr) (cap2 : Nat) (z2 : List Int) (w : World) (w0 : Prs w a0 cap0 z0) (r0 : Rng z0) (w1 : Es w a1 cap1 z1 ∧ (a1 = none → cap1 = 0)) (s1 : MidE z1 ∧ ∀ e ∈ z1, e.o.wf) (w2 : RI w a2 cap2 z2) :
    Calls Try.prog 7 #[.slice a0 z0.length cap0, .slice a1 z1.length cap1, .slice a2 z2.length cap2] w fun e w' => e = .returned (.bool true) ∧ Below w.heap.size w w' := by
  have hz1 := w0.1
  have hz2 := w0.2.1
  have hz3 := w1.1.1
  have hz4 := w1.1.2.1
  have hz5 := w2.1
  have hz6 := w2.2.1
  unfold maxLen at hz2 hz4 hz6
  have cs0 := short_any a1 cap1 z1 w w1.1 s1.1
  by_cases hS : shrt z1
  rotate_left
  · have cs := cs0 false (by simp [hS])
    clear cs0 hS
    go_enter Try.func7, Try.ntmps7
    go_wp2_with (first
      | (go_at_call 8; ((with_reducible refine cs.mono ?_); clear cs; rintro e v1 ⟨rfl, hb1⟩; have HB1 := Lib.hid hb1; clear hb1))
      | (go_at_call 10; ((with_reducible refine (lawake_any _).mono ?_); rintro e wa ⟨rfl, hba⟩; have HBa := Lib.hid (pb2 HB1.out hba); clear hba))
      | fail)
    go_ret
    exact ⟨by simp, HBa.out⟩
  have cs := cs0 true (by simp [hS])
  clear cs0
  by_cases hA : z0.length ≤ 30
  rotate_left
  · have h3 : (30 : Int) < (z0.length : Int) := by omega
    clear hA
    go_enter Try.func7, Try.ntmps7
    go_wp2_with (first
      | (go_at_call 8; ((with_reducible refine cs.mono ?_); clear cs; rintro e v1 ⟨rfl, hb1⟩; have HB1 := Lib.hid hb1; clear hb1))
      | (go_at_call 10; ((with_reducible refine (lawake_any _).mono ?_); rintro e wa ⟨rfl, hba⟩; have HBa := Lib.hid (pb2 HB1.out hba); clear hba))
      | fail)
    go_ret
    exact ⟨by simp, HBa.out⟩
  have h3 : ¬ (30 : Int) < (z0.length : Int) := by omega
  by_cases hA2 : z2.length ≤ 20
  rotate_left
  · have h4 : (20 : Int) < (z2.length : Int) := by omega
    clear hA hA2
    go_enter Try.func7, Try.ntmps7
    go_wp2_with (first
      | (go_at_call 8; ((with_reducible refine cs.mono ?_); clear cs; rintro e v1 ⟨rfl, hb1⟩; have HB1 := Lib.hid hb1; clear hb1))
      | (go_at_call 10; ((with_reducible refine (lawake_any _).mono ?_); rintro e wa ⟨rfl, hba⟩; have HBa := Lib.hid (pb2 HB1.out hba); clear hba))
      | fail)
    go_ret
    exact ⟨by simp, HBa.out⟩
  have h4 : ¬ (20 : Int) < (z2.length : Int) := by omega
  have hN3 : z1.length ≤ 300 := Nat.le_trans hS.1.1 (by decide)
  have hps : ∀ e ∈ z1, e.a.ps.length ≤ 1100000 := fun e he => Nat.le_trans (hS.1.ps e he) (by decide)
  have cR0 := fun W (hb : Below w.heap.size w W) B hB => oright_any a0 a1 a2 cap0 cap1 cap2 z0 z1 z2 W (w0.below hb) (w1.1.keep hb) (w2.below hb) (by omega) hN3 hps (by omega) B hB
  by_cases hO : ordR z0 z1 z2
  rotate_left
  · have cR := fun W hb => cR0 W hb false (by simp [hO])
    clear cR0 hO hS hps hN3
    go_enter Try.func7, Try.ntmps7
    go_wp2_with (first
      | (go_at_call 8; ((with_reducible refine cs.mono ?_); clear cs; rintro e v1 ⟨rfl, hb1⟩; have HB1 := Lib.hid hb1; clear hb1))
      | (go_at_call 16; ((with_reducible refine (cR _ HB1.out).mono ?_); clear cR; rintro e v2 ⟨rfl, hb2⟩; have HB2 := Lib.hid (pb2 HB1.out hb2); clear hb2))
      | (go_at_call 10; ((with_reducible refine (lawake_any _).mono ?_); rintro e wa ⟨rfl, hba⟩; have HBa := Lib.hid (pb2 HB2.out hba); clear hba))
      | fail)
    go_ret
    exact ⟨by simp, HBa.out⟩
  have cR := fun W hb => cR0 W hb true (by simp [hO])
  have cM := fun W (hb : Below w.heap.size w W) => rmay_any a0 cap0 z0 W (w0.below hb) true (decide_eq_true hO.1)
  have cF := fun W (hb : Below w.heap.size w W) => find_any a0 a1 cap0 cap1 z0 z1 W (w0.below hb) (w1.1.keep hb) (by omega) hN3 hps (rng_w r0) (fun e he => op_w (s1.2 e he))
  have cL := fun W (hb : Below w.heap.size w W) => light_anyE a1 cap1 z1 W (w1.1.keep hb) s1.1 0 (fun _ => rfl) (fun h => absurd hS.1 h)
  obtain ⟨s, hs⟩ : ∃ s, mtch z1 = some s := by obtain ⟨_, s, h, _⟩ := hO; exact ⟨s, h⟩
  have HS9 := Lib.hid (shrt_len hS hs)
  have HOK : Hid (okF z0 z1) := Lib.hid ⟨hO.1, s, hs, Nat.le_trans HS9.out (by decide)⟩
  have HO := Lib.hid hO
  have HS := Lib.hid hs
  have cR2 := fun a3 cap3 l W (hb : Below w.heap.size w W) (hl : RI W a3 cap3 l) (ho : ordR z0 z1 l) => oright_any a0 a1 a3 cap0 cap1 cap3 z0 z1 l W (w0.below hb) (w1.1.keep hb) hl (by omega) hN3 hps (by have h5 := ord_len hs ho; have h6 := HS9.out; omega) true (by simp [ho])
  clear cR0 hO hS hps hN3 hs
  go_enter Try.func7, Try.ntmps7
  go_wp2_with (first
    | (go_at_call 8; ((with_reducible refine cs.mono ?_); clear cs; rintro e v1 ⟨rfl, hb1⟩; have HB1 := Lib.hid hb1; clear hb1))
    | (go_at_call 16; ((with_reducible refine (cR _ HB1.out).mono ?_); clear cR; rintro e v2 ⟨rfl, hb2⟩; have HB2 := Lib.hid (pb2 HB1.out hb2); clear hb2))
    | (go_at_call 12; ((with_reducible refine (cM _ HB2.out).mono ?_); clear cM; rintro e v3 ⟨rfl, hb3⟩; have HB3 := Lib.hid (pb2 HB2.out hb3); clear hb3))
    | (go_at_call 13; ((with_reducible refine (cF _ HB3.out).mono ?_); clear cF; rintro e v4 ⟨B, E, ao, c, l, rfl, hb4, h1, h2, h5, h6, h7⟩; obtain rfl : E = 0 := h1 HOK.out; obtain rfl : B = true := (h5 HOK.out).2 ⟨_, HO.out⟩; have HB4 := Lib.hid (pb2 HB3.out hb4); have HF := Lib.hid (h6 rfl); clear hb4 h1 h2 h5 h6 h7))
    | (go_at_call 16; ((with_reducible refine (cR2 _ _ _ _ HB4.out HF.out.2.ri HF.out.1).mono ?_); clear cR2; rintro e v5 ⟨rfl, hb5⟩; have HB5 := Lib.hid (pb2 HB4.out hb5); clear hb5))
    | (go_at_call 15; ((with_reducible refine (cL _ HB5.out).mono ?_); clear cL; rintro e v6 ⟨rfl, hb6⟩; have HB6 := Lib.hid (pb2 HB5.out hb6); clear hb6))
    | (go_at_call 10; ((with_reducible refine (lawake_any _).mono ?_); rintro e wa ⟨rfl, hba⟩; have HBa := Lib.hid (pb2 HB6.out hba); clear hba))
    | fail)
  go_ret
  exact ⟨by simp, HBa.out⟩

set_option maxRecDepth 100000 in
theorem lifted (os : Os) (started : os.Started) (H : Type) (enc : TypeId × Value → H) :
    ReturnsInHanded {} Try.checked os 7 .any (Rows.linOrdersSpec.pre6 enc Try.prog Try.f7 Rows.linOrdersRow.domain false) (Rows.linOrdersSpec.post enc Try.prog Try.f7 false true false false) := by
  refine returnsInHanded_of_change_sized (C := Try.checked) own started (by kernel_rfl) Try.func7
    (ChangeSpec.witness6 (enc := enc) (C := Try.checked) false ⟨#[], #[.slice none 0 0, .slice none 0 0, .slice none 0 0], []⟩ 8 (by kernel_rfl) (by kernel_rfl) (by kernel_rfl) (by kernel_rfl)) ?_
  intro W base args ds gs before hval0 hW hcnd hsz _
  have hval : ∀ (j : Nat) t v, Try.f7.params[j]? = some t → args[j]? = some v → Value.okWide Try.prog W .any base t v := hval0
  have hW' := hW
  obtain ⟨p, q, hA0, hV, rfl, hfz, hnd⟩ := hW
  have hA : DataW.TrodAll enc Try.prog W 0 (fun _ => true) true Try.f7.params.toList args.toList ds p := hA0
  rw [Try.params7] at hA hval
  obtain ⟨v0, vs0, d0, ds0, p0, q0, hargs, rfl, rfl, h0, r0⟩ := trodAll_cons hA
  obtain ⟨v1, vs1, d1, ds1, p1, q1, rfl, rfl, rfl, h1, r1⟩ := trodAll_cons r0
  obtain ⟨v2, vs2, d2, ds2, p2, q2, rfl, rfl, rfl, h2, r2⟩ := trodAll_cons r1
  obtain ⟨rfl, rfl, rfl⟩ := trodAll_nil r2
  obtain rfl : args = #[v0, v1, v2] := by cases args; simp_all
  obtain ⟨rfl, rfl⟩ := trodVars_none hV
  have k0 := h0
  have lt0 : ∀ x ∈ p0, x.block < W.heap.size := by obtain ⟨m, hm⟩ := k0; exact DataW.trod_lt m _ _ _ hm
  obtain ⟨b0, l0, c0, rfl⟩ := okWide_slice Try.underlying22 (hval 0 22 v0 rfl rfl)
  obtain ⟨a0, cap0, z0, e0, w0, g0⟩ := open_pairsw (enc := enc) (w := W) (v := .slice b0 l0 c0) (fuel := h0.choose) (by simpa [Value.cells] using h0.choose_spec)
  rw [e0] at hval k0 h0 hW' hval0 hA0
  have k1 := h1
  have lt1 : ∀ x ∈ p1, x.block < W.heap.size := by obtain ⟨m, hm⟩ := k1; exact DataW.trod_lt m _ _ _ hm
  obtain ⟨b1, l1, c1, rfl⟩ := okWide_slice Try.underlying23 (hval 1 23 v1 rfl rfl)
  obtain ⟨a1, cap1, z1, e1, w1, s1⟩ := open_eventsw (enc := enc) (w := W) (v := .slice b1 l1 c1) (fuel := h1.choose) (by simpa [Value.cells] using h1.choose_spec) (fun n hn => by simpa using List.all_eq_true.1 hsz n (DataW.weights_mem_each (j := 1) rfl rfl n hn))
  rw [e1] at hval k1 h1 hW' hval0 hA0
  have k2 := h2
  have lt2 : ∀ x ∈ p2, x.block < W.heap.size := by obtain ⟨m, hm⟩ := k2; exact DataW.trod_lt m _ _ _ hm
  obtain ⟨b2, l2, c2, rfl⟩ := okWide_slice Try.underlying40 (hval 2 40 v2 rfl rfl)
  obtain ⟨a2, cap2, z2, e2, w2⟩ := open_ri (enc := enc) (w := W) (v := .slice b2 l2 c2) (fuel := h2.choose) (by simpa [Value.cells] using h2.choose_spec)
  rw [e2] at hval k2 h2 hW' hval0 hA0
  clear hA0 hval0
  rw [e0]; rw [e1]; rw [e2]; refine (walk a0 cap0 z0 a1 cap1 z1 a2 cap2 z2 W w0 g0 w1 s1 w2).mono fun e W' ⟨he, bel⟩ => ?_
  subst he
  exact ⟨_, rfl, _, _, _, [], _, [], hW', trodAll_mk1 (shut_bool Try.underlying4 _), (trodAll_cons_mk (Below.trod laidOut (by kernel_rfl) (of_decide_eq_true (by kernel_rfl)) k0 bel lt0) (trodAll_cons_mk (Below.trod laidOut (by kernel_rfl) (of_decide_eq_true (by kernel_rfl)) k1 bel lt1) (trodAll_cons_mk (Below.trod laidOut (by kernel_rfl) (of_decide_eq_true (by kernel_rfl)) k2 bel lt2) trodAll_mk0))), rfl, bel.frame _, fun h => by cases h⟩

theorem over : Rows.linOrdersRow.holds Try.pinned (OpenSpec.ofChange Rows.linOrdersSpec) :=
  OpenClaim.holds_of_wide 7 Try.f7 rfl rfl rfl rfl rfl rfl rfl ⟨rfl, rfl, rfl, rfl, rfl⟩ rfl rfl rfl rfl rfl (by kernel_rfl) Try.func7 (by kernel_rfl)
    (of_decide_eq_true (by kernel_rfl)) (by unfold Func.isWrapper; first | (rw [if_pos (by decide +kernel)]; kernel_rfl) | (rw [if_neg (by decide +kernel)]; exact ⟨rfl, rfl⟩))
    (fun os started H enc _ => lifted os started H enc)

theorem linOrdersHolds : Rows.LinOrdersSaid := over
#print axioms linOrdersHolds
end Go.Proofs.Ytadfnbmogobopaa.linOrders
