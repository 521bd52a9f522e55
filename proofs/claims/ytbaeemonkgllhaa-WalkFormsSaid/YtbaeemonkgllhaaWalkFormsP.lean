/- 'osierlaw9.WalkForms' returns true for every argument. No condition. -/
import Derived.Test.YtbaeemonkgllhaaRows
import Derived.Test.YtbaeemonkgllhaaWaAwk
import Derived.Test.YtbaeemonkgllhaaNForm
import Derived.Deep.RegionHeld3
import Derived.LoopTactic
import Derived.WalkKit
import Derived.ProofKit
import Derived.OpenShut
import Derived.ChangeOld
import Derived.Below
namespace Go.Proofs.Ytbaeemonkgllhaa.walkForms
open Go.ChangeShapes Go.WideShapes Go.ChangeAt Go.RowKit
set_option linter.all false

theorem own : ownKnob Try.prog.godebug = none := by kernel_rfl
theorem laidOut : laidOutB Try.prog = true := by kernel_rfl

theorem nk_take {l : List Pr} {n : Nat} {q : Pr} {k : Int} (hq : l[n]? = some q) : nextL (l.take (n + 1)) k = (nextL (l.take n) k).or (nextL [q] k) := by
  have e : l.take (n + 1) = l.take n ++ [q] := by rw [List.take_succ, hq]; rfl
  rw [e, nextL_app]
theorem nk_put {l : List Pr} {n : Nat} {q : Pr} {k : Int} (hq : l[n]? = some q) (hk : k < q.1) (h : (nextL (l.take n) k).toList = []) : (nextL (l.take (n + 1)) k).toList = [q] := by
  rw [nk_take hq, nextL_here hk]
  cases hn : nextL (l.take n) k with
  | none => rfl
  | some z => rw [hn] at h; cases h
theorem nk_full {l : List Pr} {n : Nat} {q : Pr} {k : Int} (hq : l[n]? = some q) (h : (nextL (l.take n) k).toList ≠ []) : (nextL (l.take (n + 1)) k).toList = (nextL (l.take n) k).toList := by
  rw [nk_take hq]
  cases hn : nextL (l.take n) k with
  | none => rw [hn] at h; exact absurd rfl h
  | some z => rfl
theorem nk_past {l : List Pr} {n : Nat} {q : Pr} {k : Int} (hq : l[n]? = some q) (hk : ¬ k < q.1) : (nextL (l.take (n + 1)) k).toList = (nextL (l.take n) k).toList := by
  rw [nk_take hq, nextL_past (by omega), nextL_nil, Option.or_none]

set_option maxRecDepth 100000 in
set_option maxHeartbeats 12800000 in
theorem walk (a0 : Option Addr) (cap0 : Nat) (z0 : List Pr) (a1 : Int) (a2 : Int) (w : World) (w0 : Prs w a0 cap0 z0) (r0 : Rng z0) (w1 : (Lit.int .i64 a1).wf = true) (w2 : (Lit.int .i64 a2).wf = true) :
    Calls Try.prog 3 #[.slice a0 z0.length cap0, .int .i64 a1, .int .i64 a2] w fun e w' => e = .returned (.bool true) ∧ Below w.heap.size w w' := by
  have cp : Calls Try.prog 8 #[.slice a0 z0.length cap0, .int .i64 60] w (PairsIs w 60) := pairs_srt a0 cap0 z0 60 w w0 r0 (by omega)
  have hc0 := w0.1
  have hc1 := w0.2.1
  clear w0 r0
  unfold maxLen at hc1
  go_enter Try.func3, Try.ntmps3
  go_wp2_with (fail)
  refine cp.mono ?_
  clear cp
  rintro e W2 ⟨ao, c, l, rfl, hl, hs, hr, hP, hbw⟩
  have hP1 := hP.1
  have hP2 := hP.2.1
  have HBW := Lib.hid hbw
  have HP := Lib.hid hP
  have HS := Lib.hid hs
  have HRG := Lib.hid hr
  have hl1000 : l.length ≤ 1000 := by omega
  obtain ⟨M, hM⟩ : ∃ M, rngL l a1 a2 = M := ⟨_, rfl⟩
  have hMl : M.length ≤ 60 := by rw [← hM]; exact Nat.le_trans (rngL_len l a1 a2) hl
  have HM := Lib.hid hM
  obtain ⟨q0, q1, is, hv, his⟩ : ∃ (q0 q1 : Int) (is : Bool), (nextL l a1).getD (0, 0) = (q0, q1) ∧ (nextL l a1).isSome = is := ⟨_, _, _, rfl, rfl⟩
  have HV := Lib.hid (And.intro hv his)
  clear hP hs hr hbw hM hv his
  unfold maxLen at hP2
  go_wp2_with (first
    | (go_at_call 9; ((with_reducible refine (new_held 100 100 W2 _ (Below.refl _ _) (by decide)).mono ?_); rintro e W3 ⟨p, rfl, h1⟩))
    | (go_at_call 10; ((with_reducible refine (laid_any W2 p _ _ _ ao c l _ [] (Nat.le_refl _) HP.out h1 Good.nil (by simp; omega) (by omega)).mono ?_); rintro e W4 ⟨t, L, rfl, h4, n4, t4, g4⟩; rw [List.nil_append] at h4 t4; have T4 := Lib.hid t4; clear t4 g4 h1 n4))
    | (go_at_call 11; have cc := betw_any ao c l a1 a2 _ (HP.out.below h4.b) hl1000; rw [HM.out] at cc; ((with_reducible refine cc.mono ?_); clear cc; rintro e W5 ⟨aw, cw, rfl, hR5, hb5⟩; have h5 := h4.below hb5; have PW5 := Lib.hid (hR5.prs rfl); have hcw := PW5.out.1; clear hR5 h4 hb5))
    | (go_at_call 12; have cc := wnext h5 T4.out HS.out hl1000 a1 q0 q1 is HV.out.1 HV.out.2; ((with_reducible refine cc.mono ?_); clear cc; rintro e W6 ⟨rfl, hb6⟩; have H6 := Lib.hid ((h5.below hb6).alloc (.cells #[.int .i64 q0, .int .i64 q1] 30)); have PW6 := Lib.hid (PW5.out.below (hb6.alloc hb6.size (.cells #[.int .i64 q0, .int .i64 q1] 30))); have TW6 := Lib.hid (Two.new W6 q0 q1 30); clear h5 hb6)))
  obtain ⟨W7, hW7⟩ : ∃ W, W = W6.alloc (.cells #[.int .i64 q0, .int .i64 q1] 30) := ⟨_, rfl⟩
  rw [← hW7] at H6 PW6 TW6 ⊢
  obtain ⟨pb, hpb⟩ : ∃ pb, pb = W6.heap.size := ⟨_, rfl⟩
  rw [← hpb] at TW6 ⊢
  clear hW7 hpb
  go_loopw [14, 41] (fun out i wr => ∃ (n : Nat) (ao : Option Addr) (cp m : Nat) (ks : List Pr), n ≤ l.length ∧ i = .int .i64 n ∧ out = .slice ao m cp ∧ m = ks.length ∧ m ≤ cp ∧ ks = (nextL (l.take n) a1).toList ∧ BLoop W7 wr out ks) (fun _ i _ => l.length - (intOf i).toNat)
  case atStart => exact ⟨0, none, 0, 0, [], Nat.zero_le _, rfl, rfl, rfl, Nat.le_refl _, rfl, PRow.nil _ _, Below.refl _ _⟩
  case round =>
    obtain ⟨n, ar, cr, m, ks, hn, rfl, rfl, hm, hmc, hks, hK⟩ := hrel
    have HKS := Lib.hid hks
    have HHM := Lib.hid hm
    by_cases hlt : n < l.length
    · obtain ⟨q, hq⟩ : ∃ q, l[n]? = some q := ⟨_, List.getElem?_eq_getElem hlt⟩
      obtain ⟨b, o, rfl, c0, c1⟩ := ((HP.out.below H6.out.b).below hK.b).2.2 n q hq
      obtain ⟨x0, x1⟩ := q
      dsimp only at c0 c1
      have HQ := Lib.hid hq
      have hal := (Below.refl wr.heap.size wr).alloc (Nat.le_refl _) (.cells #[.int .i64 x0, .int .i64 x1] 30)
      have HR := Lib.hid (hK.row.below hal)
      have HK2 : Hid (BLoop W7 (wr.alloc (.cells #[.int .i64 x0, .int .i64 x1] 30)) (.slice ar m cr) ks) := Lib.hid ⟨HR.out, hK.b.alloc hK.b.size _⟩
      have hws := hK.b.size
      have HSS : Hid (∀ j, j < W7.heap.size → j < (wr.alloc (.cells #[.int .i64 x0, .int .i64 x1] 30)).heap.size) := Lib.hid (fun j hj => by simp; omega)
      clear hK hal hq hks
      by_cases hk : a1 < x0
      · have b1 : decide (a1 < x0) = true := decide_eq_true hk
        by_cases h0 : m = 0
        · subst h0
          obtain rfl : ks = [] := List.eq_nil_of_length_eq_zero hm.symm
          have HN := Lib.hid (nk_put (q := (x0, x1)) HQ.out hk HKS.out.symm)
          clear hk hm HHM
          go_wp2_with (first | (at_builtin; refine wpList_push rfl (.tmp 54) (.tmp 56) rfl (fun j => j < W7.heap.size) _ [] x0 x1 rfl HR.out HSS.out _ rfl (by simp) (by simp) ?_; intro ao1 cp1 w3 hm1 hc1 hR1 hk1 hO1; have HF := Lib.hid (HK2.out.push (q := (x0, x1)) hR1 hO1); have HC := Lib.hid hc1; clear hR1 hk1 hO1 hm1 hc1))
          go_roundw
          case rel => exact ⟨n + 1, ao1, cp1, 1, [(x0, x1)], by omega, by go_num, rfl, rfl, HC.out, HN.out.symm, HF.out⟩
          case measure => simp [intOf]; omega
        · have hm0 : ((m : Int) == 0) = false := by rw [beq_eq_false_iff_ne]; omega
          have HN := Lib.hid (nk_full (q := (x0, x1)) (k := a1) HQ.out (by rw [← HKS.out]; intro e; rw [e] at hm; exact h0 hm))
          clear hk hm h0
          go_wp2_with (fail)
          go_roundw
          case rel => exact ⟨n + 1, ar, cr, m, ks, by omega, by go_num, rfl, HHM.out, hmc, by rw [HN.out]; exact HKS.out, HK2.out⟩
          case measure => simp [intOf]; omega
      · have b1 : decide (a1 < x0) = false := decide_eq_false hk
        have HN := Lib.hid (nk_past (q := (x0, x1)) HQ.out hk)
        clear hk hm
        go_wp2_with (fail)
        go_roundw
        case rel => exact ⟨n + 1, ar, cr, m, ks, by omega, by go_num, rfl, HHM.out, hmc, by rw [HN.out]; exact HKS.out, HK2.out⟩
        case measure => simp [intOf]; omega
    · obtain rfl : n = l.length := by omega
      rw [List.take_of_length_le (Nat.le_refl _)] at hks
      have hnn : ¬ l.length < l.length := by omega
      have h7 := H6.out.below hK.b
      have P7 := Lib.hid (PW6.out.below hK.b)
      have T7 := Lib.hid (TW6.out.keep hK.b)
      have L7 := Lib.hid ((HP.out.below H6.out.b).below hK.b)
      cases hnx : nextL l a1 with
      | none =>
        have hv := HV.out
        rw [hnx] at hv hks
        obtain ⟨hv0, rfl⟩ := hv
        cases hv0
        have hks' : ks = [] := hks
        clear hks
        subst hks'
        have hm' : m = 0 := hm
        clear hm
        subst hm'
        obtain ⟨t0, t1, -, -⟩ := T7.out
        clear HKS HHM HV hK hnx
        go_upto_region 15 with (fail)
        go_quiet (fail)
        have hbd : Below wr.heap.size wr (wr.drewN nq) := below_drewN (Below.refl _ _) _
        have h8 := h7.below hbd
        have P8 := Lib.hid (P7.out.below hbd)
        have L8 := Lib.hid (L7.out.below hbd)
        clear hbd h7 t0 t1
        go_wp2_with (first
          | (go_at_call 14; have cc := wall h8 T4.out HS.out hl1000 HRG.out l.length rfl; ((with_reducible refine cc.mono ?_); clear cc; rintro e W9 ⟨x9, y9, rfl, -, -, hR9, hb9⟩; have h9 := h8.below hb9; have L9 := Lib.hid (L8.out.below hb9); have P9 := Lib.hid (P8.out.below hb9); have R9 := Lib.hid hR9; clear h8 hb9 L8 P8 hR9))
          | (go_at_call 13; have cc := same_any x9 ao y9 c _ _ l _ (R9.out.prs rfl) L9.out rfl rfl; ((with_reducible refine cc.mono ?_); clear cc; rintro e W10 ⟨rfl, hb10⟩; have h10 := h9.below hb10; have P10 := Lib.hid (P9.out.below hb10); clear h9 hb10 R9 L9 P9))
          | (go_at_call 15; have cc := wrange h10 T4.out HS.out hl1000 a1 a2 M M.length HM.out rfl; ((with_reducible refine cc.mono ?_); clear cc; rintro e W11 ⟨x11, y11, rfl, -, -, hR11, hb11⟩; have h11 := h10.below hb11; have P11 := Lib.hid (P10.out.below hb11); have R11 := Lib.hid hR11; clear h10 hb11 P10 hR11))
          | (go_at_call 13; have cc := same_any x11 aw y11 cw _ _ M _ (R11.out.prs rfl) P11.out rfl rfl; ((with_reducible refine cc.mono ?_); clear cc; rintro e W12 ⟨rfl, hb12⟩; have h12 := h11.below hb12; clear h11 hb12 R11 P11))
          | (go_at_call 16; have cc := wcount h12 T4.out HS.out hl1000 a1 a2 M.length (by rw [HM.out]); ((with_reducible refine cc.mono ?_); clear cc; rintro e W13 ⟨rfl, hb13⟩; have h13 := h12.below hb13; clear h12 hb13))
          | (go_at_call 17; have cc := steps_held h13; ((with_reducible refine cc.mono ?_); clear cc; rintro e W14 ⟨rfl, rfl⟩))
          | (go_at_call 18; ((with_reducible refine (wawake_any _).mono ?_); rintro e W15 ⟨rfl, hb15⟩; have h15 := h13.below hb15)))
        go_ret
        exact ⟨rfl, HBW.out.trans (h15.b.mono HBW.out.size)⟩
      | some q =>
        have hv := HV.out
        rw [hnx] at hv hks
        obtain ⟨hv0, rfl⟩ := hv
        obtain rfl : q = (q0, q1) := hv0
        have hks' : ks = [(q0, q1)] := hks
        clear hks
        subst hks'
        have hm' : m = 1 := hm
        clear hm
        subst hm'
        obtain ⟨t0, t1, -, -⟩ := T7.out
        have hPk := hK.row.prs rfl
        obtain ⟨g, og, rfl, r0, r1⟩ := hPk.2.2 0 (q0, q1) rfl
        have s0 : wr.cell? ⟨g, og, none⟩ = some (.int .i64 q0) := by simpa using r0
        have s1 : wr.cell? ⟨g, og + 1, none⟩ = some (.int .i64 q1) := by simpa using r1
        clear HKS HHM HV hK hnx hPk r0 r1
        go_upto_region 15 with (fail)
        go_quiet (fail)
        have hbd : Below wr.heap.size wr (wr.drewN nq) := below_drewN (Below.refl _ _) _
        have h8 := h7.below hbd
        have P8 := Lib.hid (P7.out.below hbd)
        have L8 := Lib.hid (L7.out.below hbd)
        clear hbd h7 t0 t1 s0 s1
        go_wp2_with (first
          | (go_at_call 14; have cc := wall h8 T4.out HS.out hl1000 HRG.out l.length rfl; ((with_reducible refine cc.mono ?_); clear cc; rintro e W9 ⟨x9, y9, rfl, -, -, hR9, hb9⟩; have h9 := h8.below hb9; have L9 := Lib.hid (L8.out.below hb9); have P9 := Lib.hid (P8.out.below hb9); have R9 := Lib.hid hR9; clear h8 hb9 L8 P8 hR9))
          | (go_at_call 13; have cc := same_any x9 ao y9 c _ _ l _ (R9.out.prs rfl) L9.out rfl rfl; ((with_reducible refine cc.mono ?_); clear cc; rintro e W10 ⟨rfl, hb10⟩; have h10 := h9.below hb10; have P10 := Lib.hid (P9.out.below hb10); clear h9 hb10 R9 L9 P9))
          | (go_at_call 15; have cc := wrange h10 T4.out HS.out hl1000 a1 a2 M M.length HM.out rfl; ((with_reducible refine cc.mono ?_); clear cc; rintro e W11 ⟨x11, y11, rfl, -, -, hR11, hb11⟩; have h11 := h10.below hb11; have P11 := Lib.hid (P10.out.below hb11); have R11 := Lib.hid hR11; clear h10 hb11 P10 hR11))
          | (go_at_call 13; have cc := same_any x11 aw y11 cw _ _ M _ (R11.out.prs rfl) P11.out rfl rfl; ((with_reducible refine cc.mono ?_); clear cc; rintro e W12 ⟨rfl, hb12⟩; have h12 := h11.below hb12; clear h11 hb12 R11 P11))
          | (go_at_call 16; have cc := wcount h12 T4.out HS.out hl1000 a1 a2 M.length (by rw [HM.out]); ((with_reducible refine cc.mono ?_); clear cc; rintro e W13 ⟨rfl, hb13⟩; have h13 := h12.below hb13; clear h12 hb13))
          | (go_at_call 17; have cc := steps_held h13; ((with_reducible refine cc.mono ?_); clear cc; rintro e W14 ⟨rfl, rfl⟩))
          | (go_at_call 18; ((with_reducible refine (wawake_any _).mono ?_); rintro e W15 ⟨rfl, hb15⟩; have h15 := h13.below hb15)))
        go_ret
        exact ⟨rfl, HBW.out.trans (h15.b.mono HBW.out.size)⟩

set_option maxRecDepth 100000 in
theorem lifted (os : Os) (started : os.Started) (H : Type) (enc : TypeId × Value → H) :
    ReturnsInHanded {} Try.checked os 3 .any (Rows.walkFormsSpec.pre6 enc Try.prog Try.f3 Rows.walkFormsRow.domain false) (Rows.walkFormsSpec.post enc Try.prog Try.f3 false true false false) := by
  refine returnsInHanded_of_change (C := Try.checked) own started (by kernel_rfl) Try.func3
    (ChangeSpec.witness6 (enc := enc) (C := Try.checked) false ⟨#[], #[.slice none 0 0, .int .i64 0, .int .i64 0], []⟩ 8 (by kernel_rfl) (by kernel_rfl) (by kernel_rfl) (by kernel_rfl)) ?_
  intro W base args ds gs before hval0 hW hcnd _
  have hval : ∀ (j : Nat) t v, Try.f3.params[j]? = some t → args[j]? = some v → Value.okWide Try.prog W .any base t v := hval0
  have hW' := hW
  obtain ⟨p, q, hA0, hV, rfl, hfz, hnd⟩ := hW
  have hA : DataW.TrodAll enc Try.prog W 0 (fun _ => true) true Try.f3.params.toList args.toList ds p := hA0
  rw [Try.params3] at hA hval
  obtain ⟨v0, vs0, d0, ds0, p0, q0, hargs, rfl, rfl, h0, r0⟩ := trodAll_cons hA
  obtain ⟨v1, vs1, d1, ds1, p1, q1, rfl, rfl, rfl, h1, r1⟩ := trodAll_cons r0
  obtain ⟨v2, vs2, d2, ds2, p2, q2, rfl, rfl, rfl, h2, r2⟩ := trodAll_cons r1
  obtain ⟨rfl, rfl, rfl⟩ := trodAll_nil r2
  obtain rfl : args = #[v0, v1, v2] := by cases args; simp_all
  obtain ⟨rfl, rfl⟩ := trodVars_none hV
  have k0 := h0
  have lt0 : ∀ x ∈ p0, x.block < W.heap.size := by obtain ⟨m, hm⟩ := k0; exact DataW.trod_lt m _ _ _ hm
  obtain ⟨b0, l0, c0, rfl⟩ := okWide_slice Try.underlying22 (hval 0 22 v0 rfl rfl)
  obtain ⟨a0, cap0, z0, e0, w0, g0⟩ := open_pairsw (enc := enc) (w := W) (v := .slice b0 l0 c0) (fuel := h0.choose) (by simpa [Value.cells] using h0.choose_spec)
  rw [e0] at hval k0 h0 hW' hval0 hA0
  have k1 := h1
  have lt1 : ∀ x ∈ p1, x.block < W.heap.size := by obtain ⟨m, hm⟩ := k1; exact DataW.trod_lt m _ _ _ hm
  obtain ⟨a1, rfl, rfl, rfl, w1⟩ := open_int Try.underlying3 (hval 1 3 v1 rfl rfl) h1
  have k2 := h2
  have lt2 : ∀ x ∈ p2, x.block < W.heap.size := by obtain ⟨m, hm⟩ := k2; exact DataW.trod_lt m _ _ _ hm
  obtain ⟨a2, rfl, rfl, rfl, w2⟩ := open_int Try.underlying3 (hval 2 3 v2 rfl rfl) h2
  clear hA0 hval0
  rw [e0]; refine (walk a0 cap0 z0 a1 a2 W w0 g0 w1 w2).mono fun e W' ⟨he, bel⟩ => ?_
  subst he
  exact ⟨_, rfl, _, _, _, [], _, [], hW', trodAll_mk1 (shut_bool Try.underlying4 _), (trodAll_cons_mk (Below.trod laidOut (by kernel_rfl) (of_decide_eq_true (by kernel_rfl)) k0 bel lt0) (trodAll_cons_mk (Below.trod laidOut (by kernel_rfl) (of_decide_eq_true (by kernel_rfl)) k1 bel lt1) (trodAll_cons_mk (Below.trod laidOut (by kernel_rfl) (of_decide_eq_true (by kernel_rfl)) k2 bel lt2) trodAll_mk0))), rfl, bel.frame _, fun h => by cases h⟩

theorem over : Rows.walkFormsRow.holds Try.pinned (OpenSpec.ofChange Rows.walkFormsSpec) :=
  OpenClaim.holds_of_wide 3 Try.f3 rfl rfl rfl rfl rfl rfl rfl ⟨rfl, rfl, rfl, rfl, rfl⟩ rfl rfl rfl rfl rfl (by kernel_rfl) Try.func3 (by kernel_rfl)
    (of_decide_eq_true (by kernel_rfl)) (by unfold Func.isWrapper; first | (rw [if_pos (by decide +kernel)]; kernel_rfl) | (rw [if_neg (by decide +kernel)]; exact ⟨rfl, rfl⟩))
    (fun os started H enc _ => lifted os started H enc)

theorem walkFormsHolds : Rows.WalkFormsSaid := over
#print axioms walkFormsHolds
end Go.Proofs.Ytbaeemonkgllhaa.walkForms
