/- 'osierlaw5.PutForms' returns true for every argument. No condition. -/
import Derived.Test.YtdonidohmenccaaRows
import Derived.Test.YtdonidohmenccaaPtM
import Derived.Test.YtdonidohmenccaaPtAwk
import Derived.Test.YtdonidohmenccaaNArgs
import Derived.Test.YtdonidohmenccaaNSays
import Derived.LoopTactic
import Derived.WalkKit
import Derived.ProofKit
import Derived.OpenShut
import Derived.ChangeOld
import Derived.Below
namespace Go.Proofs.Ytdonidohmenccaa.putForms
open Go.ChangeShapes Go.WideShapes Go.ChangeAt Go.RowKit
set_option linter.all false

theorem own : ownKnob Try.prog.godebug = none := by kernel_rfl
theorem laidOut : laidOutB Try.prog = true := by kernel_rfl

theorem find_yes (a : Option Addr) (cap i : Nat) (l : List Pr) (q : Pr) (w : World) (h : Prs w a cap l) (hs : Srt l) (hq : l[i]? = some q) :
    Calls Try.prog 18 #[.slice a l.length cap, .int .i64 q.1] w fun e w' => e = .returned (.int .i64 (i : Int)) ∧ Below w.heap.size w w' := by
  refine (find_any a cap l q.1 w h).mono ?_
  rintro e w' ⟨k, rfl, ⟨rfl, hf⟩ | ⟨j, q', rfl, hq', he, _⟩, hb⟩
  · rw [findL_here hs hq] at hf; cases hf
  · refine ⟨?_, hb⟩
    rcases Nat.lt_trichotomy i j with h | h | h
    · have := hs.at i j q q' h hq hq'; omega
    · rw [h]
    · have := hs.at j i q' q h hq' hq; omega
theorem find_not (a : Option Addr) (cap : Nat) (l : List Pr) (k : Int) (w : World) (h : Prs w a cap l) (hf : findL l k = none) :
    Calls Try.prog 18 #[.slice a l.length cap, .int .i64 k] w fun e w' => e = .returned (.int .i64 (-1)) ∧ Below w.heap.size w w' := by
  refine (find_any a cap l k w h).mono ?_
  rintro e w' ⟨k', rfl, ⟨rfl, _⟩ | ⟨j, q', rfl, hq', he, hf'⟩, hb⟩
  · exact ⟨rfl, hb⟩
  · rw [hf] at hf'; cases hf'
theorem add_ok {w0 w : World} {p : Nat} {room st : Int} {L : List It} {t : Int} {l : List Pr} (h : Held w0 w p room st L) (T : Tree L t l) (hs : Srt l) (hl : l.length ≤ 990) (hr : ((L.length + hi l + 1 : Nat) : Int) ≤ room) (k v : Int) (hf : findL l k = none) :
    Calls Try.prog 16 #[.pointer (some ⟨p, 0, none⟩), .int .i64 t, .agg #[.int .i64 k, .int .i64 v]] w fun e w' =>
      ∃ (n : Int) (M : List It), e = .returned (.tuple #[.int .i64 n, .int .i64 0, .bool false, .int .i64 0]) ∧ Held w0 w' p room st (L ++ M) ∧ M.length ≤ hi l + 1 ∧ Tree (L ++ M) n (withL l k v) := by
  refine (add_any h.a T hs hl hf).mono ?_
  rintro e w' ⟨n, old, er, there, M, rfl, hg, ⟨rfl, hM, hT, rfl, rfl⟩ | ⟨_, _, _, _, hr2, hM⟩⟩
  · exact ⟨n, M, by rw [hf]; rfl, h.grew hg (fun _ hk => hk), hM, hT⟩
  · exfalso
    rw [List.length_append] at hr2
    omega

set_option maxRecDepth 100000 in
set_option maxHeartbeats 12800000 in
theorem walk (a0 : Option Addr) (cap0 : Nat) (z0 : List Pr) (k1 v1 : Int) (b2 : Bool) (w : World) (w0 : Prs w a0 cap0 z0) (r0 : Rng z0) (w1 : (Lit.int .i64 k1).wf = true ∧ (Lit.int .i64 v1).wf = true) :
    Calls Try.prog 3 #[.slice a0 z0.length cap0, .agg #[.int .i64 k1, .int .i64 v1], .bool b2] w fun e w' => e = .returned (.bool true) ∧ Below w.heap.size w w' := by
  have cp : ∀ W, Below w.heap.size w W → Calls Try.prog 12 #[.slice a0 z0.length cap0, .int .i64 50] W (PairsIs W 50) := fun W hb => pairs_srt a0 cap0 z0 50 W (w0.below hb) r0 (by omega)
  have ba : ∀ o, Below w.heap.size w (w.alloc o) := fun o => (Below.refl _ _).alloc (Nat.le_refl _) _
  have BA := Lib.hid ba
  have T0 := Two.new w k1 v1 24
  clear w0 r0 w1 ba
  cases b2
  · go_enter Try.func3, Try.ntmps3
    go_wp2_with (fail)
    refine (cp _ (BA.out _)).mono ?_
    clear cp
    rintro e W2 ⟨ao, c, l, rfl, hl, hs, hr, hP, hbw⟩
    have T2 := T0.keep hbw
    have HBW := Lib.hid ((BA.out _).trans (hbw.mono (BA.out _).size))
    have HP := Lib.hid hP
    have HS := Lib.hid hs
    have hhi := hi_le _ l (Nat.le_refl _)
    obtain ⟨H, hH⟩ : ∃ H : Nat, hi l = H := ⟨_, rfl⟩
    rw [hH] at hhi
    have hH50 : (H : Int) ≤ 50 := by omega
    have HH := Lib.hid hH
    have L1 := Lib.hid (withL_le hs k1 v1)
    have hc1 := hP.1
    have hc2 := hP.2.1
    unfold maxLen at hc2
    have hff : findL l k1 = none ∨ ∃ (i : Nat) (q : Pr), l[i]? = some q ∧ q.1 = k1 ∧ findL l k1 = some q := by
      cases he : findL l k1 with
      | none => exact .inl rfl
      | some q =>
        obtain ⟨hq, rfl⟩ := findL_is he
        obtain ⟨i, hi⟩ := List.getElem?_of_mem hq
        exact .inr ⟨i, q, hi, rfl, rfl⟩
    have FF := Lib.hid hff
    clear hP hs hr hbw T0 BA hH hff
    go_wp2_with (first
      | (go_at_call 13; ((with_reducible refine (new_held 400 400 W2 _ (Below.refl _ _) (by decide)).mono ?_); rintro e W3 ⟨p, rfl, h1⟩))
      | (go_at_call 14; ((with_reducible refine (laid_any W2 p _ _ _ ao c l _ [] (Nat.le_refl _) HP.out h1 Good.nil (by simp; omega) (by omega)).mono ?_); rintro e W4 ⟨t, L, rfl, h4, n4, t4, g4⟩; rw [List.nil_append] at h4 t4; have T4 := Lib.hid t4; have N4 := Lib.hid n4; have d0 := h4.old T2.c0; have d1 := h4.old T2.c1; clear t4 g4 h1 n4))
      | (go_at_call 15; ((with_reducible refine (used_held h4 (l.length : Int) (by rw [N4.out])).mono ?_); rintro e W5 ⟨rfl, hww⟩; subst hww)))
    have HR := Lib.hid (show ((L.length + hi l + 1 : Nat) : Int) ≤ 400 by rw [HH.out, N4.out]; omega)
    rcases FF.out with hf | ⟨i, q, hq, hk0, hf⟩
    · have HF := Lib.hid hf
      clear hf FF
      go_wp2_with (fail)
      refine (put_ok h4 T4.out HS.out (by omega) HR.out k1 v1 0 false (by rw [HF.out]; rfl) (by rw [HF.out]; rfl)).mono ?_
      rintro e W5 ⟨u, M, rfl, h5, hM, hT⟩
      rw [HH.out] at hM
      have M5 := Lib.hid hM
      have T5 := Lib.hid hT
      have d0 := h5.old T2.c0
      have d1 := h5.old T2.c1
      clear hM hT h4
      have hLM := M5.out
      obtain ⟨nu, hnu⟩ : ∃ nu : Int, nu = ((L ++ M).length : Nat) := ⟨_, rfl⟩
      have hnd : decide (nu - (l.length : Int) ≤ 2 * (H : Int) + 2) = true := by
        rw [decide_eq_true_iff, hnu, List.length_append, N4.out]; omega
      have hnu0 : (l.length : Int) ≤ nu := by rw [hnu, List.length_append, N4.out]; omega
      have hnu1 : nu ≤ 1000 := by rw [hnu, List.length_append, N4.out]; omega
      have NU := Lib.hid hnu
      have TT := Lib.hid (T4.out.app M)
      clear hnu hLM
      generalize L ++ M = LL at h5 NU TT T5
      go_wp2_with (first
        | (go_at_call 18; ((with_reducible refine (find_not ao c l k1 W5 (HP.out.below h5.b) HF.out).mono ?_); rintro e W6 ⟨rfl, hb6⟩; have h6 := h5.below hb6; have d0 := h6.old T2.c0; have d1 := h6.old T2.c1; clear hb6 h5))
        | (go_at_call 19; ((with_reducible refine (with_is ao c l k1 v1 W6 (HP.out.below h6.b) (by omega)).mono ?_); rintro e W7 ⟨⟨aw, cw, rfl, hPw, hb7⟩, _⟩; have h7 := h6.below hb7; have PW := Lib.hid hPw; clear hb7 h6 hPw))
        | (go_at_call 20; ((with_reducible refine (says_any p _ 400 0 LL u (withL l k1 v1) T5.out aw cw W7 PW.out h7.a (by have := L1.out; omega)).mono ?_); rintro e W8 ⟨rfl, hb8⟩; have h8 := h7.below hb8; clear hb8 h7))
        | (go_at_call 20; ((with_reducible refine (says_any p _ 400 0 LL t l TT.out ao c W8 (HP.out.below h8.b) h8.a (by omega)).mono ?_); rintro e W9 ⟨rfl, hb9⟩; have h9 := h8.below hb9; clear hb9 h8))
        | (go_at_call 15; ((with_reducible refine (used_held h9 nu NU.out).mono ?_); rintro e W10 ⟨rfl, hww⟩; subst hww))
        | (go_at_call 21; have ch := high_any l.length ao c l W9 (Nat.le_refl _) (HP.out.below h9.b) (by omega); rw [HH.out] at ch; ((with_reducible refine ch.mono ?_); clear ch; rintro e W10 ⟨rfl, hb10⟩; have h10 := h9.below hb10; clear hb10))
        | (go_at_call 22; ((with_reducible refine (steps_held h10).mono ?_); rintro e W11 ⟨rfl, hww⟩; subst hww))
        | (go_at_call 23; ((with_reducible refine (pawake_any W10).mono ?_); rintro e W12 ⟨rfl, hb12⟩; have h12 := h10.below hb12; clear hb12)))
      go_ret
      exact ⟨rfl, HBW.out.trans (h12.b.mono HBW.out.size)⟩
    · obtain ⟨bb, oo, rfl, c0, c1⟩ := HP.out.2.2 i q hq
      obtain ⟨x0, x1⟩ := q
      dsimp only at hk0 c0 c1 hf
      subst hk0
      have C1 := Lib.hid c1
      have HQ := Lib.hid hq
      have HF := Lib.hid hf
      have hil : (i : Int) < (l.length : Int) := by have := (List.getElem?_eq_some_iff.1 hq).1; omega
      have hi0 : (0 : Int) ≤ (i : Int) := by omega
      have hself : (x1 != x1) = false := by simp
      have htt : (t != t) = false := by simp
      clear c0 c1 hq hf FF
      go_wp2_with (fail)
      refine (put_ok h4 T4.out HS.out (by omega) HR.out x0 v1 x1 true (by rw [HF.out]; rfl) (by rw [HF.out]; rfl)).mono ?_
      rintro e W5 ⟨u, M, rfl, h5, hM, hT⟩
      rw [HH.out] at hM
      have M5 := Lib.hid hM
      have T5 := Lib.hid hT
      have d0 := h5.old T2.c0
      have d1 := h5.old T2.c1
      clear hM hT h4
      have hLM := M5.out
      obtain ⟨nu, hnu⟩ : ∃ nu : Int, nu = ((L ++ M).length : Nat) := ⟨_, rfl⟩
      have hnd : decide (nu - (l.length : Int) ≤ 2 * (H : Int) + 2) = true := by
        rw [decide_eq_true_iff, hnu, List.length_append, N4.out]; omega
      have hnu0 : (l.length : Int) ≤ nu := by rw [hnu, List.length_append, N4.out]; omega
      have hnu1 : nu ≤ 1000 := by rw [hnu, List.length_append, N4.out]; omega
      have NU := Lib.hid hnu
      have TT := Lib.hid (T4.out.app M)
      clear hnu hLM
      generalize L ++ M = LL at h5 NU TT T5
      go_wp2_with (first
        | (go_at_call 18; ((with_reducible refine (find_yes (some ⟨bb, oo, none⟩) c i l (x0, x1) W5 (HP.out.below h5.b) HS.out HQ.out).mono ?_); rintro e W6 ⟨rfl, hb6⟩; have h6 := h5.below hb6; have d0 := h6.old T2.c0; have d1 := h6.old T2.c1; clear hb6 h5))
        | (go_at_call 19; ((with_reducible refine (with_is (some ⟨bb, oo, none⟩) c l x0 v1 W6 (HP.out.below h6.b) (by omega)).mono ?_); rintro e W7 ⟨⟨aw, cw, rfl, hPw, hb7⟩, _⟩; have h7 := h6.below hb7; have PW := Lib.hid hPw; have e1 := h7.old C1.out; clear hb7 h6 hPw))
        | (go_at_call 20; ((with_reducible refine (says_any p _ 400 0 LL u (withL l x0 v1) T5.out aw cw W7 PW.out h7.a (by have := L1.out; omega)).mono ?_); rintro e W8 ⟨rfl, hb8⟩; have h8 := h7.below hb8; clear hb8 h7))
        | (go_at_call 20; ((with_reducible refine (says_any p _ 400 0 LL t l TT.out (some ⟨bb, oo, none⟩) c W8 (HP.out.below h8.b) h8.a (by omega)).mono ?_); rintro e W9 ⟨rfl, hb9⟩; have h9 := h8.below hb9; clear hb9 h8))
        | (go_at_call 15; ((with_reducible refine (used_held h9 nu NU.out).mono ?_); rintro e W10 ⟨rfl, hww⟩; subst hww))
        | (go_at_call 21; have ch := high_any l.length (some ⟨bb, oo, none⟩) c l W9 (Nat.le_refl _) (HP.out.below h9.b) (by omega); rw [HH.out] at ch; ((with_reducible refine ch.mono ?_); clear ch; rintro e W10 ⟨rfl, hb10⟩; have h10 := h9.below hb10; clear hb10))
        | (go_at_call 22; ((with_reducible refine (steps_held h10).mono ?_); rintro e W11 ⟨rfl, hww⟩; subst hww))
        | (go_at_call 23; ((with_reducible refine (pawake_any W10).mono ?_); rintro e W12 ⟨rfl, hb12⟩; have h12 := h10.below hb12; clear hb12)))
      go_ret
      exact ⟨rfl, HBW.out.trans (h12.b.mono HBW.out.size)⟩
  · go_enter Try.func3, Try.ntmps3
    go_wp2_with (fail)
    refine (cp _ (BA.out _)).mono ?_
    clear cp
    rintro e W2 ⟨ao, c, l, rfl, hl, hs, hr, hP, hbw⟩
    have T2 := T0.keep hbw
    have HBW := Lib.hid ((BA.out _).trans (hbw.mono (BA.out _).size))
    have HP := Lib.hid hP
    have HS := Lib.hid hs
    have hhi := hi_le _ l (Nat.le_refl _)
    obtain ⟨H, hH⟩ : ∃ H : Nat, hi l = H := ⟨_, rfl⟩
    rw [hH] at hhi
    have hH50 : (H : Int) ≤ 50 := by omega
    have HH := Lib.hid hH
    have L1 := Lib.hid (withL_le hs k1 v1)
    have hc1 := hP.1
    have hc2 := hP.2.1
    unfold maxLen at hc2
    have hff : findL l k1 = none ∨ ∃ (i : Nat) (q : Pr), l[i]? = some q ∧ q.1 = k1 ∧ findL l k1 = some q := by
      cases he : findL l k1 with
      | none => exact .inl rfl
      | some q =>
        obtain ⟨hq, rfl⟩ := findL_is he
        obtain ⟨i, hi⟩ := List.getElem?_of_mem hq
        exact .inr ⟨i, q, hi, rfl, rfl⟩
    have FF := Lib.hid hff
    clear hP hs hr hbw T0 BA hH hff
    go_wp2_with (first
      | (go_at_call 13; ((with_reducible refine (new_held 400 400 W2 _ (Below.refl _ _) (by decide)).mono ?_); rintro e W3 ⟨p, rfl, h1⟩))
      | (go_at_call 14; ((with_reducible refine (laid_any W2 p _ _ _ ao c l _ [] (Nat.le_refl _) HP.out h1 Good.nil (by simp; omega) (by omega)).mono ?_); rintro e W4 ⟨t, L, rfl, h4, n4, t4, g4⟩; rw [List.nil_append] at h4 t4; have T4 := Lib.hid t4; have N4 := Lib.hid n4; have d0 := h4.old T2.c0; have d1 := h4.old T2.c1; clear t4 g4 h1 n4))
      | (go_at_call 15; ((with_reducible refine (used_held h4 (l.length : Int) (by rw [N4.out])).mono ?_); rintro e W5 ⟨rfl, hww⟩; subst hww)))
    have HR := Lib.hid (show ((L.length + hi l + 1 : Nat) : Int) ≤ 400 by rw [HH.out, N4.out]; omega)
    rcases FF.out with hf | ⟨i, q, hq, hk0, hf⟩
    · have HF := Lib.hid hf
      clear hf FF
      go_wp2_with (fail)
      refine (add_ok h4 T4.out HS.out (by omega) HR.out k1 v1 HF.out).mono ?_
      rintro e W5 ⟨u, M, rfl, h5, hM, hT⟩
      rw [HH.out] at hM
      have M5 := Lib.hid hM
      have T5 := Lib.hid hT
      have d0 := h5.old T2.c0
      have d1 := h5.old T2.c1
      clear hM hT h4
      have hLM := M5.out
      obtain ⟨nu, hnu⟩ : ∃ nu : Int, nu = ((L ++ M).length : Nat) := ⟨_, rfl⟩
      have hnd : decide (nu - (l.length : Int) ≤ 2 * (H : Int) + 2) = true := by
        rw [decide_eq_true_iff, hnu, List.length_append, N4.out]; omega
      have hnu0 : (l.length : Int) ≤ nu := by rw [hnu, List.length_append, N4.out]; omega
      have hnu1 : nu ≤ 1000 := by rw [hnu, List.length_append, N4.out]; omega
      have NU := Lib.hid hnu
      have TT := Lib.hid (T4.out.app M)
      clear hnu hLM
      generalize L ++ M = LL at h5 NU TT T5
      go_wp2_with (first
        | (go_at_call 18; ((with_reducible refine (find_not ao c l k1 W5 (HP.out.below h5.b) HF.out).mono ?_); rintro e W6 ⟨rfl, hb6⟩; have h6 := h5.below hb6; have d0 := h6.old T2.c0; have d1 := h6.old T2.c1; clear hb6 h5))
        | (go_at_call 19; ((with_reducible refine (with_is ao c l k1 v1 W6 (HP.out.below h6.b) (by omega)).mono ?_); rintro e W7 ⟨⟨aw, cw, rfl, hPw, hb7⟩, _⟩; have h7 := h6.below hb7; have PW := Lib.hid hPw; clear hb7 h6 hPw))
        | (go_at_call 20; ((with_reducible refine (says_any p _ 400 0 LL u (withL l k1 v1) T5.out aw cw W7 PW.out h7.a (by have := L1.out; omega)).mono ?_); rintro e W8 ⟨rfl, hb8⟩; have h8 := h7.below hb8; clear hb8 h7))
        | (go_at_call 20; ((with_reducible refine (says_any p _ 400 0 LL t l TT.out ao c W8 (HP.out.below h8.b) h8.a (by omega)).mono ?_); rintro e W9 ⟨rfl, hb9⟩; have h9 := h8.below hb9; clear hb9 h8))
        | (go_at_call 15; ((with_reducible refine (used_held h9 nu NU.out).mono ?_); rintro e W10 ⟨rfl, hww⟩; subst hww))
        | (go_at_call 21; have ch := high_any l.length ao c l W9 (Nat.le_refl _) (HP.out.below h9.b) (by omega); rw [HH.out] at ch; ((with_reducible refine ch.mono ?_); clear ch; rintro e W10 ⟨rfl, hb10⟩; have h10 := h9.below hb10; clear hb10))
        | (go_at_call 22; ((with_reducible refine (steps_held h10).mono ?_); rintro e W11 ⟨rfl, hww⟩; subst hww))
        | (go_at_call 23; ((with_reducible refine (pawake_any W10).mono ?_); rintro e W12 ⟨rfl, hb12⟩; have h12 := h10.below hb12; clear hb12)))
      go_ret
      exact ⟨rfl, HBW.out.trans (h12.b.mono HBW.out.size)⟩
    · obtain ⟨bb, oo, rfl, c0, c1⟩ := HP.out.2.2 i q hq
      obtain ⟨x0, x1⟩ := q
      dsimp only at hk0 c0 c1 hf
      subst hk0
      have C1 := Lib.hid c1
      have HQ := Lib.hid hq
      have HF := Lib.hid hf
      have hil : (i : Int) < (l.length : Int) := by have := (List.getElem?_eq_some_iff.1 hq).1; omega
      have hi0 : (0 : Int) ≤ (i : Int) := by omega
      have hself : (x1 != x1) = false := by simp
      have htt : (t != t) = false := by simp
      clear c0 c1 hq hf FF
      go_wp2_with (fail)
      refine (add_there (some ⟨p, 0, none⟩) t x0 v1 x1 W4 (fun W hb => tget (h4.below hb) T4.out HS.out x0 x1 true (by rw [HF.out]; rfl) (by rw [HF.out]; rfl))).mono ?_
      rintro e W5 ⟨rfl, hb5⟩
      obtain ⟨M, hM0⟩ : ∃ M : List It, M = [] := ⟨_, rfl⟩
      have h5 : Held W2 W5 p 400 0 (L ++ M) := by rw [hM0, List.append_nil]; exact h4.below hb5
      have M5 := Lib.hid (show M.length ≤ H + 1 by rw [hM0]; simp)
      obtain ⟨u, hu⟩ : ∃ u, t = u := ⟨_, rfl⟩
      have T5 := Lib.hid (show Tree (L ++ M) t l from T4.out.app M)
      have d0 := h5.old T2.c0
      have d1 := h5.old T2.c1
      clear hb5 h4 hM0 hu u
      have hLM := M5.out
      obtain ⟨nu, hnu⟩ : ∃ nu : Int, nu = ((L ++ M).length : Nat) := ⟨_, rfl⟩
      have hnd : decide (nu - (l.length : Int) ≤ 2 * (H : Int) + 2) = true := by
        rw [decide_eq_true_iff, hnu, List.length_append, N4.out]; omega
      have hnu0 : (l.length : Int) ≤ nu := by rw [hnu, List.length_append, N4.out]; omega
      have hnu1 : nu ≤ 1000 := by rw [hnu, List.length_append, N4.out]; omega
      have NU := Lib.hid hnu
      have TT := Lib.hid (T4.out.app M)
      clear hnu hLM
      generalize L ++ M = LL at h5 NU TT T5
      go_wp2_with (first
        | (go_at_call 18; ((with_reducible refine (find_yes (some ⟨bb, oo, none⟩) c i l (x0, x1) W5 (HP.out.below h5.b) HS.out HQ.out).mono ?_); rintro e W6 ⟨rfl, hb6⟩; have h6 := h5.below hb6; have d0 := h6.old T2.c0; have d1 := h6.old T2.c1; clear hb6 h5))
        | (go_at_call 19; ((with_reducible refine (with_is (some ⟨bb, oo, none⟩) c l x0 v1 W6 (HP.out.below h6.b) (by omega)).mono ?_); rintro e W7 ⟨⟨aw, cw, rfl, hPw, hb7⟩, _⟩; have h7 := h6.below hb7; have PW := Lib.hid hPw; have e1 := h7.old C1.out; clear hb7 h6 hPw))
        | (go_at_call 20; ((with_reducible refine (says_any p _ 400 0 LL t l T5.out (some ⟨bb, oo, none⟩) c W7 (HP.out.below h7.b) h7.a (by omega)).mono ?_); rintro e W8 ⟨rfl, hb8⟩; have h8 := h7.below hb8; clear hb8 h7))
        | (go_at_call 20; ((with_reducible refine (says_any p _ 400 0 LL t l TT.out (some ⟨bb, oo, none⟩) c W8 (HP.out.below h8.b) h8.a (by omega)).mono ?_); rintro e W9 ⟨rfl, hb9⟩; have h9 := h8.below hb9; clear hb9 h8))
        | (go_at_call 15; ((with_reducible refine (used_held h9 nu NU.out).mono ?_); rintro e W10 ⟨rfl, hww⟩; subst hww))
        | (go_at_call 21; have ch := high_any l.length (some ⟨bb, oo, none⟩) c l W9 (Nat.le_refl _) (HP.out.below h9.b) (by omega); rw [HH.out] at ch; ((with_reducible refine ch.mono ?_); clear ch; rintro e W10 ⟨rfl, hb10⟩; have h10 := h9.below hb10; clear hb10))
        | (go_at_call 22; ((with_reducible refine (steps_held h10).mono ?_); rintro e W11 ⟨rfl, hww⟩; subst hww))
        | (go_at_call 23; ((with_reducible refine (pawake_any W10).mono ?_); rintro e W12 ⟨rfl, hb12⟩; have h12 := h10.below hb12; clear hb12)))
      go_ret
      exact ⟨rfl, HBW.out.trans (h12.b.mono HBW.out.size)⟩

set_option maxRecDepth 100000 in
theorem lifted (os : Os) (started : os.Started) (H : Type) (enc : TypeId × Value → H) :
    ReturnsInHanded {} Try.checked os 3 .any (Rows.putFormsSpec.pre6 enc Try.prog Try.f3 Rows.putFormsRow.domain false) (Rows.putFormsSpec.post enc Try.prog Try.f3 false true false false) := by
  refine returnsInHanded_of_change (C := Try.checked) own started (by kernel_rfl) Try.func3
    (ChangeSpec.witness6 (enc := enc) (C := Try.checked) false ⟨#[], #[.slice none 0 0, .agg #[.int .i64 0, .int .i64 0], .bool false], []⟩ 8 (by kernel_rfl) (by kernel_rfl) (by kernel_rfl) (by kernel_rfl)) ?_
  intro W base args ds gs before hval0 hW hcnd _
  have hval : ∀ (j : Nat) t v, Try.f3.params[j]? = some t → args[j]? = some v → Value.okWide Try.prog W .any base t v := hval0
  have hW' := hW
  obtain ⟨p, q, hA0, hV, rfl, hfz, hnd⟩ := hW
  have hA : DataW.TrodAll enc Try.prog W 0 (fun _ => true) true Try.f3.params.toList args.toList ds p := hA0
  rw [Try.params3] at hA hval
  obtain ⟨v0, vs0, d0, ds0, p0, q0, hargs, rfl, rfl, h0, r0⟩ := trodAll_cons hA
  obtain ⟨v1, vs1, d1, ds1, p1, q1, rfl, rfl, rfl, h1, r1⟩ := trodAll_cons r0
  obtain ⟨v2, vs2, d2, ds2, p2, q2, rfl, rfl, rfl, h2, r2⟩ := trodAll_cons r1
  obtain ⟨rfl, rfl, rfl⟩ := trodAll_nil r2
  obtain rfl : args = #[v0, v1, v2] := by cases args; simp_all
  obtain ⟨rfl, rfl⟩ := trodVars_none hV
  have k0 := h0
  have lt0 : ∀ x ∈ p0, x.block < W.heap.size := by obtain ⟨m, hm⟩ := k0; exact DataW.trod_lt m _ _ _ hm
  obtain ⟨b0, l0, c0, rfl⟩ := okWide_slice Try.underlying22 (hval 0 22 v0 rfl rfl)
  obtain ⟨a0, cap0, z0, e0, w0, g0⟩ := open_pairsw (enc := enc) (w := W) (v := .slice b0 l0 c0) (fuel := h0.choose) (by simpa [Value.cells] using h0.choose_spec)
  rw [e0] at hval k0 h0 hW' hval0 hA0
  have k1 := h1
  have lt1 : ∀ x ∈ p1, x.block < W.heap.size := by obtain ⟨m, hm⟩ := k1; exact DataW.trod_lt m _ _ _ hm
  obtain ⟨u1, rfl, _⟩ := okWide_struct Try.underlying24 (hval 1 24 v1 rfl rfl)
  obtain ⟨k1_, v1_, e1, w1⟩ := fields_pairw (enc := enc) (w := W) (cs := u1.toList) (fuel := h1.choose) (by simpa [Value.cells] using h1.choose_spec)
  obtain rfl : u1 = #[.int .i64 k1_, .int .i64 v1_] := by cases u1; simp_all
  have k2 := h2
  have lt2 : ∀ x ∈ p2, x.block < W.heap.size := by obtain ⟨m, hm⟩ := k2; exact DataW.trod_lt m _ _ _ hm
  obtain ⟨b2, rfl, rfl, rfl⟩ := open_bool Try.underlying4 (hval 2 4 v2 rfl rfl) h2
  clear hA0 hval0
  rw [e0]; refine (walk a0 cap0 z0 k1_ v1_ b2 W w0 g0 w1).mono fun e W' ⟨he, bel⟩ => ?_
  subst he
  exact ⟨_, rfl, _, _, _, [], _, [], hW', trodAll_mk1 (shut_bool Try.underlying4 _), (trodAll_cons_mk (Below.trod laidOut (by kernel_rfl) (of_decide_eq_true (by kernel_rfl)) k0 bel lt0) (trodAll_cons_mk (Below.trod laidOut (by kernel_rfl) (of_decide_eq_true (by kernel_rfl)) k1 bel lt1) (trodAll_cons_mk (Below.trod laidOut (by kernel_rfl) (of_decide_eq_true (by kernel_rfl)) k2 bel lt2) trodAll_mk0))), rfl, bel.frame _, fun h => by cases h⟩

theorem over : Rows.putFormsRow.holds Try.pinned (OpenSpec.ofChange Rows.putFormsSpec) :=
  OpenClaim.holds_of_wide 3 Try.f3 rfl rfl rfl rfl rfl rfl rfl ⟨rfl, rfl, rfl, rfl, rfl⟩ rfl rfl rfl rfl rfl (by kernel_rfl) Try.func3 (by kernel_rfl)
    (of_decide_eq_true (by kernel_rfl)) (by unfold Func.isWrapper; first | (rw [if_pos (by decide +kernel)]; kernel_rfl) | (rw [if_neg (by decide +kernel)]; exact ⟨rfl, rfl⟩))
    (fun os started H enc _ => lifted os started H enc)

theorem putFormsHolds : Rows.PutFormsSaid := over
#print axioms putFormsHolds
end Go.Proofs.Ytdonidohmenccaa.putForms
