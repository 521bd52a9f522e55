/- AdaptBack (P15.1, P15.2): of a tree of at most 450 nodes and 2000 pairs that may be, a leaf that is split and joined again by its first key is as it was, its stat nought; all leaves joined, one by one, leave one leaf with all pairs. No condition but that of the form. -/
import Derived.Test.YteebceecohhegaaRows
import Derived.Test.YteebceecohhegaaAeJ
import Derived.OwnWalk
import Derived.LoopTactic
import Derived.WalkKit
import Derived.ProofKit
import Derived.OpenShut
import Derived.ChangeOld
import Derived.Below
namespace Go.Proofs.Yteebceecohhegaa.adaptBack
open Go.ChangeShapes Go.WideShapes Go.ChangeAt Go.RowKit
set_option linter.all false

theorem own : ownKnob Try.prog.godebug = none := by kernel_rfl
theorem laidOut : laidOutB Try.prog = true := by kernel_rfl

set_option maxRecDepth 100000 in
set_option maxHeartbeats 6400000 in
theorem walk_big (t0 : Int) (a0 : Option Addr) (cap0 : Nat) (N0 : List Nd) (w : World) (w0 : Ns w a0 cap0 N0) (s0 : Mid N0) (a1 : Int) (hL : ¬ Lgt N0) :
    Calls Try.prog 5 #[.agg #[.int .i64 t0, .slice a0 N0.length cap0], .int .i64 a1] w fun e w' => e = .returned (.bool true) ∧ Below w.heap.size w w' := by
  have b1 : Below w.heap.size w (w.alloc (.cells #[.int .i64 t0, .slice a0 N0.length cap0] 24)) := al1 _
  have cl := light_any t0 a0 cap0 N0 _ (w0.keep b1) s0 1 (fun h => absurd h hL) (fun _ => rfl)
  have caw := fun W => awake_any W
  have HB := Lib.hid b1
  unfold trv at cl
  clear b1 w0 s0 hL
  go_enter Try.func5, Try.ntmps5
  go_wp2_with (first
    | (go_at_call 8; ((with_reducible refine cl.mono ?_); clear cl; rintro e W3 ⟨rfl, hb3⟩; have HB3 := Lib.hid (bel2 HB.out hb3); clear hb3))
    | (go_at_call 9; ((with_reducible refine (caw _).mono ?_); clear caw; rintro e W4 ⟨rfl, hb4⟩; have HB4 := Lib.hid (bel2 HB3.out hb4); clear hb4))
    | fail)
  go_ret
  exact ⟨rfl, HB4.out⟩
set_option maxRecDepth 100000 in
set_option maxHeartbeats 6400000 in
theorem walk_no (t0 : Int) (a0 : Option Addr) (cap0 : Nat) (N0 : List Nd) (w : World) (w0 : Ns w a0 cap0 N0) (s0 : Mid N0) (a1 : Int) (hL : Lgt N0) (hT : ∀ s, ¬ Tr N0 s t0) :
    Calls Try.prog 5 #[.agg #[.int .i64 t0, .slice a0 N0.length cap0], .int .i64 a1] w fun e w' => e = .returned (.bool true) ∧ Below w.heap.size w w' := by
  have b1 : Below w.heap.size w (w.alloc (.cells #[.int .i64 t0, .slice a0 N0.length cap0] 24)) := al1 _
  have cl := light_any t0 a0 cap0 N0 _ (w0.keep b1) s0 0 (fun _ => rfl) (fun h => absurd hL h)
  have cm := fun W (hb : Below w.heap.size w W) => tmay_any t0 a0 cap0 N0 W (w0.keep hb) hL.small false ⟨fun h => (by cases h), fun ⟨s, hs⟩ => absurd hs (hT s)⟩
  have caw := fun W => awake_any W
  have HB := Lib.hid b1
  have G1 := Lib.hid (Bk.new w #[.int .i64 t0, .slice a0 N0.length cap0] 24)
  unfold trv at cl cm
  clear b1 w0 s0 hL hT
  go_enter Try.func5, Try.ntmps5
  go_wp2_with (first
    | (go_at_call 8; ((with_reducible refine cl.mono ?_); clear cl; rintro e W3 ⟨rfl, hb3⟩; have HB3 := Lib.hid (bel2 HB.out hb3); have k0 := (G1.out.keep hb3).at_ 0 _ rfl; have k1 := (G1.out.keep hb3).at_ 1 _ rfl; clear hb3))
    | (go_at_call 19; ((with_reducible refine (cm _ HB3.out).mono ?_); clear cm k0 k1; rintro e W5 ⟨rfl, hb5⟩; have HB5 := Lib.hid (bel2 HB3.out hb5); clear hb5))
    | (go_at_call 9; ((with_reducible refine (caw _).mono ?_); clear caw; rintro e W4 ⟨rfl, hb4⟩; have HB4 := Lib.hid (bel2 HB5.out hb4); clear hb4))
    | fail)
  go_ret
  exact ⟨rfl, HB4.out⟩
/-- What holds all along. -/
structure Ss (w : World) (t : Int) (a : Option Addr) (cap : Nat) (N : List Nd) (W : World) : Prop where
  q : Tq W w.heap.size t a N.length cap
  b : Below w.heap.size w W
theorem Ss_keep {w : World} {t : Int} {a : Option Addr} {cap : Nat} {N : List Nd} {W W' : World} (h : Ss w t a cap N W) (hb : Below W.heap.size W W') : Ss w t a cap N W' := ⟨h.q.keep hb, bel2 h.b hb⟩
/-- The tree split, in a box beside it. -/
structure S6 (w : World) (t : Int) (a : Option Addr) (cap : Nat) (N : List Nd) (q6 : Nat) (a6 : Option Addr) (c6 : Nat) (Q : List Nd) (W : World) : Prop where
  s : Ss w t a cap N W
  u : Tq W q6 0 a6 Q.length c6
  m : Ns W a6 c6 Q
theorem S6_keep {w : World} {t : Int} {a : Option Addr} {cap : Nat} {N : List Nd} {q6 : Nat} {a6 : Option Addr} {c6 : Nat} {Q : List Nd} {W W' : World} (h : S6 w t a cap N q6 a6 c6 Q W) (hb : Below W.heap.size W W') : S6 w t a cap N q6 a6 c6 Q W' := ⟨Ss_keep h.s hb, h.u.keep hb, h.m.keep hb⟩
theorem S6_conj {w : World} {t : Int} {a : Option Addr} {cap : Nat} {N : List Nd} {q6 : Nat} {a6 : Option Addr} {c6 : Nat} {Q : List Nd} {W : World} (h : S6 w t a cap N q6 a6 c6 Q W) {p : Addr} {x : Value} (hx : w.cell? p = some x) :
    W.cell? ⟨q6, 0, none⟩ = some (.int .i64 0) ∧ W.cell? ⟨q6, 1, none⟩ = some (.slice a6 Q.length c6) ∧ W.cell? p = some x ∧ S6 w t a cap N q6 a6 c6 Q W := ⟨h.u.c0, h.u.c1, kc h.s.b hx, h⟩
theorem S6_conj2 {w : World} {t : Int} {a : Option Addr} {cap : Nat} {N : List Nd} {q6 : Nat} {a6 : Option Addr} {c6 : Nat} {Q : List Nd} {WU W : World} (h : S6 w t a cap N q6 a6 c6 Q WU) {p : Addr} {x : Value} (hx : w.cell? p = some x) (hb : Below WU.heap.size WU W) :
    W.cell? ⟨q6, 0, none⟩ = some (.int .i64 0) ∧ W.cell? ⟨q6, 1, none⟩ = some (.slice a6 Q.length c6) ∧ W.cell? p = some x ∧ Below WU.heap.size WU W := ⟨(h.u.keep hb).c0, (h.u.keep hb).c1, kc (bel2 h.s.b hb) hx, hb⟩
theorem Kp_conj {w : World} {A : List Pr} {aw : Option Addr} {cw : Nat} {t : Int} {a : Option Addr} {cap : Nat} {N : List Nd} {W W2 : World} (h : Kp w A aw cw W t a cap N) {p : Addr} {x : Value} (hx : W.cell? p = some x) (hb : Below W.heap.size W W2) :
    W2.cell? ⟨w.heap.size, 0, none⟩ = some (.int .i64 t) ∧ W2.cell? ⟨w.heap.size, 1, none⟩ = some (.slice a N.length cap) ∧ W2.cell? p = some x ∧ Below W.heap.size W W2 := ⟨(h.q.keep hb).c0, (h.q.keep hb).c1, kc hb hx, hb⟩
set_option maxRecDepth 100000 in
set_option maxHeartbeats 12800000 in
theorem walk_yes (t0 : Int) (a0 : Option Addr) (cap0 : Nat) (N0 : List Nd) (w : World) (w0 : Ns w a0 cap0 N0) (s0 : Mid N0) (a1 : Int) (hL : Lgt N0) (s : Sh) (hT : Tr N0 s t0) :
    Calls Try.prog 5 #[.agg #[.int .i64 t0, .slice a0 N0.length cap0], .int .i64 a1] w fun e w' => e = .returned (.bool true) ∧ Below w.heap.size w w' := by
  have b1 : Below w.heap.size w (w.alloc (.cells #[.int .i64 t0, .slice a0 N0.length cap0] 24)) := al1 _
  have hs := hL.small
  have hl1 : N0.length ≤ 450 := hL.1
  have hc1 := w0.1
  have hc2 := w0.2.1
  unfold maxLen at hc2
  have hvl : s.lvs.length ≤ N0.length := by have := lvs_len s; have := hT.all; omega
  have hvp := lvs_pos s
  obtain ⟨k, hk, hum⟩ := umod a1 (s.lvs.length : Int) (by omega) (by omega)
  have hkl : k < s.lvs.length := by omega
  obtain ⟨i, hi⟩ : ∃ i, s.lvs[k]? = some i := ⟨_, List.getElem?_eq_getElem hkl⟩
  have him := List.mem_of_getElem? hi
  have hil := hT.hg.lt i (lvs_pre s i him)
  have hAt : LfAt N0 t0 (i : Int) s i := ⟨hT, rfl, him⟩
  have cl := light_any t0 a0 cap0 N0 _ (w0.keep b1) s0 0 (fun _ => rfl) (fun h => absurd hL h)
  have cm := fun W (hb : Below w.heap.size w W) => tmay_any t0 a0 cap0 N0 W (w0.keep hb) hs true ⟨fun _ => ⟨s, hT⟩, fun _ => rfl⟩
  have cv := fun W (hb : Below w.heap.size w W) => tleaves_yes t0 a0 cap0 N0 W (w0.keep hb) hs s hT
  have cal := fun W (hb : Below w.heap.size w W) => tall_gen t0 a0 cap0 N0 W (w0.keep hb) hs s.lvs (lvO_lt (.inl ⟨s, hT, rfl⟩)) (fun W hW => tleaves_yes t0 a0 cap0 N0 W hW hs s hT)
  obtain ⟨A, hA⟩ : ∃ A, allP N0 s.lvs = A := ⟨_, rfl⟩
  have hAl : A.length ≤ 2000 := by rw [← hA]; exact lgt_total hT hL
  have G0 := Lib.hid (show Gd A (450 + 2 * 0) t0 N0 s from ⟨hT, hA, hl1, hAl⟩)
  have hnl : N0.length + 1 = 2 * s.lvs.length := by have h := AT.sz_nl (ab N0 s); rw [ab_sz, ab_nl, hT.all] at h; exact h
  have HNL := Lib.hid (And.intro hnl hl1)
  have caw := fun W => awake_any W
  have S1 := Lib.hid (show Ss w t0 a0 cap0 N0 (w.alloc (.cells #[.int .i64 t0, .slice a0 N0.length cap0] 24)) from ⟨Tq.new w t0 a0 N0.length cap0, b1⟩)
  have HN := Lib.hid w0
  have HI := Lib.hid hi
  obtain ⟨x, Q, hSp⟩ := splO_ex N0 t0 (i : Int)
  have csp := fun W (hb : Below w.heap.size w W) => split_any t0 a0 cap0 N0 (i : Int) W (w0.keep hb) hs (by omega) x Q hSp
  unfold RowIs at cal
  unfold LvIs at cv
  unfold PlB at csp
  rw [hA] at cal
  unfold trv at cl cm cv cal csp
  have hz : ((s.lvs.length : Int) == 0) = false := beq_eq_false_iff_ne.2 (by omega)
  have hi0 : (0 : Int) ≤ (i : Int) := by omega
  have hi1 : (i : Int) < (N0.length : Int) := by omega
  have hi0d : decide ((0 : Int) ≤ (i : Int)) = true := decide_eq_true hi0
  have hi1d : decide ((i : Int) < (N0.length : Int)) = true := decide_eq_true hi1
  cases x with
  | false =>
    clear b1 w0 s0 hs hT hL hA hl1 hAl hi him hil hAt hvl hnl hSp
    go_enter Try.func5, Try.ntmps5
    go_upto_region 15 with (first
      | (go_at_call 8; ((with_reducible refine cl.mono ?_); clear cl; rintro e W3 ⟨rfl, hb3⟩; have S3 := Lib.hid (Ss_keep S1.out hb3); clear hb3; have k0 := S3.out.q.c0; have k1 := S3.out.q.c1))
      | (go_at_call 19; ((with_reducible refine (cm _ S3.out.b).mono ?_); clear cm k0 k1; rintro e W5 ⟨rfl, hb5⟩; have S5 := Lib.hid (Ss_keep S3.out hb5); clear hb5; have k0 := S5.out.q.c0; have k1 := S5.out.q.c1))
      | (go_at_call 21; ((with_reducible refine (cv _ S5.out.b).mono ?_); clear cv k0 k1; rintro e W7 ⟨ao, c, rfl, hr7, hb7⟩; obtain ⟨b7, o7, rfl, c7⟩ := ri_at hr7 HI.out; have hrc7 := hr7.1; have hrm7 := hr7.2.1; unfold maxLen at hrm7; rw [preI_len] at hrc7; have S7 := Lib.hid (Ss_keep S5.out hb7); clear hr7 hb7; have k0 := S7.out.q.c0; have k1 := S7.out.q.c1))
      | (go_at_call 10; ((with_reducible refine (csp _ S7.out.b).mono ?_); clear csp k0 k1 c7; rintro e W8 ⟨a6, c6, rfl, hn8, hb8⟩; have S8 := Lib.hid (Ss_keep (Ss_keep S7.out hb8) (al1 (.cells #[.int .i64 0, .slice a6 Q.length c6] 24))); have N8 := Lib.hid (hn8.keep (al1 (.cells #[.int .i64 0, .slice a6 Q.length c6] 24))); have T8 := Lib.hid (Tq.new W8 0 a6 Q.length c6); have HQ6 := Lib.hid (Ss_keep S7.out hb8).q.lt; clear hn8 hb8; have k0 := S8.out.q.c0; have k1 := S8.out.q.c1))
      | fail)
    have S9 := S8
    have k0 := S9.out.q.c0
    have k1 := S9.out.q.c1
    go_wp2_with (first
      | (go_at_call 20; ((with_reducible refine (cal _ S9.out.b).mono ?_); clear cal k0 k1; rintro e W20 ⟨aw, cw, rfl, hp20, hb20⟩; have K20 := Lib.hid (show Kp w A aw cw W20 t0 a0 cap0 N0 from ⟨S9.out.q.keep hb20, HN.out.keep (bel2 S9.out.b hb20), hp20.prs rfl, bel2 S9.out.b hb20⟩); clear hp20 hb20))
      | fail)
    go_loopw [108] (fun z wr => ∃ (n : Nat) (t : Int) (a : Option Addr) (cap : Nat) (N : List Nd) (s2 : Sh), n ≤ 400 ∧ z = .int .i64 n ∧ Kp w A aw cw wr t a cap N ∧ Gd A (450 + 2 * n) t N s2 ∧ s2.lvs.length + n = s.lvs.length) (fun z _ => 400 - (intOf z).toNat)
    case atStart => exact ⟨0, t0, a0, cap0, N0, s, Nat.zero_le _, rfl, K20.out, G0.out, rfl⟩
    case round =>
      obtain ⟨n, t, a, cap, N, s2, hn, rfl, hK, hG, hc⟩ := hrel
      have HK := Lib.hid hK
      have HG := Lib.hid hG
      have HC := Lib.hid hc
      have hv2 := lvs_pos s2
      have hn4 : n < 400 := by have := HNL.out.1; have := HNL.out.2; omega
      have hn4i : (n : Int) < 400 := by omega
      have hsm := hG.small
      have hNn : N.length + 1 = 2 * s2.lvs.length := by have h := AT.sz_nl (ab N s2); rw [ab_sz, ab_nl, hG.t.all] at h; exact h
      have cv := fun W (h : Ns W a cap N) => tleaves_yes t a cap N W h hsm s2 hG.t
      have cal2 := fun W (h : Ns W a cap N) => tall_gen t a cap N W h hsm s2.lvs (lvO_lt (.inl ⟨s2, hG.t, rfl⟩)) (fun W hW => tleaves_yes t a cap N W hW hsm s2 hG.t)
      have csa := fun W (ax : Option Addr) (cx : Nat) (h : Prs W ax cx A) (h2 : Prs W aw cw A) => samep_any ax aw cx cw A A W h h2 true (by simp)
      unfold LvIs at cv
      unfold RowIs at cal2
      rw [hG.a] at cal2
      unfold trv at cv cal2
      have k0 := hK.q.c0
      have k1 := hK.q.c1
      by_cases h1 : s2.lvs.length = 1
      · have hN1 : N.length = 1 := by omega
        have hz1 : ((s2.lvs.length : Int) == 1) = true := by rw [h1]; rfl
        have hz2 : ((N.length : Int) == 1) = true := by rw [hN1]; rfl
        clear hK hG hc hsm h1 hN1 hNn
        go_wp2_with (first
          | (go_at_call 21; ((with_reducible refine (cv _ HK.out.n).mono ?_); clear cv k0 k1; rintro e W21 ⟨ao, c, rfl, -, hb21⟩; have K21 := Lib.hid (HK.out.keep hb21); clear hb21; have k0 := K21.out.q.c0; have k1 := K21.out.q.c1))
          | (go_at_call 20; ((with_reducible refine (cal2 _ K21.out.n).mono ?_); clear cal2 k0 k1; rintro e W22 ⟨ax, cx, rfl, hp22, hb22⟩; have K22 := Lib.hid (K21.out.keep hb22); have P22 := Lib.hid (hp22.prs rfl); clear hp22 hb22))
          | (go_at_call 22; ((with_reducible refine (csa _ _ _ P22.out K22.out.p).mono ?_); clear csa; rintro e W23 ⟨rfl, hb23⟩; have K23 := Lib.hid (K22.out.keep hb23); clear hb23))
          | (go_at_call 9; ((with_reducible refine (caw _).mono ?_); clear caw; rintro e W24 ⟨rfl, hb24⟩; have HB24 := Lib.hid (bel2 K23.out.b hb24); clear hb24))
          | fail)
        go_ret
        exact ⟨rfl, HB24.out⟩
      · have hz1 : ((s2.lvs.length : Int) == 1) = false := beq_eq_false_iff_ne.2 (by omega)
        obtain ⟨m, hm⟩ : ∃ m, s2.lvs.length / 2 = m := ⟨_, rfl⟩
        have hdiv : ((s2.lvs.length : Nat) : Int).tdiv 2 = (m : Int) := by rw [Int.tdiv_eq_ediv_of_nonneg (by omega), ← hm]; rfl
        have hml : m < s2.lvs.length := by omega
        have hwm : IntKind.i64.wrap (m : Int) = (m : Int) := by rw [IntKind.wrap_i64]; have := HNL.out.1; have := HNL.out.2; omega
        have hmi0 : (0 : Int) ≤ (m : Int) := by omega
        have hmi1 : (m : Int) < (s2.lvs.length : Int) := by omega
        obtain ⟨j, hj⟩ : ∃ j, s2.lvs[m]? = some j := ⟨_, List.getElem?_eq_getElem hml⟩
        have hjm := List.mem_of_getElem? hj
        have hAt2 : LfAt N t (j : Int) s2 j := ⟨hG.t, rfl, hjm⟩
        obtain ⟨T, hT1, _⟩ := joinA_is hG.t.hg hjm ((lvs_one hjm).2 (by omega))
        have hJo : JoiO N t (j : Int) true (T.lay 0) := .inl ⟨rfl, s2, j, T, hAt2, (lvs_one hjm).2 (by omega), hT1, rfl⟩
        obtain ⟨Q2, hQ2⟩ : ∃ q, T.lay 0 = q := ⟨_, rfl⟩
        rw [hQ2] at hJo
        have cjo := fun W (h : Ns W a cap N) => join_any t a cap N (j : Int) W h hsm (fun s3 h3 => by
          have e := h3.uniq hG.t
          subst e
          rw [hG.a]; have := hG.k; omega) true Q2 hJo
        unfold trv PlB at cjo
        have HJO := Lib.hid hJo
        have HJ := Lib.hid hj
        clear hK hG hc hsm hNn hm hj hjm hAt2 hT1 hJo hQ2 cal2 csa h1
        go_upto_region 20 with (go_at_call 21; ((with_reducible refine (cv _ HK.out.n).mono ?_); clear cv k0 k1; rintro e W21 ⟨ao, c, rfl, hr21, hb21⟩; obtain ⟨b7, o7, rfl, c7'⟩ := ri_at hr21 HJ.out; have C21 := Lib.hid c7'; clear c7'; have hrc2 := hr21.1; have hrm2 := hr21.2.1; unfold maxLen at hrm2; rw [preI_len] at hrc2; have K21 := Lib.hid (HK.out.keep hb21); clear hr21 hb21))
        go_cut [17, 18] from 115 to 125 (fun v17 v18 wx => ∃ (q17 : Nat) (a9 : Option Addr) (c9 : Nat), v17 = .pointer (some ⟨q17, 0, none⟩) ∧ v18 = .bool true ∧ Kq w A aw cw wx t a cap N q17 a9 c9 Q2)
        case first =>
          refine wp_region_held_drew (S := (fun W => W.cell? ⟨w.heap.size, 0, none⟩ = some (.int .i64 t) ∧ W.cell? ⟨w.heap.size, 1, none⟩ = some (.slice a N.length cap) ∧ W.cell? ⟨b7, o7 + m, none⟩ = some (.int .i64 (j : Int)) ∧ Below W21.heap.size W21 W)) (by kernel_rfl) (by first | exact Kp_conj K21.out C21.out (Below.refl _ _) | exact Kp_conj K21.out C21.out ((Below.refl _ _).drew)) (fun hHeld => ?_)
          refine wpAnyH_take (i := 0) (v := ?_) rfl (by kernel_rfl) (by kernel_rfl) (by kernel_rfl) (fun _ _ _ h => h) (Or.inl ⟨by rfl, ?_⟩) hHeld ?_
          rotate_left
          · (intro wS hSw; (try dsimp only at hSw); (try go_split_ands); go_simp; try with_reducible rfl)
          try simp only [List.getElem_toArray, List.getElem_cons_succ, List.getElem_cons_zero, Act.put, List.setIfInBounds_toArray, List.set_cons_zero, List.set_cons_succ]
          refine wpAnyH_take (i := 1) (v := ?_) rfl (by kernel_rfl) (by kernel_rfl) (by kernel_rfl) (fun _ _ _ h => h) (Or.inl ⟨by rfl, ?_⟩) hHeld ?_
          rotate_left
          · (intro wS hSw; (try dsimp only at hSw); (try go_split_ands); go_simp; try with_reducible rfl)
          try simp only [List.getElem_toArray, List.getElem_cons_succ, List.getElem_cons_zero, Act.put, List.setIfInBounds_toArray, List.set_cons_zero, List.set_cons_succ]
          refine wpAnyH_take (i := 2) (v := ?_) rfl (by kernel_rfl) (by kernel_rfl) (by kernel_rfl) (fun _ _ _ h => h) (Or.inl ⟨by rfl, ?_⟩) hHeld ?_
          rotate_left
          · (intro wS hSw; (try dsimp only at hSw); (try go_split_ands); go_simp; try with_reducible rfl)
          try simp only [List.getElem_toArray, List.getElem_cons_succ, List.getElem_cons_zero, Act.put, List.setIfInBounds_toArray, List.set_cons_zero, List.set_cons_succ]
          refine wpAnyH_take (i := 3) (v := ?_) rfl (by kernel_rfl) (by kernel_rfl) (by kernel_rfl) (fun _ _ _ h => h) (Or.inl ⟨by rfl, ?_⟩) hHeld ?_
          rotate_left
          · (intro wS hSw; (try dsimp only at hSw); (try go_split_ands); go_simp; try with_reducible rfl)
          try simp only [List.getElem_toArray, List.getElem_cons_succ, List.getElem_cons_zero, Act.put, List.setIfInBounds_toArray, List.set_cons_zero, List.set_cons_succ]
          refine wpAnyH_take (i := 4) (v := ?_) rfl (by kernel_rfl) (by kernel_rfl) (by kernel_rfl) (fun _ _ _ h => h) (Or.inl ⟨by rfl, ?_⟩) hHeld ?_
          rotate_left
          · (intro wS hSw; (try dsimp only at hSw); (try go_split_ands); go_simp; try with_reducible rfl)
          try simp only [List.getElem_toArray, List.getElem_cons_succ, List.getElem_cons_zero, Act.put, List.setIfInBounds_toArray, List.set_cons_zero, List.set_cons_succ]
          refine wpAnyH_take (i := 5) (v := ?_) rfl (by kernel_rfl) (by kernel_rfl) (by kernel_rfl) (fun _ _ _ h => h) (Or.inl ⟨by rfl, ?_⟩) hHeld ?_
          rotate_left
          · (intro wS hSw; (try dsimp only at hSw); (try go_split_ands); go_simp; try with_reducible rfl)
          try simp only [List.getElem_toArray, List.getElem_cons_succ, List.getElem_cons_zero, Act.put, List.setIfInBounds_toArray, List.set_cons_zero, List.set_cons_succ]
          refine wpAnyH_take (i := 6) (v := ?_) rfl (by kernel_rfl) (by kernel_rfl) (by kernel_rfl) (fun _ _ _ h => h) (Or.inl ⟨by rfl, ?_⟩) hHeld ?_
          rotate_left
          · (intro wS hSw; (try dsimp only at hSw); (try go_split_ands); go_simp; try with_reducible rfl)
          try simp only [List.getElem_toArray, List.getElem_cons_succ, List.getElem_cons_zero, Act.put, List.setIfInBounds_toArray, List.set_cons_zero, List.set_cons_succ]
          refine wpAnyH_ready (rs := [7, 11]) (by kernel_rfl) (by simp) ?_
          refine AllReadyH.cons rfl (fun K hK => ?_) (AllReadyH.cons rfl (fun K hK => ?_) AllReadyH.nil)
          · skip
            go_simp
            (go_at_call 12; ((with_reducible refine (cjo _ (K21.out.keep hHeld.2.2.2).n).mono ?_); rintro e X ⟨a9, c9, rfl, hnX, hbX⟩))
            refine hK.out _ _ ?_ (fun hNext => ?_)
            · exact Kp_conj K21.out C21.out (bel2 hHeld.2.2.2 hbX)
            have BXX := Lib.hid (bel2 hHeld.2.2.2 hbX)
            have NX := Lib.hid hnX
            clear hbX hnX
            clear hK K hHeld
            have hHeld := hNext
            clear hNext
            try simp only [List.getElem_toArray, List.getElem_cons_succ, List.getElem_cons_zero, Act.put, List.setIfInBounds_toArray, List.set_cons_zero, List.set_cons_succ]
            refine wpAnyH_take (i := 8) (v := ?_) rfl (by kernel_rfl) (by kernel_rfl) (by kernel_rfl) (fun _ _ _ h => h) (Or.inl ⟨by rfl, ?_⟩) hHeld ?_
            rotate_left
            · (intro wS hSw; (try dsimp only at hSw); (try go_split_ands); go_simp; try with_reducible rfl)
            try simp only [List.getElem_toArray, List.getElem_cons_succ, List.getElem_cons_zero, Act.put, List.setIfInBounds_toArray, List.set_cons_zero, List.set_cons_succ]
            refine wpAnyH_take (i := 9) (v := ?_) rfl (by kernel_rfl) (by kernel_rfl) (by kernel_rfl) (fun _ _ _ h => h) (Or.inl ⟨by rfl, ?_⟩) hHeld ?_
            rotate_left
            · (intro wS hSw; (try dsimp only at hSw); (try go_split_ands); go_simp; try with_reducible rfl)
            try simp only [List.getElem_toArray, List.getElem_cons_succ, List.getElem_cons_zero, Act.put, List.setIfInBounds_toArray, List.set_cons_zero, List.set_cons_succ]
            refine wpAnyH_take (i := 10) (v := ?_) rfl (by kernel_rfl) (by kernel_rfl) (by kernel_rfl) (fun _ _ _ h => h) (Or.inl ⟨by rfl, ?_⟩) hHeld ?_
            rotate_left
            · (intro wS hSw; (try dsimp only at hSw); (try go_split_ands); go_simp; try with_reducible rfl)
            try simp only [List.getElem_toArray, List.getElem_cons_succ, List.getElem_cons_zero, Act.put, List.setIfInBounds_toArray, List.set_cons_zero, List.set_cons_succ]
            refine wpAnyH_ready (rs := [11]) (by kernel_rfl) (by simp) ?_
            refine AllReadyH.cons rfl (fun K hK => ?_) AllReadyH.nil
            go_simp
            refine hK.out _ _ ?_ (fun hNext => ?_)
            · exact Kp_conj K21.out C21.out (bel1 hHeld.2.2.2 _)
            clear hK K hHeld
            have hHeld := hNext
            clear hNext
            try simp only [List.getElem_toArray, List.getElem_cons_succ, List.getElem_cons_zero, Act.put, List.setIfInBounds_toArray, List.set_cons_zero, List.set_cons_succ]
            refine wpAnyH_ready (rs := [12]) (by kernel_rfl) (by simp) ?_
            refine AllReadyH.cons rfl (fun K hK => ?_) AllReadyH.nil
            go_simp
            refine hK.out _ _ ?_ (fun hNext => ?_)
            · exact Kp_conj K21.out C21.out (bel1 BXX.out _)
            have FQ := Lib.hid (show Kq w A aw cw (X.alloc (.cells #[.int .i64 0, .slice a9 Q2.length c9] 24)) t a cap N X.heap.size a9 c9 Q2 from ⟨(K21.out.keep BXX.out).keep (al1 _), Tq.new X 0 a9 Q2.length c9, NX.out.keep (al1 _)⟩)
            clear hK K hHeld
            have hHeld := hNext
            clear hNext
            try simp only [List.getElem_toArray, List.getElem_cons_succ, List.getElem_cons_zero, Act.put, List.setIfInBounds_toArray, List.set_cons_zero, List.set_cons_succ]
            refine wpAnyH_take (i := 13) (v := ?_) rfl (by kernel_rfl) (by kernel_rfl) (by kernel_rfl) (fun _ _ _ h => h) (Or.inl ⟨by rfl, ?_⟩) hHeld ?_
            rotate_left
            · (intro wS hSw; (try dsimp only at hSw); (try go_split_ands); go_simp; try with_reducible rfl)
            try simp only [List.getElem_toArray, List.getElem_cons_succ, List.getElem_cons_zero, Act.put, List.setIfInBounds_toArray, List.set_cons_zero, List.set_cons_succ]
            refine wpAnyH_done (by kernel_rfl) ?_ _
            clear hHeld
            go_wp2_with (fail)
            go_meet
            case rel => exact ⟨X.heap.size, a9, c9, rfl, rfl, FQ.out⟩
          · skip
            go_simp
            refine hK.out _ _ ?_ (fun hNext => ?_)
            · exact Kp_conj K21.out C21.out (bel1 hHeld.2.2.2 _)
            have BX := Lib.hid (show Rq (W21.alloc (.cells #[.int .i64 0, .slice none 0 0] 24)).drew W21.heap.size from Rq.new W21)
            clear hK K hHeld
            have hHeld := hNext
            clear hNext
            try simp only [List.getElem_toArray, List.getElem_cons_succ, List.getElem_cons_zero, Act.put, List.setIfInBounds_toArray, List.set_cons_zero, List.set_cons_succ]
            refine wpAnyH_ready (rs := [7]) (by kernel_rfl) (by simp) ?_
            refine AllReadyH.cons rfl (fun K hK => ?_) AllReadyH.nil
            go_simp
            (go_at_call 12; ((with_reducible refine (cjo _ (K21.out.keep hHeld.2.2.2).n).mono ?_); rintro e X ⟨a9, c9, rfl, hnX, hbX⟩))
            refine hK.out _ _ ?_ (fun hNext => ?_)
            · exact Kp_conj K21.out C21.out (bel2 hHeld.2.2.2 hbX)
            have BZ := Lib.hid (BX.out.keep hbX)
            have BXX := Lib.hid (bel2 hHeld.2.2.2 hbX)
            have NX := Lib.hid hnX
            clear hbX hnX
            have z0 := BZ.out.c0
            have z1 := BZ.out.c1
            have fz := BZ.out.fr
            clear hK K hHeld
            have hHeld := hNext
            clear hNext
            try simp only [List.getElem_toArray, List.getElem_cons_succ, List.getElem_cons_zero, Act.put, List.setIfInBounds_toArray, List.set_cons_zero, List.set_cons_succ]
            refine wpAnyH_take (i := 8) (v := ?_) rfl (by kernel_rfl) (by kernel_rfl) (by kernel_rfl) (fun _ _ _ h => h) (Or.inl ⟨by rfl, ?_⟩) hHeld ?_
            rotate_left
            · (intro wS hSw; (try dsimp only at hSw); (try go_split_ands); go_simp; try with_reducible rfl)
            try simp only [List.getElem_toArray, List.getElem_cons_succ, List.getElem_cons_zero, Act.put, List.setIfInBounds_toArray, List.set_cons_zero, List.set_cons_succ]
            refine wpAnyH_take (i := 9) (v := ?_) rfl (by kernel_rfl) (by kernel_rfl) (by kernel_rfl) (fun _ _ _ h => h) (Or.inl ⟨by rfl, ?_⟩) hHeld ?_
            rotate_left
            · (intro wS hSw; (try dsimp only at hSw); (try go_split_ands); go_simp; try with_reducible rfl)
            try simp only [List.getElem_toArray, List.getElem_cons_succ, List.getElem_cons_zero, Act.put, List.setIfInBounds_toArray, List.set_cons_zero, List.set_cons_succ]
            refine wpAnyH_take (i := 10) (v := ?_) rfl (by kernel_rfl) (by kernel_rfl) (by kernel_rfl) (fun _ _ _ h => h) (Or.inl ⟨by rfl, ?_⟩) hHeld ?_
            rotate_left
            · (intro wS hSw; (try dsimp only at hSw); (try go_split_ands); go_simp; try with_reducible rfl)
            try simp only [List.getElem_toArray, List.getElem_cons_succ, List.getElem_cons_zero, Act.put, List.setIfInBounds_toArray, List.set_cons_zero, List.set_cons_succ]
            refine wpAnyH_ready (rs := [12]) (by kernel_rfl) (by simp) ?_
            refine AllReadyH.cons rfl (fun K hK => ?_) AllReadyH.nil
            go_simp
            refine hK.out _ _ ?_ (fun hNext => ?_)
            · exact Kp_conj K21.out C21.out ((BXX.out.setCell (Nat.le_refl _) _).setCell (Nat.le_refl _) _)
            have FQ := Lib.hid (Kq.new (K21.out.keep BXX.out) BZ.out K21.out.q.lt NX.out)
            clear z0 z1 fz
            clear hK K hHeld
            have hHeld := hNext
            clear hNext
            try simp only [List.getElem_toArray, List.getElem_cons_succ, List.getElem_cons_zero, Act.put, List.setIfInBounds_toArray, List.set_cons_zero, List.set_cons_succ]
            refine wpAnyH_take (i := 13) (v := ?_) rfl (by kernel_rfl) (by kernel_rfl) (by kernel_rfl) (fun _ _ _ h => h) (Or.inl ⟨by rfl, ?_⟩) hHeld ?_
            rotate_left
            · (intro wS hSw; (try dsimp only at hSw); (try go_split_ands); go_simp; try with_reducible rfl)
            try simp only [List.getElem_toArray, List.getElem_cons_succ, List.getElem_cons_zero, Act.put, List.setIfInBounds_toArray, List.set_cons_zero, List.set_cons_succ]
            refine wpAnyH_done (by kernel_rfl) ?_ _
            clear hHeld
            go_wp2_with (fail)
            go_meet
            case rel => exact ⟨W21.heap.size, a9, c9, rfl, rfl, FQ.out⟩
        case rest =>
          obtain ⟨q17, a9, c9, rfl, rfl, hKq⟩ := hcut
          have ZZ := Lib.hid hKq
          obtain ⟨s3, hG3, hl3⟩ := HG.out.join HJO.out
          have HG3 := Lib.hid (And.intro hG3 hl3)
          have k0 := hKq.z.c0
          have k1 := hKq.z.c1
          have t0' := hKq.k.q.c0
          have t1' := hKq.k.q.c1
          have tf0 := hKq.k.q.fr 0
          have tf1 := hKq.k.q.fr 1
          clear hKq hG3 hl3
          go_wp2_with (fail)
          go_roundw
          case rel => exact ⟨n + 1, 0, a9, c9, Q2, s3, by omega, by go_num, ZZ.out.k.move ZZ.out.m rfl, HG3.out.1, by have := HG3.out.2; have := HC.out; omega⟩
          case measure => simp [intOf]; omega
  | true =>
    have h2 : 2 ≤ (nd N0 i).p.length := by
      rcases hSp with ⟨_, s2, i2, g1, g2, _⟩ | ⟨g, _⟩
      · obtain ⟨rfl, rfl⟩ := LfAt.uniq g1 hAt
        exact g2
      · cases g
    obtain ⟨q, s1, f, V, P, hBk⟩ := back hT hs (by rw [hA]; omega) him h2 (by omega)
    have hQ : Q = (splA N0 i s).lay 0 := by
      rcases hSp with ⟨_, s2, i2, g1, g2, _, g3⟩ | ⟨g, _⟩
      · obtain ⟨rfl, rfl⟩ := LfAt.uniq g1 hAt
        exact g3
      · cases g
    rw [← hQ] at hBk
    have HBK := Lib.hid hBk
    obtain ⟨b, o, pa, pc, rfl, hni⟩ := w0.2.2 i _ (nd_get hil)
    have HE := Lib.hid hni.c4
    have HP := Lib.hid hni.ps
    have hpl := hs.at (nd_get hil)
    obtain ⟨pb, po, rfl, q0, q1⟩ := hni.ps.2.2.1 0 q hBk.q0
    rw [Nat.zero_mul, Nat.add_zero] at q0
    have HQ0 := Lib.hid q0
    have cf := fun W (a6 : Option Addr) (c6 : Nat) (h : Ns W a6 c6 Q) => tfind_yes 0 q.1 a6 c6 Q W h hBk.qs s1 hBk.qt
    have cj := fun W (a6 : Option Addr) (c6 : Nat) (h : Ns W a6 c6 Q) => join_any 0 a6 c6 Q (f : Int) W h hBk.qs hBk.qa true V hBk.jo
    have cse := fun W (hb : Below w.heap.size w W) => tset_any t0 (some ⟨b, o, none⟩) cap0 N0 (i : Int) (some ⟨pb, po, none⟩) pc (nd N0 i).p 0 W (w0.keep hb) hs (hni.ps.below hb) hpl t0 _ true hBk.so
    have csm := fun W (aV : Option Addr) (cV : Nat) (aW : Option Addr) (cW : Nat) (h : Ns W aV cV V) (h2 : Ns W aW cW (N0.set i (lfn (nd N0 i).p 0))) => tsame_any 0 t0 aV aW cV cW V _ W h h2 hBk.vs hBk.ss true true P P hBk.pv hBk.pw true ⟨fun _ => ⟨rfl, rfl, rfl⟩, fun _ => rfl⟩
    have hfi := hBk.fi
    unfold FdIs at cf
    rw [hfi] at cf
    unfold PlB at cj
    unfold SetIs at cse
    unfold trv at cf cj cse csm
    generalize dn Q q.1 s1 = d at *
    have hpp : 0 < (nd N0 i).p.length := by omega
    have hppi : (0 : Int) < ((nd N0 i).p.length : Int) := by omega
    generalize hpi : (nd N0 i).p = p at *
    generalize hNS : N0.set i (lfn p 0) = NS at *
    have hNSl : NS.length = N0.length := by rw [← hNS, List.length_set]
    rw [hNSl] at cse csm
    clear b1 w0 s0 hs hT hL hA hl1 hAl hi him hil hAt hvl hnl hSp hQ hBk h2 hni hpl q0 q1 hfi hpi hNS hNSl
    go_enter Try.func5, Try.ntmps5
    go_upto_region 10 with (first
      | (go_at_call 8; ((with_reducible refine cl.mono ?_); clear cl; rintro e W3 ⟨rfl, hb3⟩; have S3 := Lib.hid (Ss_keep S1.out hb3); clear hb3; have k0 := S3.out.q.c0; have k1 := S3.out.q.c1))
      | (go_at_call 19; ((with_reducible refine (cm _ S3.out.b).mono ?_); clear cm k0 k1; rintro e W5 ⟨rfl, hb5⟩; have S5 := Lib.hid (Ss_keep S3.out hb5); clear hb5; have k0 := S5.out.q.c0; have k1 := S5.out.q.c1))
      | (go_at_call 21; ((with_reducible refine (cv _ S5.out.b).mono ?_); clear cv k0 k1; rintro e W7 ⟨ao, c, rfl, hr7, hb7⟩; obtain ⟨b7, o7, rfl, c7⟩ := ri_at hr7 HI.out; have hrc7 := hr7.1; have hrm7 := hr7.2.1; unfold maxLen at hrm7; rw [preI_len] at hrc7; have S7 := Lib.hid (Ss_keep S5.out hb7); clear hr7 hb7; have k0 := S7.out.q.c0; have k1 := S7.out.q.c1))
      | (go_at_call 10; ((with_reducible refine (csp _ S7.out.b).mono ?_); clear csp k0 k1 c7; rintro e W8 ⟨a6, c6, rfl, hn8, hb8⟩; have S8 := Lib.hid (Ss_keep (Ss_keep S7.out hb8) (al1 (.cells #[.int .i64 0, .slice a6 Q.length c6] 24))); have N8 := Lib.hid (hn8.keep (al1 (.cells #[.int .i64 0, .slice a6 Q.length c6] 24))); have T8 := Lib.hid (Tq.new W8 0 a6 Q.length c6); have HQ6 := Lib.hid (Ss_keep S7.out hb8).q.lt; clear hn8 hb8; have k0 := S8.out.q.c0; have k1 := S8.out.q.c1; have e4 := kc S8.out.b HE.out))
      | fail)
    have U8 := Lib.hid (show S6 w t0 (some ⟨b, o, none⟩) cap0 N0 W8.heap.size a6 c6 Q (W8.alloc (.cells #[.int .i64 0, .slice a6 Q.length c6] 24)) from ⟨S8.out, T8.out, N8.out⟩)
    clear S8 T8 N8 k0 k1 e4
    have HQW := Lib.hid (show W8.heap.size < (W8.alloc (.cells #[.int .i64 0, .slice a6 Q.length c6] 24)).heap.size from U8.out.u.lt)
    generalize (World.alloc W8 _ : World) = WU at U8 HQW ⊢
    generalize W8.heap.size = q6 at U8 HQ6 HQW ⊢
    go_cut [9, 10] from 67 to 75 (fun v9 v10 wx => ∃ q9 : Nat, v9 = .pointer (some ⟨q9, 0, none⟩) ∧ v10 = .bool true ∧ WU.heap.size ≤ q9 ∧ wx.cell? ⟨q9, 0, none⟩ = some (.int .i64 (f : Int)) ∧ Below WU.heap.size WU wx)
    case first =>
      refine wp_region_held_drew (S := (fun W => W.cell? ⟨q6, 0, none⟩ = some (.int .i64 0) ∧ W.cell? ⟨q6, 1, none⟩ = some (.slice a6 Q.length c6) ∧ W.cell? ⟨pb, po, none⟩ = some (.int .i64 q.1) ∧ Below WU.heap.size WU W)) (by kernel_rfl) (by first | exact S6_conj2 U8.out HQ0.out (Below.refl _ _) | exact S6_conj2 U8.out HQ0.out ((Below.refl _ _).drew)) (fun hHeld => ?_)
      refine wpAnyH_take (i := 0) (v := ?_) rfl (by kernel_rfl) (by kernel_rfl) (by kernel_rfl) (fun _ _ _ h => h) (Or.inl ⟨by rfl, ?_⟩) hHeld ?_
      rotate_left
      · (intro wS hSw; (try dsimp only at hSw); (try go_split_ands); go_simp; try with_reducible rfl)
      try simp only [List.getElem_toArray, List.getElem_cons_succ, List.getElem_cons_zero, Act.put, List.setIfInBounds_toArray, List.set_cons_zero, List.set_cons_succ]
      refine wpAnyH_take (i := 1) (v := ?_) rfl (by kernel_rfl) (by kernel_rfl) (by kernel_rfl) (fun _ _ _ h => h) (Or.inl ⟨by rfl, ?_⟩) hHeld ?_
      rotate_left
      · (intro wS hSw; (try dsimp only at hSw); (try go_split_ands); go_simp; try with_reducible rfl)
      try simp only [List.getElem_toArray, List.getElem_cons_succ, List.getElem_cons_zero, Act.put, List.setIfInBounds_toArray, List.set_cons_zero, List.set_cons_succ]
      refine wpAnyH_take (i := 2) (v := ?_) rfl (by kernel_rfl) (by kernel_rfl) (by kernel_rfl) (fun _ _ _ h => h) (Or.inl ⟨by rfl, ?_⟩) hHeld ?_
      rotate_left
      · (intro wS hSw; (try dsimp only at hSw); (try go_split_ands); go_simp; try with_reducible rfl)
      try simp only [List.getElem_toArray, List.getElem_cons_succ, List.getElem_cons_zero, Act.put, List.setIfInBounds_toArray, List.set_cons_zero, List.set_cons_succ]
      refine wpAnyH_take (i := 3) (v := ?_) rfl (by kernel_rfl) (by kernel_rfl) (by kernel_rfl) (fun _ _ _ h => h) (Or.inl ⟨by rfl, ?_⟩) hHeld ?_
      rotate_left
      · (intro wS hSw; (try dsimp only at hSw); (try go_split_ands); go_simp; try with_reducible rfl)
      try simp only [List.getElem_toArray, List.getElem_cons_succ, List.getElem_cons_zero, Act.put, List.setIfInBounds_toArray, List.set_cons_zero, List.set_cons_succ]
      refine wpAnyH_take (i := 4) (v := ?_) rfl (by kernel_rfl) (by kernel_rfl) (by kernel_rfl) (fun _ _ _ h => h) (Or.inl ⟨by rfl, ?_⟩) hHeld ?_
      rotate_left
      · (intro wS hSw; (try dsimp only at hSw); (try go_split_ands); go_simp; try with_reducible rfl)
      try simp only [List.getElem_toArray, List.getElem_cons_succ, List.getElem_cons_zero, Act.put, List.setIfInBounds_toArray, List.set_cons_zero, List.set_cons_succ]
      refine wpAnyH_ready (rs := [5, 9]) (by kernel_rfl) (by simp) ?_
      refine AllReadyH.cons rfl (fun K hK => ?_) (AllReadyH.cons rfl (fun K hK => ?_) AllReadyH.nil)
      · skip
        go_simp
        (go_at_call 23; ((with_reducible refine (cf _ _ _ (S6_keep U8.out hHeld.2.2.2).m).mono ?_); rintro e X ⟨au, cu, ad, cd, rfl, -, -, hbX⟩))
        refine hK.out _ _ ?_ (fun hNext => ?_)
        · exact S6_conj2 U8.out HQ0.out (bel2 hHeld.2.2.2 hbX)
        have BXX := Lib.hid (bel2 hHeld.2.2.2 hbX)
        clear hbX
        clear hK K hHeld
        have hHeld := hNext
        clear hNext
        try simp only [List.getElem_toArray, List.getElem_cons_succ, List.getElem_cons_zero, Act.put, List.setIfInBounds_toArray, List.set_cons_zero, List.set_cons_succ]
        refine wpAnyH_take (i := 6) (v := ?_) rfl (by kernel_rfl) (by kernel_rfl) (by kernel_rfl) (fun _ _ _ h => h) (Or.inl ⟨by rfl, ?_⟩) hHeld ?_
        rotate_left
        · (intro wS hSw; (try dsimp only at hSw); (try go_split_ands); go_simp; try with_reducible rfl)
        try simp only [List.getElem_toArray, List.getElem_cons_succ, List.getElem_cons_zero, Act.put, List.setIfInBounds_toArray, List.set_cons_zero, List.set_cons_succ]
        refine wpAnyH_take (i := 7) (v := ?_) rfl (by kernel_rfl) (by kernel_rfl) (by kernel_rfl) (fun _ _ _ h => h) (Or.inl ⟨by rfl, ?_⟩) hHeld ?_
        rotate_left
        · (intro wS hSw; (try dsimp only at hSw); (try go_split_ands); go_simp; try with_reducible rfl)
        try simp only [List.getElem_toArray, List.getElem_cons_succ, List.getElem_cons_zero, Act.put, List.setIfInBounds_toArray, List.set_cons_zero, List.set_cons_succ]
        refine wpAnyH_take (i := 8) (v := ?_) rfl (by kernel_rfl) (by kernel_rfl) (by kernel_rfl) (fun _ _ _ h => h) (Or.inl ⟨by rfl, ?_⟩) hHeld ?_
        rotate_left
        · (intro wS hSw; (try dsimp only at hSw); (try go_split_ands); go_simp; try with_reducible rfl)
        try simp only [List.getElem_toArray, List.getElem_cons_succ, List.getElem_cons_zero, Act.put, List.setIfInBounds_toArray, List.set_cons_zero, List.set_cons_succ]
        refine wpAnyH_ready (rs := [9]) (by kernel_rfl) (by simp) ?_
        refine AllReadyH.cons rfl (fun K hK => ?_) AllReadyH.nil
        go_simp
        refine hK.out _ _ ?_ (fun hNext => ?_)
        · exact S6_conj2 U8.out HQ0.out (bel1 hHeld.2.2.2 _)
        have QL := Lib.hid (show WU.heap.size ≤ X.heap.size from BXX.out.size)
        clear hK K hHeld
        have hHeld := hNext
        clear hNext
        try simp only [List.getElem_toArray, List.getElem_cons_succ, List.getElem_cons_zero, Act.put, List.setIfInBounds_toArray, List.set_cons_zero, List.set_cons_succ]
        refine wpAnyH_ready (rs := [10]) (by kernel_rfl) (by simp) ?_
        refine AllReadyH.cons rfl (fun K hK => ?_) AllReadyH.nil
        go_simp
        refine hK.out _ _ ?_ (fun hNext => ?_)
        · exact S6_conj2 U8.out HQ0.out (bel1 BXX.out _)
        have FC := Lib.hid (show (X.alloc (.cells #[.int .i64 (f : Int), .slice au d.u.length cu, .slice ad d.u.length cd] 50)).cell? ⟨X.heap.size, 0, none⟩ = some (.int .i64 (f : Int)) from World.cell?_alloc_new _ _ _ _)
        clear hK K hHeld
        have hHeld := hNext
        clear hNext
        try simp only [List.getElem_toArray, List.getElem_cons_succ, List.getElem_cons_zero, Act.put, List.setIfInBounds_toArray, List.set_cons_zero, List.set_cons_succ]
        refine wpAnyH_take (i := 11) (v := ?_) rfl (by kernel_rfl) (by kernel_rfl) (by kernel_rfl) (fun _ _ _ h => h) (Or.inl ⟨by rfl, ?_⟩) hHeld ?_
        rotate_left
        · (intro wS hSw; (try dsimp only at hSw); (try go_split_ands); go_simp; try with_reducible rfl)
        try simp only [List.getElem_toArray, List.getElem_cons_succ, List.getElem_cons_zero, Act.put, List.setIfInBounds_toArray, List.set_cons_zero, List.set_cons_succ]
        refine wpAnyH_done (by kernel_rfl) ?_ _
        have HF := Lib.hid hHeld.2.2.2
        clear hHeld
        go_wp2_with (fail)
        go_meet
        case rel => exact ⟨X.heap.size, rfl, rfl, QL.out, FC.out, HF.out⟩
      · skip
        go_simp
        refine hK.out _ _ ?_ (fun hNext => ?_)
        · exact S6_conj2 U8.out HQ0.out (bel1 hHeld.2.2.2 _)
        have BX := Lib.hid ((Bk.new WU #[.int .i64 0, .slice none 0 0, .slice none 0 0] 50).drew)
        have QL := Lib.hid (Nat.le_refl WU.heap.size)
        clear hK K hHeld
        have hHeld := hNext
        clear hNext
        try simp only [List.getElem_toArray, List.getElem_cons_succ, List.getElem_cons_zero, Act.put, List.setIfInBounds_toArray, List.set_cons_zero, List.set_cons_succ]
        refine wpAnyH_ready (rs := [5]) (by kernel_rfl) (by simp) ?_
        refine AllReadyH.cons rfl (fun K hK => ?_) AllReadyH.nil
        go_simp
        (go_at_call 23; ((with_reducible refine (cf _ _ _ (S6_keep U8.out hHeld.2.2.2).m).mono ?_); rintro e X ⟨au, cu, ad, cd, rfl, -, -, hbX⟩))
        refine hK.out _ _ ?_ (fun hNext => ?_)
        · exact S6_conj2 U8.out HQ0.out (bel2 hHeld.2.2.2 hbX)
        have BZ := Lib.hid (BX.out.keep hbX)
        have BXX := Lib.hid (bel2 hHeld.2.2.2 hbX)
        clear hbX
        have z0 := BZ.out.at_ 0 _ rfl
        have z1 := BZ.out.at_ 1 _ rfl
        have z2 := BZ.out.at_ 2 _ rfl
        have fz := BZ.out.fr
        clear hK K hHeld
        have hHeld := hNext
        clear hNext
        try simp only [List.getElem_toArray, List.getElem_cons_succ, List.getElem_cons_zero, Act.put, List.setIfInBounds_toArray, List.set_cons_zero, List.set_cons_succ]
        refine wpAnyH_take (i := 6) (v := ?_) rfl (by kernel_rfl) (by kernel_rfl) (by kernel_rfl) (fun _ _ _ h => h) (Or.inl ⟨by rfl, ?_⟩) hHeld ?_
        rotate_left
        · (intro wS hSw; (try dsimp only at hSw); (try go_split_ands); go_simp; try with_reducible rfl)
        try simp only [List.getElem_toArray, List.getElem_cons_succ, List.getElem_cons_zero, Act.put, List.setIfInBounds_toArray, List.set_cons_zero, List.set_cons_succ]
        refine wpAnyH_take (i := 7) (v := ?_) rfl (by kernel_rfl) (by kernel_rfl) (by kernel_rfl) (fun _ _ _ h => h) (Or.inl ⟨by rfl, ?_⟩) hHeld ?_
        rotate_left
        · (intro wS hSw; (try dsimp only at hSw); (try go_split_ands); go_simp; try with_reducible rfl)
        try simp only [List.getElem_toArray, List.getElem_cons_succ, List.getElem_cons_zero, Act.put, List.setIfInBounds_toArray, List.set_cons_zero, List.set_cons_succ]
        refine wpAnyH_take (i := 8) (v := ?_) rfl (by kernel_rfl) (by kernel_rfl) (by kernel_rfl) (fun _ _ _ h => h) (Or.inl ⟨by rfl, ?_⟩) hHeld ?_
        rotate_left
        · (intro wS hSw; (try dsimp only at hSw); (try go_split_ands); go_simp; try with_reducible rfl)
        try simp only [List.getElem_toArray, List.getElem_cons_succ, List.getElem_cons_zero, Act.put, List.setIfInBounds_toArray, List.set_cons_zero, List.set_cons_succ]
        refine wpAnyH_ready (rs := [10]) (by kernel_rfl) (by simp) ?_
        refine AllReadyH.cons rfl (fun K hK => ?_) AllReadyH.nil
        go_simp
        refine hK.out _ _ ?_ (fun hNext => ?_)
        · exact S6_conj2 U8.out HQ0.out (((BXX.out.setCell (Nat.le_refl _) _).setCell (Nat.le_refl _) _).setCell (Nat.le_refl _) _)
        have FC := Lib.hid (show (((X.setCell ⟨WU.heap.size, 0, none⟩ (.int .i64 (f : Int))).setCell ⟨WU.heap.size, 1, none⟩ (.slice au d.u.length cu)).setCell ⟨WU.heap.size, 2, none⟩ (.slice ad d.u.length cd)).cell? ⟨WU.heap.size, 0, none⟩ = some (.int .i64 (f : Int)) from setO (setO (setS z0) (.inr (by decide))) (.inr (by decide)))
        clear z0 z1 z2 fz
        clear hK K hHeld
        have hHeld := hNext
        clear hNext
        try simp only [List.getElem_toArray, List.getElem_cons_succ, List.getElem_cons_zero, Act.put, List.setIfInBounds_toArray, List.set_cons_zero, List.set_cons_succ]
        refine wpAnyH_take (i := 11) (v := ?_) rfl (by kernel_rfl) (by kernel_rfl) (by kernel_rfl) (fun _ _ _ h => h) (Or.inl ⟨by rfl, ?_⟩) hHeld ?_
        rotate_left
        · (intro wS hSw; (try dsimp only at hSw); (try go_split_ands); go_simp; try with_reducible rfl)
        try simp only [List.getElem_toArray, List.getElem_cons_succ, List.getElem_cons_zero, Act.put, List.setIfInBounds_toArray, List.set_cons_zero, List.set_cons_succ]
        refine wpAnyH_done (by kernel_rfl) ?_ _
        have HF := Lib.hid hHeld.2.2.2
        clear hHeld
        go_wp2_with (fail)
        go_meet
        case rel => exact ⟨WU.heap.size, rfl, rfl, QL.out, FC.out, HF.out⟩
    case rest =>
      obtain ⟨q9, rfl, rfl, hq9, c9, hb9⟩ := hcut
      have U9 := Lib.hid (S6_keep U8.out hb9)
      have k0 := U9.out.u.c0
      have k1 := U9.out.u.c1
      clear hb9
      go_upto_region 15 with (first
        | (go_at_call 12; ((with_reducible refine (cj _ _ _ U9.out.m).mono ?_); clear cj k0 k1 c9; rintro e X11 ⟨aV, cV, rfl, hnV, hb11⟩; have S11 := Lib.hid (Ss_keep (Ss_keep U9.out.s hb11) (al1 (.cells #[.int .i64 0, .slice aV V.length cV] 24))); have NV := Lib.hid (hnV.keep (al1 (.cells #[.int .i64 0, .slice aV V.length cV] 24))); have TV := Lib.hid (Tq.new X11 0 aV V.length cV); clear hnV hb11; have k0 := S11.out.q.c0; have k1 := S11.out.q.c1))
        | (go_at_call 24; ((with_reducible refine (cse _ S11.out.b).mono ?_); clear cse k0 k1; rintro e X12 ⟨aW, cW, rfl, hnW, hb12⟩; have S12 := Lib.hid (Ss_keep (Ss_keep S11.out hb12) (al1 (.cells #[.int .i64 t0, .slice aW N0.length cW] 24))); have NV2 := Lib.hid ((NV.out.keep hb12).keep (al1 (.cells #[.int .i64 t0, .slice aW N0.length cW] 24))); have TV2 := Lib.hid ((TV.out.keep hb12).keep (al1 (.cells #[.int .i64 t0, .slice aW N0.length cW] 24))); have NW := Lib.hid (hnW.keep (al1 (.cells #[.int .i64 t0, .slice aW N0.length cW] 24))); clear hnW hb12; have v0 := TV2.out.c0; have v1 := TV2.out.c1))
        | (go_at_call 25; ((with_reducible refine (csm _ _ _ _ _ NV2.out NW.out).mono ?_); clear csm v0 v1; rintro e X13 ⟨rfl, hb13⟩; have S9 := Lib.hid (Ss_keep S12.out hb13); clear hb13))
        | fail)
      have k0 := S9.out.q.c0
      have k1 := S9.out.q.c1
      go_wp2_with (first
        | (go_at_call 20; ((with_reducible refine (cal _ S9.out.b).mono ?_); clear cal k0 k1; rintro e W20 ⟨aw, cw, rfl, hp20, hb20⟩; have K20 := Lib.hid (show Kp w A aw cw W20 t0 (some ⟨b, o, none⟩) cap0 N0 from ⟨S9.out.q.keep hb20, HN.out.keep (bel2 S9.out.b hb20), hp20.prs rfl, bel2 S9.out.b hb20⟩); clear hp20 hb20))
        | fail)
      go_loopw [108] (fun z wr => ∃ (n : Nat) (t : Int) (a : Option Addr) (cap : Nat) (N : List Nd) (s2 : Sh), n ≤ 400 ∧ z = .int .i64 n ∧ Kp w A aw cw wr t a cap N ∧ Gd A (450 + 2 * n) t N s2 ∧ s2.lvs.length + n = s.lvs.length) (fun z _ => 400 - (intOf z).toNat)
      case atStart => exact ⟨0, t0, (some ⟨b, o, none⟩), cap0, N0, s, Nat.zero_le _, rfl, K20.out, G0.out, rfl⟩
      case round =>
        obtain ⟨n, t, a, cap, N, s2, hn, rfl, hK, hG, hc⟩ := hrel
        have HK := Lib.hid hK
        have HG := Lib.hid hG
        have HC := Lib.hid hc
        have hv2 := lvs_pos s2
        have hn4 : n < 400 := by have := HNL.out.1; have := HNL.out.2; omega
        have hn4i : (n : Int) < 400 := by omega
        have hsm := hG.small
        have hNn : N.length + 1 = 2 * s2.lvs.length := by have h := AT.sz_nl (ab N s2); rw [ab_sz, ab_nl, hG.t.all] at h; exact h
        have cv := fun W (h : Ns W a cap N) => tleaves_yes t a cap N W h hsm s2 hG.t
        have cal2 := fun W (h : Ns W a cap N) => tall_gen t a cap N W h hsm s2.lvs (lvO_lt (.inl ⟨s2, hG.t, rfl⟩)) (fun W hW => tleaves_yes t a cap N W hW hsm s2 hG.t)
        have csa := fun W (ax : Option Addr) (cx : Nat) (h : Prs W ax cx A) (h2 : Prs W aw cw A) => samep_any ax aw cx cw A A W h h2 true (by simp)
        unfold LvIs at cv
        unfold RowIs at cal2
        rw [hG.a] at cal2
        unfold trv at cv cal2
        have k0 := hK.q.c0
        have k1 := hK.q.c1
        by_cases h1 : s2.lvs.length = 1
        · have hN1 : N.length = 1 := by omega
          have hz1 : ((s2.lvs.length : Int) == 1) = true := by rw [h1]; rfl
          have hz2 : ((N.length : Int) == 1) = true := by rw [hN1]; rfl
          clear hK hG hc hsm h1 hN1 hNn
          go_wp2_with (first
            | (go_at_call 21; ((with_reducible refine (cv _ HK.out.n).mono ?_); clear cv k0 k1; rintro e W21 ⟨ao, c, rfl, -, hb21⟩; have K21 := Lib.hid (HK.out.keep hb21); clear hb21; have k0 := K21.out.q.c0; have k1 := K21.out.q.c1))
            | (go_at_call 20; ((with_reducible refine (cal2 _ K21.out.n).mono ?_); clear cal2 k0 k1; rintro e W22 ⟨ax, cx, rfl, hp22, hb22⟩; have K22 := Lib.hid (K21.out.keep hb22); have P22 := Lib.hid (hp22.prs rfl); clear hp22 hb22))
            | (go_at_call 22; ((with_reducible refine (csa _ _ _ P22.out K22.out.p).mono ?_); clear csa; rintro e W23 ⟨rfl, hb23⟩; have K23 := Lib.hid (K22.out.keep hb23); clear hb23))
            | (go_at_call 9; ((with_reducible refine (caw _).mono ?_); clear caw; rintro e W24 ⟨rfl, hb24⟩; have HB24 := Lib.hid (bel2 K23.out.b hb24); clear hb24))
            | fail)
          go_ret
          exact ⟨rfl, HB24.out⟩
        · have hz1 : ((s2.lvs.length : Int) == 1) = false := beq_eq_false_iff_ne.2 (by omega)
          obtain ⟨m, hm⟩ : ∃ m, s2.lvs.length / 2 = m := ⟨_, rfl⟩
          have hdiv : ((s2.lvs.length : Nat) : Int).tdiv 2 = (m : Int) := by rw [Int.tdiv_eq_ediv_of_nonneg (by omega), ← hm]; rfl
          have hml : m < s2.lvs.length := by omega
          have hwm : IntKind.i64.wrap (m : Int) = (m : Int) := by rw [IntKind.wrap_i64]; have := HNL.out.1; have := HNL.out.2; omega
          have hmi0 : (0 : Int) ≤ (m : Int) := by omega
          have hmi1 : (m : Int) < (s2.lvs.length : Int) := by omega
          obtain ⟨j, hj⟩ : ∃ j, s2.lvs[m]? = some j := ⟨_, List.getElem?_eq_getElem hml⟩
          have hjm := List.mem_of_getElem? hj
          have hAt2 : LfAt N t (j : Int) s2 j := ⟨hG.t, rfl, hjm⟩
          obtain ⟨T, hT1, _⟩ := joinA_is hG.t.hg hjm ((lvs_one hjm).2 (by omega))
          have hJo : JoiO N t (j : Int) true (T.lay 0) := .inl ⟨rfl, s2, j, T, hAt2, (lvs_one hjm).2 (by omega), hT1, rfl⟩
          obtain ⟨Q2, hQ2⟩ : ∃ q, T.lay 0 = q := ⟨_, rfl⟩
          rw [hQ2] at hJo
          have cjo := fun W (h : Ns W a cap N) => join_any t a cap N (j : Int) W h hsm (fun s3 h3 => by
            have e := h3.uniq hG.t
            subst e
            rw [hG.a]; have := hG.k; omega) true Q2 hJo
          unfold trv PlB at cjo
          have HJO := Lib.hid hJo
          have HJ := Lib.hid hj
          clear hK hG hc hsm hNn hm hj hjm hAt2 hT1 hJo hQ2 cal2 csa h1
          go_upto_region 20 with (go_at_call 21; ((with_reducible refine (cv _ HK.out.n).mono ?_); clear cv k0 k1; rintro e W21 ⟨ao, c, rfl, hr21, hb21⟩; obtain ⟨b7, o7, rfl, c7'⟩ := ri_at hr21 HJ.out; have C21 := Lib.hid c7'; clear c7'; have hrc2 := hr21.1; have hrm2 := hr21.2.1; unfold maxLen at hrm2; rw [preI_len] at hrc2; have K21 := Lib.hid (HK.out.keep hb21); clear hr21 hb21))
          go_cut [17, 18] from 115 to 125 (fun v17 v18 wx => ∃ (q17 : Nat) (a9 : Option Addr) (c9 : Nat), v17 = .pointer (some ⟨q17, 0, none⟩) ∧ v18 = .bool true ∧ Kq w A aw cw wx t a cap N q17 a9 c9 Q2)
          case first =>
            refine wp_region_held_drew (S := (fun W => W.cell? ⟨w.heap.size, 0, none⟩ = some (.int .i64 t) ∧ W.cell? ⟨w.heap.size, 1, none⟩ = some (.slice a N.length cap) ∧ W.cell? ⟨b7, o7 + m, none⟩ = some (.int .i64 (j : Int)) ∧ Below W21.heap.size W21 W)) (by kernel_rfl) (by first | exact Kp_conj K21.out C21.out (Below.refl _ _) | exact Kp_conj K21.out C21.out ((Below.refl _ _).drew)) (fun hHeld => ?_)
            refine wpAnyH_take (i := 0) (v := ?_) rfl (by kernel_rfl) (by kernel_rfl) (by kernel_rfl) (fun _ _ _ h => h) (Or.inl ⟨by rfl, ?_⟩) hHeld ?_
            rotate_left
            · (intro wS hSw; (try dsimp only at hSw); (try go_split_ands); go_simp; try with_reducible rfl)
            try simp only [List.getElem_toArray, List.getElem_cons_succ, List.getElem_cons_zero, Act.put, List.setIfInBounds_toArray, List.set_cons_zero, List.set_cons_succ]
            refine wpAnyH_take (i := 1) (v := ?_) rfl (by kernel_rfl) (by kernel_rfl) (by kernel_rfl) (fun _ _ _ h => h) (Or.inl ⟨by rfl, ?_⟩) hHeld ?_
            rotate_left
            · (intro wS hSw; (try dsimp only at hSw); (try go_split_ands); go_simp; try with_reducible rfl)
            try simp only [List.getElem_toArray, List.getElem_cons_succ, List.getElem_cons_zero, Act.put, List.setIfInBounds_toArray, List.set_cons_zero, List.set_cons_succ]
            refine wpAnyH_take (i := 2) (v := ?_) rfl (by kernel_rfl) (by kernel_rfl) (by kernel_rfl) (fun _ _ _ h => h) (Or.inl ⟨by rfl, ?_⟩) hHeld ?_
            rotate_left
            · (intro wS hSw; (try dsimp only at hSw); (try go_split_ands); go_simp; try with_reducible rfl)
            try simp only [List.getElem_toArray, List.getElem_cons_succ, List.getElem_cons_zero, Act.put, List.setIfInBounds_toArray, List.set_cons_zero, List.set_cons_succ]
            refine wpAnyH_take (i := 3) (v := ?_) rfl (by kernel_rfl) (by kernel_rfl) (by kernel_rfl) (fun _ _ _ h => h) (Or.inl ⟨by rfl, ?_⟩) hHeld ?_
            rotate_left
            · (intro wS hSw; (try dsimp only at hSw); (try go_split_ands); go_simp; try with_reducible rfl)
            try simp only [List.getElem_toArray, List.getElem_cons_succ, List.getElem_cons_zero, Act.put, List.setIfInBounds_toArray, List.set_cons_zero, List.set_cons_succ]
            refine wpAnyH_take (i := 4) (v := ?_) rfl (by kernel_rfl) (by kernel_rfl) (by kernel_rfl) (fun _ _ _ h => h) (Or.inl ⟨by rfl, ?_⟩) hHeld ?_
            rotate_left
            · (intro wS hSw; (try dsimp only at hSw); (try go_split_ands); go_simp; try with_reducible rfl)
            try simp only [List.getElem_toArray, List.getElem_cons_succ, List.getElem_cons_zero, Act.put, List.setIfInBounds_toArray, List.set_cons_zero, List.set_cons_succ]
            refine wpAnyH_take (i := 5) (v := ?_) rfl (by kernel_rfl) (by kernel_rfl) (by kernel_rfl) (fun _ _ _ h => h) (Or.inl ⟨by rfl, ?_⟩) hHeld ?_
            rotate_left
            · (intro wS hSw; (try dsimp only at hSw); (try go_split_ands); go_simp; try with_reducible rfl)
            try simp only [List.getElem_toArray, List.getElem_cons_succ, List.getElem_cons_zero, Act.put, List.setIfInBounds_toArray, List.set_cons_zero, List.set_cons_succ]
            refine wpAnyH_take (i := 6) (v := ?_) rfl (by kernel_rfl) (by kernel_rfl) (by kernel_rfl) (fun _ _ _ h => h) (Or.inl ⟨by rfl, ?_⟩) hHeld ?_
            rotate_left
            · (intro wS hSw; (try dsimp only at hSw); (try go_split_ands); go_simp; try with_reducible rfl)
            try simp only [List.getElem_toArray, List.getElem_cons_succ, List.getElem_cons_zero, Act.put, List.setIfInBounds_toArray, List.set_cons_zero, List.set_cons_succ]
            refine wpAnyH_ready (rs := [7, 11]) (by kernel_rfl) (by simp) ?_
            refine AllReadyH.cons rfl (fun K hK => ?_) (AllReadyH.cons rfl (fun K hK => ?_) AllReadyH.nil)
            · skip
              go_simp
              (go_at_call 12; ((with_reducible refine (cjo _ (K21.out.keep hHeld.2.2.2).n).mono ?_); rintro e X ⟨a9, c9, rfl, hnX, hbX⟩))
              refine hK.out _ _ ?_ (fun hNext => ?_)
              · exact Kp_conj K21.out C21.out (bel2 hHeld.2.2.2 hbX)
              have BXX := Lib.hid (bel2 hHeld.2.2.2 hbX)
              have NX := Lib.hid hnX
              clear hbX hnX
              clear hK K hHeld
              have hHeld := hNext
              clear hNext
              try simp only [List.getElem_toArray, List.getElem_cons_succ, List.getElem_cons_zero, Act.put, List.setIfInBounds_toArray, List.set_cons_zero, List.set_cons_succ]
              refine wpAnyH_take (i := 8) (v := ?_) rfl (by kernel_rfl) (by kernel_rfl) (by kernel_rfl) (fun _ _ _ h => h) (Or.inl ⟨by rfl, ?_⟩) hHeld ?_
              rotate_left
              · (intro wS hSw; (try dsimp only at hSw); (try go_split_ands); go_simp; try with_reducible rfl)
              try simp only [List.getElem_toArray, List.getElem_cons_succ, List.getElem_cons_zero, Act.put, List.setIfInBounds_toArray, List.set_cons_zero, List.set_cons_succ]
              refine wpAnyH_take (i := 9) (v := ?_) rfl (by kernel_rfl) (by kernel_rfl) (by kernel_rfl) (fun _ _ _ h => h) (Or.inl ⟨by rfl, ?_⟩) hHeld ?_
              rotate_left
              · (intro wS hSw; (try dsimp only at hSw); (try go_split_ands); go_simp; try with_reducible rfl)
              try simp only [List.getElem_toArray, List.getElem_cons_succ, List.getElem_cons_zero, Act.put, List.setIfInBounds_toArray, List.set_cons_zero, List.set_cons_succ]
              refine wpAnyH_take (i := 10) (v := ?_) rfl (by kernel_rfl) (by kernel_rfl) (by kernel_rfl) (fun _ _ _ h => h) (Or.inl ⟨by rfl, ?_⟩) hHeld ?_
              rotate_left
              · (intro wS hSw; (try dsimp only at hSw); (try go_split_ands); go_simp; try with_reducible rfl)
              try simp only [List.getElem_toArray, List.getElem_cons_succ, List.getElem_cons_zero, Act.put, List.setIfInBounds_toArray, List.set_cons_zero, List.set_cons_succ]
              refine wpAnyH_ready (rs := [11]) (by kernel_rfl) (by simp) ?_
              refine AllReadyH.cons rfl (fun K hK => ?_) AllReadyH.nil
              go_simp
              refine hK.out _ _ ?_ (fun hNext => ?_)
              · exact Kp_conj K21.out C21.out (bel1 hHeld.2.2.2 _)
              clear hK K hHeld
              have hHeld := hNext
              clear hNext
              try simp only [List.getElem_toArray, List.getElem_cons_succ, List.getElem_cons_zero, Act.put, List.setIfInBounds_toArray, List.set_cons_zero, List.set_cons_succ]
              refine wpAnyH_ready (rs := [12]) (by kernel_rfl) (by simp) ?_
              refine AllReadyH.cons rfl (fun K hK => ?_) AllReadyH.nil
              go_simp
              refine hK.out _ _ ?_ (fun hNext => ?_)
              · exact Kp_conj K21.out C21.out (bel1 BXX.out _)
              have FQ := Lib.hid (show Kq w A aw cw (X.alloc (.cells #[.int .i64 0, .slice a9 Q2.length c9] 24)) t a cap N X.heap.size a9 c9 Q2 from ⟨(K21.out.keep BXX.out).keep (al1 _), Tq.new X 0 a9 Q2.length c9, NX.out.keep (al1 _)⟩)
              clear hK K hHeld
              have hHeld := hNext
              clear hNext
              try simp only [List.getElem_toArray, List.getElem_cons_succ, List.getElem_cons_zero, Act.put, List.setIfInBounds_toArray, List.set_cons_zero, List.set_cons_succ]
              refine wpAnyH_take (i := 13) (v := ?_) rfl (by kernel_rfl) (by kernel_rfl) (by kernel_rfl) (fun _ _ _ h => h) (Or.inl ⟨by rfl, ?_⟩) hHeld ?_
              rotate_left
              · (intro wS hSw; (try dsimp only at hSw); (try go_split_ands); go_simp; try with_reducible rfl)
              try simp only [List.getElem_toArray, List.getElem_cons_succ, List.getElem_cons_zero, Act.put, List.setIfInBounds_toArray, List.set_cons_zero, List.set_cons_succ]
              refine wpAnyH_done (by kernel_rfl) ?_ _
              clear hHeld
              go_wp2_with (fail)
              go_meet
              case rel => exact ⟨X.heap.size, a9, c9, rfl, rfl, FQ.out⟩
            · skip
              go_simp
              refine hK.out _ _ ?_ (fun hNext => ?_)
              · exact Kp_conj K21.out C21.out (bel1 hHeld.2.2.2 _)
              have BX := Lib.hid (show Rq (W21.alloc (.cells #[.int .i64 0, .slice none 0 0] 24)).drew W21.heap.size from Rq.new W21)
              clear hK K hHeld
              have hHeld := hNext
              clear hNext
              try simp only [List.getElem_toArray, List.getElem_cons_succ, List.getElem_cons_zero, Act.put, List.setIfInBounds_toArray, List.set_cons_zero, List.set_cons_succ]
              refine wpAnyH_ready (rs := [7]) (by kernel_rfl) (by simp) ?_
              refine AllReadyH.cons rfl (fun K hK => ?_) AllReadyH.nil
              go_simp
              (go_at_call 12; ((with_reducible refine (cjo _ (K21.out.keep hHeld.2.2.2).n).mono ?_); rintro e X ⟨a9, c9, rfl, hnX, hbX⟩))
              refine hK.out _ _ ?_ (fun hNext => ?_)
              · exact Kp_conj K21.out C21.out (bel2 hHeld.2.2.2 hbX)
              have BZ := Lib.hid (BX.out.keep hbX)
              have BXX := Lib.hid (bel2 hHeld.2.2.2 hbX)
              have NX := Lib.hid hnX
              clear hbX hnX
              have z0 := BZ.out.c0
              have z1 := BZ.out.c1
              have fz := BZ.out.fr
              clear hK K hHeld
              have hHeld := hNext
              clear hNext
              try simp only [List.getElem_toArray, List.getElem_cons_succ, List.getElem_cons_zero, Act.put, List.setIfInBounds_toArray, List.set_cons_zero, List.set_cons_succ]
              refine wpAnyH_take (i := 8) (v := ?_) rfl (by kernel_rfl) (by kernel_rfl) (by kernel_rfl) (fun _ _ _ h => h) (Or.inl ⟨by rfl, ?_⟩) hHeld ?_
              rotate_left
              · (intro wS hSw; (try dsimp only at hSw); (try go_split_ands); go_simp; try with_reducible rfl)
              try simp only [List.getElem_toArray, List.getElem_cons_succ, List.getElem_cons_zero, Act.put, List.setIfInBounds_toArray, List.set_cons_zero, List.set_cons_succ]
              refine wpAnyH_take (i := 9) (v := ?_) rfl (by kernel_rfl) (by kernel_rfl) (by kernel_rfl) (fun _ _ _ h => h) (Or.inl ⟨by rfl, ?_⟩) hHeld ?_
              rotate_left
              · (intro wS hSw; (try dsimp only at hSw); (try go_split_ands); go_simp; try with_reducible rfl)
              try simp only [List.getElem_toArray, List.getElem_cons_succ, List.getElem_cons_zero, Act.put, List.setIfInBounds_toArray, List.set_cons_zero, List.set_cons_succ]
              refine wpAnyH_take (i := 10) (v := ?_) rfl (by kernel_rfl) (by kernel_rfl) (by kernel_rfl) (fun _ _ _ h => h) (Or.inl ⟨by rfl, ?_⟩) hHeld ?_
              rotate_left
              · (intro wS hSw; (try dsimp only at hSw); (try go_split_ands); go_simp; try with_reducible rfl)
              try simp only [List.getElem_toArray, List.getElem_cons_succ, List.getElem_cons_zero, Act.put, List.setIfInBounds_toArray, List.set_cons_zero, List.set_cons_succ]
              refine wpAnyH_ready (rs := [12]) (by kernel_rfl) (by simp) ?_
              refine AllReadyH.cons rfl (fun K hK => ?_) AllReadyH.nil
              go_simp
              refine hK.out _ _ ?_ (fun hNext => ?_)
              · exact Kp_conj K21.out C21.out ((BXX.out.setCell (Nat.le_refl _) _).setCell (Nat.le_refl _) _)
              have FQ := Lib.hid (Kq.new (K21.out.keep BXX.out) BZ.out K21.out.q.lt NX.out)
              clear z0 z1 fz
              clear hK K hHeld
              have hHeld := hNext
              clear hNext
              try simp only [List.getElem_toArray, List.getElem_cons_succ, List.getElem_cons_zero, Act.put, List.setIfInBounds_toArray, List.set_cons_zero, List.set_cons_succ]
              refine wpAnyH_take (i := 13) (v := ?_) rfl (by kernel_rfl) (by kernel_rfl) (by kernel_rfl) (fun _ _ _ h => h) (Or.inl ⟨by rfl, ?_⟩) hHeld ?_
              rotate_left
              · (intro wS hSw; (try dsimp only at hSw); (try go_split_ands); go_simp; try with_reducible rfl)
              try simp only [List.getElem_toArray, List.getElem_cons_succ, List.getElem_cons_zero, Act.put, List.setIfInBounds_toArray, List.set_cons_zero, List.set_cons_succ]
              refine wpAnyH_done (by kernel_rfl) ?_ _
              clear hHeld
              go_wp2_with (fail)
              go_meet
              case rel => exact ⟨W21.heap.size, a9, c9, rfl, rfl, FQ.out⟩
          case rest =>
            obtain ⟨q17, a9, c9, rfl, rfl, hKq⟩ := hcut
            have ZZ := Lib.hid hKq
            obtain ⟨s3, hG3, hl3⟩ := HG.out.join HJO.out
            have HG3 := Lib.hid (And.intro hG3 hl3)
            have k0 := hKq.z.c0
            have k1 := hKq.z.c1
            have t0' := hKq.k.q.c0
            have t1' := hKq.k.q.c1
            have tf0 := hKq.k.q.fr 0
            have tf1 := hKq.k.q.fr 1
            clear hKq hG3 hl3
            go_wp2_with (fail)
            go_roundw
            case rel => exact ⟨n + 1, 0, a9, c9, Q2, s3, by omega, by go_num, ZZ.out.k.move ZZ.out.m rfl, HG3.out.1, by have := HG3.out.2; have := HC.out; omega⟩
            case measure => simp [intOf]; omega

theorem walk (t0 : Int) (a0 : Option Addr) (cap0 : Nat) (N0 : List Nd) (a1 : Int) (w : World) (w0 : Ns w a0 cap0 N0) (s0 : Mid N0) (w1 : (Lit.int .i64 a1).wf = true) :
    Calls Try.prog 5 #[.agg #[.int .i64 t0, .slice a0 N0.length cap0], .int .i64 a1] w fun e w' => e = .returned (.bool true) ∧ Below w.heap.size w w' := by
  by_cases hL : Lgt N0
  · rcases Classical.em (∃ s, Tr N0 s t0) with ⟨s, hs⟩ | hs
    · exact walk_yes t0 a0 cap0 N0 w w0 s0 a1 hL s hs
    · exact walk_no t0 a0 cap0 N0 w w0 s0 a1 hL (fun s h => hs ⟨s, h⟩)
  · exact walk_big t0 a0 cap0 N0 w w0 s0 a1 hL

set_option maxRecDepth 100000 in
theorem lifted (os : Os) (started : os.Started) (H : Type) (enc : TypeId × Value → H) :
    ReturnsInHanded {} Try.checked os 5 .any (Rows.adaptBackSpec.pre6 enc Try.prog Try.f5 Rows.adaptBackRow.domain false) (Rows.adaptBackSpec.post enc Try.prog Try.f5 false true false false) := by
  refine returnsInHanded_of_change_sized (C := Try.checked) own started (by kernel_rfl) Try.func5
    (ChangeSpec.witness6 (enc := enc) (C := Try.checked) false ⟨#[], #[.agg #[.int .i64 0, .slice none 0 0], .int .i64 0], []⟩ 8 (by kernel_rfl) (by kernel_rfl) (by kernel_rfl) (by kernel_rfl)) ?_
  intro W base args ds gs before hval0 hW hcnd hsz _
  have hval : ∀ (j : Nat) t v, Try.f5.params[j]? = some t → args[j]? = some v → Value.okWide Try.prog W .any base t v := hval0
  have hW' := hW
  obtain ⟨p, q, hA0, hV, rfl, hfz, hnd⟩ := hW
  have hA : DataW.TrodAll enc Try.prog W 0 (fun _ => true) true Try.f5.params.toList args.toList ds p := hA0
  rw [Try.params5] at hA hval
  obtain ⟨v0, vs0, d0, ds0, p0, q0, hargs, rfl, rfl, h0, r0⟩ := trodAll_cons hA
  obtain ⟨v1, vs1, d1, ds1, p1, q1, rfl, rfl, rfl, h1, r1⟩ := trodAll_cons r0
  obtain ⟨rfl, rfl, rfl⟩ := trodAll_nil r1
  obtain rfl : args = #[v0, v1] := by cases args; simp_all
  obtain ⟨rfl, rfl⟩ := trodVars_none hV
  have k0 := h0
  have lt0 : ∀ x ∈ p0, x.block < W.heap.size := by obtain ⟨m, hm⟩ := k0; exact DataW.trod_lt m _ _ _ hm
  obtain ⟨u0, rfl, _⟩ := okWide_struct Try.underlying24 (hval 0 24 v0 rfl rfl)
  obtain ⟨t0_, a0, cap0, N0, e0, w0, s0⟩ := fields_tree (enc := enc) (w := W) (cs := u0.toList) (fuel := h0.choose) (by simpa [Value.cells] using h0.choose_spec) (fun n hn => by simpa using List.all_eq_true.1 hsz n (DataW.weights_mem_each (j := 0) rfl rfl n hn))
  obtain rfl : u0 = #[.int .i64 t0_, .slice a0 N0.length cap0] := by cases u0; simp_all
  have k1 := h1
  have lt1 : ∀ x ∈ p1, x.block < W.heap.size := by obtain ⟨m, hm⟩ := k1; exact DataW.trod_lt m _ _ _ hm
  obtain ⟨a1, rfl, rfl, rfl, w1⟩ := open_int Try.underlying3 (hval 1 3 v1 rfl rfl) h1
  clear hA0 hval0
  refine (walk t0_ a0 cap0 N0 a1 W w0 s0 w1).mono fun e W' ⟨he, bel⟩ => ?_
  subst he
  exact ⟨_, rfl, _, _, _, [], _, [], hW', trodAll_mk1 (shut_bool Try.underlying4 _), (trodAll_cons_mk (Below.trod laidOut (by kernel_rfl) (of_decide_eq_true (by kernel_rfl)) k0 bel lt0) (trodAll_cons_mk (Below.trod laidOut (by kernel_rfl) (of_decide_eq_true (by kernel_rfl)) k1 bel lt1) trodAll_mk0)), rfl, bel.frame _, fun h => by cases h⟩

theorem over : Rows.adaptBackRow.holds Try.pinned (OpenSpec.ofChange Rows.adaptBackSpec) :=
  OpenClaim.holds_of_wide 5 Try.f5 rfl rfl rfl rfl rfl rfl rfl ⟨rfl, rfl, rfl, rfl, rfl⟩ rfl rfl rfl rfl rfl (by kernel_rfl) Try.func5 (by kernel_rfl)
    (of_decide_eq_true (by kernel_rfl)) (by unfold Func.isWrapper; first | (rw [if_pos (by decide +kernel)]; kernel_rfl) | (rw [if_neg (by decide +kernel)]; exact ⟨rfl, rfl⟩))
    (fun os started H enc _ => lifted os started H enc)

theorem adaptBackHolds : Rows.AdaptBackSaid := over
#print axioms adaptBackHolds
end Go.Proofs.Yteebceecohhegaa.adaptBack
