/- AdaptKeeps (P15.4, T3): of a tree of at most 450 nodes and 2000 pairs that may be, whatever leaves are split and joined, up to sixty of them, in whatever order: the tree may be, it has one leaf more, or one less, and all its pairs are as they were; a leaf is joined just if it is not alone. No condition but that of the form. -/
import Derived.Test.YteebceecohhegaaRows
import Derived.Test.YteebceecohhegaaAeK
import Derived.OwnWalk
import Derived.LoopTactic
import Derived.WalkKit
import Derived.ProofKit
import Derived.OpenShut
import Derived.ChangeOld
import Derived.Below
namespace Go.Proofs.Yteebceecohhegaa.adaptKeeps
open Go.ChangeShapes Go.WideShapes Go.ChangeAt Go.RowKit
set_option linter.all false

theorem own : ownKnob Try.prog.godebug = none := by kernel_rfl
theorem laidOut : laidOutB Try.prog = true := by kernel_rfl

set_option maxRecDepth 100000 in
set_option maxHeartbeats 6400000 in
theorem walk_big (t0 : Int) (a0 : Option Addr) (cap0 : Nat) (N0 : List Nd) (w : World) (w0 : Ns w a0 cap0 N0) (s0 : Mid N0) (a1 : Option Addr) (cap1 : Nat) (z1 : List Int) (w1 : RI w a1 cap1 z1) (hL : ¬ Lgt N0) :
    Calls Try.prog 4 #[.agg #[.int .i64 t0, .slice a0 N0.length cap0], .slice a1 z1.length cap1] w fun e w' => e = .returned (.bool true) ∧ Below w.heap.size w w' := by
  have b1 : Below w.heap.size w (w.alloc (.cells #[.int .i64 t0, .slice a0 N0.length cap0] 24)) := al1 _
  have cl := light_any t0 a0 cap0 N0 _ (w0.keep b1) s0 1 (fun h => absurd h hL) (fun _ => rfl)
  have caw := fun W => awake_any W
  have HB := Lib.hid b1
  unfold trv at cl
  clear b1 w0 s0 hL
  go_enter Try.func4, Try.ntmps4
  go_wp2_with (first
    | (go_at_call 8; ((with_reducible refine cl.mono ?_); clear cl; rintro e W3 ⟨rfl, hb3⟩; have HB3 := Lib.hid (bel2 HB.out hb3); clear hb3))
    | (go_at_call 9; ((with_reducible refine (caw _).mono ?_); clear caw; rintro e W4 ⟨rfl, hb4⟩; have HB4 := Lib.hid (bel2 HB3.out hb4); clear hb4))
    | fail)
  go_ret
  exact ⟨rfl, HB4.out⟩
set_option maxRecDepth 100000 in
set_option maxHeartbeats 6400000 in
theorem walk_no (t0 : Int) (a0 : Option Addr) (cap0 : Nat) (N0 : List Nd) (w : World) (w0 : Ns w a0 cap0 N0) (s0 : Mid N0) (a1 : Option Addr) (cap1 : Nat) (z1 : List Int) (w1 : RI w a1 cap1 z1) (hL : Lgt N0) (h60 : z1.length ≤ 60) (hT : ∀ s, ¬ Tr N0 s t0) :
    Calls Try.prog 4 #[.agg #[.int .i64 t0, .slice a0 N0.length cap0], .slice a1 z1.length cap1] w fun e w' => e = .returned (.bool true) ∧ Below w.heap.size w w' := by
  have b1 : Below w.heap.size w (w.alloc (.cells #[.int .i64 t0, .slice a0 N0.length cap0] 24)) := al1 _
  have cl := light_any t0 a0 cap0 N0 _ (w0.keep b1) s0 0 (fun _ => rfl) (fun h => absurd hL h)
  have cm := fun W (hb : Below w.heap.size w W) => tmay_any t0 a0 cap0 N0 W (w0.keep hb) hL.small false ⟨fun h => (by cases h), fun ⟨s, hs⟩ => absurd hs (hT s)⟩
  have caw := fun W => awake_any W
  have HB := Lib.hid b1
  have h60i : ¬ (z1.length : Int) > 60 := by omega
  have G1 := Lib.hid (Bk.new w #[.int .i64 t0, .slice a0 N0.length cap0] 24)
  unfold trv at cl cm
  clear b1 w0 s0 hL hT
  go_enter Try.func4, Try.ntmps4
  go_wp2_with (first
    | (go_at_call 8; ((with_reducible refine cl.mono ?_); clear cl; rintro e W3 ⟨rfl, hb3⟩; have HB3 := Lib.hid (bel2 HB.out hb3); have k0 := (G1.out.keep hb3).at_ 0 _ rfl; have k1 := (G1.out.keep hb3).at_ 1 _ rfl; clear hb3))
    | (go_at_call 19; ((with_reducible refine (cm _ HB3.out).mono ?_); clear cm k0 k1; rintro e W5 ⟨rfl, hb5⟩; have HB5 := Lib.hid (bel2 HB3.out hb5); clear hb5))
    | (go_at_call 9; ((with_reducible refine (caw _).mono ?_); clear caw; rintro e W4 ⟨rfl, hb4⟩; have HB4 := Lib.hid (bel2 HB5.out hb4); clear hb4))
    | fail)
  go_ret
  exact ⟨rfl, HB4.out⟩
set_option maxRecDepth 100000 in
set_option maxHeartbeats 12800000 in
theorem walk_long (t0 : Int) (a0 : Option Addr) (cap0 : Nat) (N0 : List Nd) (w : World) (w0 : Ns w a0 cap0 N0) (s0 : Mid N0) (a1 : Option Addr) (cap1 : Nat) (z1 : List Int) (w1 : RI w a1 cap1 z1) (hL : Lgt N0) (h60 : ¬ z1.length ≤ 60) :
    Calls Try.prog 4 #[.agg #[.int .i64 t0, .slice a0 N0.length cap0], .slice a1 z1.length cap1] w fun e w' => e = .returned (.bool true) ∧ Below w.heap.size w w' := by
  have b1 : Below w.heap.size w (w.alloc (.cells #[.int .i64 t0, .slice a0 N0.length cap0] 24)) := al1 _
  have cl := light_any t0 a0 cap0 N0 _ (w0.keep b1) s0 0 (fun _ => rfl) (fun h => absurd hL h)
  have caw := fun W => awake_any W
  have h60i : (z1.length : Int) > 60 := by omega
  have HB := Lib.hid b1
  unfold trv at cl
  clear b1 w0 s0 hL
  go_enter Try.func4, Try.ntmps4
  go_wp2_with (first
    | (go_at_call 8; ((with_reducible refine cl.mono ?_); clear cl; rintro e W3 ⟨rfl, hb3⟩; have HB3 := Lib.hid (bel2 HB.out hb3); clear hb3))
    | (go_at_call 9; ((with_reducible refine (caw _).mono ?_); clear caw; rintro e W4 ⟨rfl, hb4⟩; have HB4 := Lib.hid (bel2 HB3.out hb4); clear hb4))
    | fail)
  go_ret
  exact ⟨rfl, HB4.out⟩
set_option maxRecDepth 100000 in
set_option maxHeartbeats 12800000 in
theorem walk_yes (t0 : Int) (a0 : Option Addr) (cap0 : Nat) (N0 : List Nd) (w : World) (w0 : Ns w a0 cap0 N0) (s0 : Mid N0) (a1 : Option Addr) (cap1 : Nat) (z1 : List Int) (w1 : RI w a1 cap1 z1) (hL : Lgt N0) (h60 : z1.length ≤ 60) (s : Sh) (hT : Tr N0 s t0) :
    Calls Try.prog 4 #[.agg #[.int .i64 t0, .slice a0 N0.length cap0], .slice a1 z1.length cap1] w fun e w' => e = .returned (.bool true) ∧ Below w.heap.size w w' := by
  have b1 : Below w.heap.size w (w.alloc (.cells #[.int .i64 t0, .slice a0 N0.length cap0] 24)) := al1 _
  have hs := hL.small
  have hl1 : N0.length ≤ 450 := hL.1
  have cl := light_any t0 a0 cap0 N0 _ (w0.keep b1) s0 0 (fun _ => rfl) (fun h => absurd hL h)
  have cm := fun W (hb : Below w.heap.size w W) => tmay_any t0 a0 cap0 N0 W (w0.keep hb) hs true ⟨fun _ => ⟨s, hT⟩, fun _ => rfl⟩
  have cal := fun W (hb : Below w.heap.size w W) => tall_gen t0 a0 cap0 N0 W (w0.keep hb) hs s.lvs (lvO_lt (.inl ⟨s, hT, rfl⟩)) (fun W hW => tleaves_yes t0 a0 cap0 N0 W hW hs s hT)
  obtain ⟨A, hA⟩ : ∃ A, allP N0 s.lvs = A := ⟨_, rfl⟩
  have G0 := Lib.hid (show Gd A (450 + 2 * 0) t0 N0 s from ⟨hT, hA, hl1, by rw [← hA]; exact lgt_total hT hL⟩)
  have caw := fun W => awake_any W
  have h60i : ¬ (z1.length : Int) > 60 := by omega
  have HB := Lib.hid b1
  have Q1 := Lib.hid (Tq.new w t0 a0 N0.length cap0)
  have HN := Lib.hid w0
  have HR1 := Lib.hid w1
  have hrc := w1.1
  have hrm := w1.2.1
  have H60 := Lib.hid h60
  unfold maxLen at hrm
  unfold RowIs at cal
  rw [hA] at cal
  unfold trv at cl cm cal
  clear b1 w0 s0 w1 hs hT hL hA hl1 h60
  go_enter Try.func4, Try.ntmps4
  go_wp2_with (first
    | (go_at_call 8; ((with_reducible refine cl.mono ?_); clear cl; rintro e W3 ⟨rfl, hb3⟩; have HB3 := Lib.hid (bel2 HB.out hb3); have Q3 := Lib.hid (Q1.out.keep hb3); clear hb3; have k0 := Q3.out.c0; have k1 := Q3.out.c1))
    | (go_at_call 19; ((with_reducible refine (cm _ HB3.out).mono ?_); clear cm k0 k1; rintro e W5 ⟨rfl, hb5⟩; have HB5 := Lib.hid (bel2 HB3.out hb5); have Q5 := Lib.hid (Q3.out.keep hb5); clear hb5; have k0 := Q5.out.c0; have k1 := Q5.out.c1))
    | (go_at_call 20; ((with_reducible refine (cal _ HB5.out).mono ?_); clear cal k0 k1; rintro e W6 ⟨aw, cw, rfl, hp6, hb6⟩; have K6 := Lib.hid (show Kp w A aw cw W6 t0 a0 cap0 N0 from ⟨Q5.out.keep hb6, HN.out.keep (bel2 HB5.out hb6), hp6.prs rfl, bel2 HB5.out hb6⟩); clear hp6 hb6))
    | fail)
  go_loopw [31] (fun j wr => ∃ (n : Nat) (t : Int) (a : Option Addr) (cap : Nat) (N : List Nd) (s : Sh), n ≤ z1.length ∧ j = .int .i64 n ∧ Kp w A aw cw wr t a cap N ∧ Gd A (450 + 2 * n) t N s) (fun j _ => z1.length - (intOf j).toNat)
  case atStart => exact ⟨0, t0, a0, cap0, N0, s, Nat.zero_le _, rfl, K6.out, G0.out⟩
  case round =>
    obtain ⟨n, t, a, cap, N, s, hn, rfl, hK, hG⟩ := hrel
    have HK := Lib.hid hK
    have HG := Lib.hid hG
    by_cases hlt : n < z1.length
    · obtain ⟨v, hv⟩ : ∃ v, z1[n]? = some v := ⟨_, List.getElem?_eq_getElem hlt⟩
      obtain ⟨bz, oz, rfl, cz⟩ := (HR1.out.below hK.b).2.2 n v hv
      have k0 := hK.q.c0
      have k1 := hK.q.c1
      have hsm := hG.small
      have hvl : s.lvs.length ≤ N.length := by have := lvs_len s; have := hG.t.all; omega
      have hvp := lvs_pos s
      have hNl := hG.l
      have h60' := H60.out
      have hNl2 : N.length + 2 ≤ 2000 := by omega
      obtain ⟨m, hm, hum⟩ := umod2 v (s.lvs.length : Int) (by omega) (by omega)
      have hml : m < s.lvs.length := by omega
      obtain ⟨i, hi⟩ : ∃ i, s.lvs[m]? = some i := ⟨_, List.getElem?_eq_getElem hml⟩
      have hAt : LfAt N t (i : Int) s i := ⟨hG.t, rfl, List.mem_of_getElem? hi⟩
      have cv := fun W (h : Ns W a cap N) => tleaves_yes t a cap N W h hsm s hG.t
      unfold trv LvIs at cv
      have HI := Lib.hid hi
      have hz : ((s.lvs.length : Int) == 0) = false := beq_eq_false_iff_ne.2 (by omega)
      clear hv
      cases hb : (bits .and .i64 v 1 == 0) with
      | true =>
        obtain ⟨x, Q, hSp⟩ := splO_ex N t (i : Int)
        have csp := fun W (h : Ns W a cap N) => split_any t a cap N (i : Int) W h hsm hNl2 x Q hSp
        unfold trv PlB at csp
        have HSP := Lib.hid hSp
        clear hK hG hsm hAt hi hSp hNl hNl2 h60'
        go_upto_region 20 with (first
          | (go_at_call 21; ((with_reducible refine (cv _ HK.out.n).mono ?_); clear cv k0 k1 cz; rintro e W7 ⟨ao, c, rfl, hr7, hb7⟩; obtain ⟨b7, o7, rfl, c7⟩ := ri_at hr7 HI.out; have hrc7 := hr7.1; have hrm7 := hr7.2.1; unfold maxLen at hrm7; rw [preI_len] at hrc7; have K7 := Lib.hid (HK.out.keep hb7); have K8 := Lib.hid ((HK.out.keep hb7).keep (al1 (.cells #[.int .i64 0, .slice none 0 0] 24))); have R8 := Lib.hid (Rq.new W7); clear hr7 hb7; have k0 := K8.out.q.c0; have k1 := K8.out.q.c1))
          | (go_at_call 10; ((with_reducible refine (csp _ K8.out.n).mono ?_); clear csp k0 k1; rintro e W9 ⟨a9, c9, rfl, hn9, hb9⟩; have K9 := Lib.hid (K8.out.keep hb9); have R9 := Lib.hid (R8.out.keep hb9); have N9 := Lib.hid hn9; clear hn9 hb9; have r0 := R9.out.c0; have r1 := R9.out.c1; have f0 := R9.out.fr 0; have f1 := R9.out.fr 1))
          | fail)
        have Z10 := Lib.hid (Kq.new K9.out R9.out K7.out.q.lt N9.out)
        generalize W7.heap.size = q10 at *
        clear r0 r1 f0 f1
        generalize (World.setCell (World.setCell W9 _ _) _ _ : World) = W10 at Z10 ⊢
        cases x with
        | false =>
          go_wp2_with (fail)
          go_roundw
          case rel => exact ⟨n + 1, t, a, cap, N, s, by omega, by go_num, Z10.out.k, HG.out.more⟩
          case measure => simp [intOf]; omega
        | true =>
          obtain ⟨s', hG2, hl2⟩ := HG.out.split HSP.out
          have hw : wrap64 ((s.lvs.length : Int) + 1) = (s'.lvs.length : Int) := by have := HG.out.t.le; unfold wrap64; omega
          have cm2 := fun W (h : Ns W a9 c9 Q) => tmay_any 0 a9 c9 Q W h hG2.small true ⟨fun _ => ⟨s', hG2.t⟩, fun _ => rfl⟩
          have cv2 := fun W (h : Ns W a9 c9 Q) => tleaves_yes 0 a9 c9 Q W h hG2.small s' hG2.t
          have cal2 := fun W (h : Ns W a9 c9 Q) => tall_gen 0 a9 c9 Q W h hG2.small s'.lvs (lvO_lt (.inl ⟨s', hG2.t, rfl⟩)) (fun W hW => tleaves_yes 0 a9 c9 Q W hW hG2.small s' hG2.t)
          have csa := fun W (ax : Option Addr) (cx : Nat) (h : Prs W ax cx A) (h2 : Prs W aw cw A) => samep_any ax aw cx cw A A W h h2 true (by simp)
          unfold LvIs at cv2
          unfold RowIs at cal2
          rw [hG2.a] at cal2
          unfold trv at cm2 cv2 cal2
          have HG2 := Lib.hid hG2
          have k0 := Z10.out.z.c0
          have k1 := Z10.out.z.c1
          clear hG2
          go_wp2_with (first
            | (go_at_call 19; ((with_reducible refine (cm2 _ Z10.out.m).mono ?_); clear cm2 k0 k1; rintro e W11 ⟨rfl, hb11⟩; have Z11 := Lib.hid (Z10.out.keep hb11); clear hb11; have k0 := Z11.out.z.c0; have k1 := Z11.out.z.c1))
            | (go_at_call 21; ((with_reducible refine (cv2 _ Z11.out.m).mono ?_); clear cv2 k0 k1; rintro e W12 ⟨ao2, c2, rfl, -, hb12⟩; have Z12 := Lib.hid (Z11.out.keep hb12); clear hb12; have k0 := Z12.out.z.c0; have k1 := Z12.out.z.c1))
            | (go_at_call 20; ((with_reducible refine (cal2 _ Z12.out.m).mono ?_); clear cal2 k0 k1; rintro e W13 ⟨ax, cx, rfl, hp13, hb13⟩; have Z13 := Lib.hid (Z12.out.keep hb13); have P13 := Lib.hid (hp13.prs rfl); clear hp13 hb13))
            | (go_at_call 22; ((with_reducible refine (csa _ _ _ P13.out Z13.out.k.p).mono ?_); clear csa; rintro e W14 ⟨rfl, hb14⟩; have Z14 := Lib.hid (Z13.out.keep hb14); clear hb14; have k0 := Z14.out.z.c0; have k1 := Z14.out.z.c1; have t0' := Z14.out.k.q.c0; have t1' := Z14.out.k.q.c1; have tf0 := Z14.out.k.q.fr 0; have tf1 := Z14.out.k.q.fr 1))
            | fail)
          go_roundw
          case rel => exact ⟨n + 1, 0, a9, c9, Q, s', by omega, by go_num, Z14.out.k.move Z14.out.m rfl, HG2.out⟩
          case measure => simp [intOf]; omega
      | false =>
        obtain ⟨x, Q, hJo⟩ := joiO_ex N t (i : Int)
        have cjo := fun W (h : Ns W a cap N) => join_any t a cap N (i : Int) W h hsm (fun s2 h2 => by
          have e := h2.uniq hG.t
          subst e
          rw [hG.a]; have := hG.k; omega) x Q hJo
        unfold trv PlB at cjo
        have HJO := Lib.hid hJo
        have hxl : x = decide ((1 : Int) < (s.lvs.length : Int)) := by
          have h1 := lvs_one (List.mem_of_getElem? hi)
          rcases hJo with ⟨rfl, s2, i2, T, h2, hl, -⟩ | ⟨rfl, -, hno⟩
          · obtain ⟨rfl, rfl⟩ := LfAt.uniq h2 hAt
            exact (decide_eq_true (by have := h1.1 hl; omega)).symm
          · refine (decide_eq_false (fun hh => hno ⟨s, i, hAt, h1.2 (by omega)⟩)).symm
        have HXL := Lib.hid hxl
        clear hK hG hsm hAt hi hJo hNl hNl2 h60' hxl
        go_upto_region 18 with (first
          | (go_at_call 21; ((with_reducible refine (cv _ HK.out.n).mono ?_); clear cv k0 k1 cz; rintro e W7 ⟨ao, c, rfl, hr7, hb7⟩; obtain ⟨b7, o7, rfl, c7⟩ := ri_at hr7 HI.out; have hrc7 := hr7.1; have hrm7 := hr7.2.1; unfold maxLen at hrm7; rw [preI_len] at hrc7; have K7 := Lib.hid (HK.out.keep hb7); have K8 := Lib.hid ((HK.out.keep hb7).keep (al1 (.cells #[.int .i64 0, .slice none 0 0] 24))); have R8 := Lib.hid (Rq.new W7); clear hr7 hb7; have k0 := K8.out.q.c0; have k1 := K8.out.q.c1))
          | (go_at_call 12; ((with_reducible refine (cjo _ K8.out.n).mono ?_); clear cjo k0 k1; rintro e W9 ⟨a9, c9, rfl, hn9, hb9⟩; have K9 := Lib.hid (K8.out.keep hb9); have R9 := Lib.hid (R8.out.keep hb9); have N9 := Lib.hid hn9; clear hn9 hb9; have r0 := R9.out.c0; have r1 := R9.out.c1; have f0 := R9.out.fr 0; have f1 := R9.out.fr 1))
          | fail)
        have Z10 := Lib.hid (Kq.new K9.out R9.out K7.out.q.lt N9.out)
        generalize W7.heap.size = q10 at *
        clear r0 r1 f0 f1
        generalize (World.setCell (World.setCell W9 _ _) _ _ : World) = W10 at Z10 ⊢
        cases x with
        | false =>
          have hd := HXL.out.symm
          go_wp2_with (fail)
          go_roundw
          case rel => exact ⟨n + 1, t, a, cap, N, s, by omega, by go_num, Z10.out.k, HG.out.more⟩
          case measure => simp [intOf]; omega
        | true =>
          have hd := HXL.out.symm
          obtain ⟨s', hG2, hl2⟩ := HG.out.join HJO.out
          have hw : wrap64 ((s.lvs.length : Int) + -1) = (s'.lvs.length : Int) := by have := HG.out.t.le; unfold wrap64; omega
          have cm2 := fun W (h : Ns W a9 c9 Q) => tmay_any 0 a9 c9 Q W h hG2.small true ⟨fun _ => ⟨s', hG2.t⟩, fun _ => rfl⟩
          have cv2 := fun W (h : Ns W a9 c9 Q) => tleaves_yes 0 a9 c9 Q W h hG2.small s' hG2.t
          have cal2 := fun W (h : Ns W a9 c9 Q) => tall_gen 0 a9 c9 Q W h hG2.small s'.lvs (lvO_lt (.inl ⟨s', hG2.t, rfl⟩)) (fun W hW => tleaves_yes 0 a9 c9 Q W hW hG2.small s' hG2.t)
          have csa := fun W (ax : Option Addr) (cx : Nat) (h : Prs W ax cx A) (h2 : Prs W aw cw A) => samep_any ax aw cx cw A A W h h2 true (by simp)
          unfold LvIs at cv2
          unfold RowIs at cal2
          rw [hG2.a] at cal2
          unfold trv at cm2 cv2 cal2
          have HG2 := Lib.hid hG2
          have k0 := Z10.out.z.c0
          have k1 := Z10.out.z.c1
          clear hG2
          go_wp2_with (first
            | (go_at_call 19; ((with_reducible refine (cm2 _ Z10.out.m).mono ?_); clear cm2 k0 k1; rintro e W11 ⟨rfl, hb11⟩; have Z11 := Lib.hid (Z10.out.keep hb11); clear hb11; have k0 := Z11.out.z.c0; have k1 := Z11.out.z.c1))
            | (go_at_call 21; ((with_reducible refine (cv2 _ Z11.out.m).mono ?_); clear cv2 k0 k1; rintro e W12 ⟨ao2, c2, rfl, -, hb12⟩; have Z12 := Lib.hid (Z11.out.keep hb12); clear hb12; have k0 := Z12.out.z.c0; have k1 := Z12.out.z.c1))
            | (go_at_call 20; ((with_reducible refine (cal2 _ Z12.out.m).mono ?_); clear cal2 k0 k1; rintro e W13 ⟨ax, cx, rfl, hp13, hb13⟩; have Z13 := Lib.hid (Z12.out.keep hb13); have P13 := Lib.hid (hp13.prs rfl); clear hp13 hb13))
            | (go_at_call 22; ((with_reducible refine (csa _ _ _ P13.out Z13.out.k.p).mono ?_); clear csa; rintro e W14 ⟨rfl, hb14⟩; have Z14 := Lib.hid (Z13.out.keep hb14); clear hb14; have k0 := Z14.out.z.c0; have k1 := Z14.out.z.c1; have t0' := Z14.out.k.q.c0; have t1' := Z14.out.k.q.c1; have tf0 := Z14.out.k.q.fr 0; have tf1 := Z14.out.k.q.fr 1))
            | fail)
          go_roundw
          case rel => exact ⟨n + 1, 0, a9, c9, Q, s', by omega, by go_num, Z14.out.k.move Z14.out.m rfl, HG2.out⟩
          case measure => simp [intOf]; omega
    · obtain rfl : n = z1.length := by omega
      go_wp2_with (go_at_call 9; ((with_reducible refine (caw _).mono ?_); clear caw; rintro e W9 ⟨rfl, hb9⟩; have HB9 := Lib.hid (bel2 HK.out.b hb9); clear hb9))
      go_ret
      exact ⟨rfl, HB9.out⟩

theorem walk (t0 : Int) (a0 : Option Addr) (cap0 : Nat) (N0 : List Nd) (a1 : Option Addr) (cap1 : Nat) (z1 : List Int) (w : World) (w0 : Ns w a0 cap0 N0) (s0 : Mid N0) (w1 : RI w a1 cap1 z1) :
    Calls Try.prog 4 #[.agg #[.int .i64 t0, .slice a0 N0.length cap0], .slice a1 z1.length cap1] w fun e w' => e = .returned (.bool true) ∧ Below w.heap.size w w' := by
  by_cases hL : Lgt N0
  · by_cases h60 : z1.length ≤ 60
    · rcases Classical.em (∃ s, Tr N0 s t0) with ⟨s, hs⟩ | hs
      · exact walk_yes t0 a0 cap0 N0 w w0 s0 a1 cap1 z1 w1 hL h60 s hs
      · exact walk_no t0 a0 cap0 N0 w w0 s0 a1 cap1 z1 w1 hL h60 (fun s h => hs ⟨s, h⟩)
    · exact walk_long t0 a0 cap0 N0 w w0 s0 a1 cap1 z1 w1 hL h60
  · exact walk_big t0 a0 cap0 N0 w w0 s0 a1 cap1 z1 w1 hL

set_option maxRecDepth 100000 in
theorem lifted (os : Os) (started : os.Started) (H : Type) (enc : TypeId × Value → H) :
    ReturnsInHanded {} Try.checked os 4 .any (Rows.adaptKeepsSpec.pre6 enc Try.prog Try.f4 Rows.adaptKeepsRow.domain false) (Rows.adaptKeepsSpec.post enc Try.prog Try.f4 false true false false) := by
  refine returnsInHanded_of_change_sized (C := Try.checked) own started (by kernel_rfl) Try.func4
    (ChangeSpec.witness6 (enc := enc) (C := Try.checked) false ⟨#[], #[.agg #[.int .i64 0, .slice none 0 0], .slice none 0 0], []⟩ 8 (by kernel_rfl) (by kernel_rfl) (by kernel_rfl) (by kernel_rfl)) ?_
  intro W base args ds gs before hval0 hW hcnd hsz _
  have hval : ∀ (j : Nat) t v, Try.f4.params[j]? = some t → args[j]? = some v → Value.okWide Try.prog W .any base t v := hval0
  have hW' := hW
  obtain ⟨p, q, hA0, hV, rfl, hfz, hnd⟩ := hW
  have hA : DataW.TrodAll enc Try.prog W 0 (fun _ => true) true Try.f4.params.toList args.toList ds p := hA0
  rw [Try.params4] at hA hval
  obtain ⟨v0, vs0, d0, ds0, p0, q0, hargs, rfl, rfl, h0, r0⟩ := trodAll_cons hA
  obtain ⟨v1, vs1, d1, ds1, p1, q1, rfl, rfl, rfl, h1, r1⟩ := trodAll_cons r0
  obtain ⟨rfl, rfl, rfl⟩ := trodAll_nil r1
  obtain rfl : args = #[v0, v1] := by cases args; simp_all
  obtain ⟨rfl, rfl⟩ := trodVars_none hV
  have k0 := h0
  have lt0 : ∀ x ∈ p0, x.block < W.heap.size := by obtain ⟨m, hm⟩ := k0; exact DataW.trod_lt m _ _ _ hm
  obtain ⟨u0, rfl, _⟩ := okWide_struct Try.underlying24 (hval 0 24 v0 rfl rfl)
  obtain ⟨t0_, a0, cap0, N0, e0, w0, s0⟩ := fields_tree (enc := enc) (w := W) (cs := u0.toList) (fuel := h0.choose) (by simpa [Value.cells] using h0.choose_spec) (fun n hn => by simpa using List.all_eq_true.1 hsz n (DataW.weights_mem_each (j := 0) rfl rfl n hn))
  obtain rfl : u0 = #[.int .i64 t0_, .slice a0 N0.length cap0] := by cases u0; simp_all
  have k1 := h1
  have lt1 : ∀ x ∈ p1, x.block < W.heap.size := by obtain ⟨m, hm⟩ := k1; exact DataW.trod_lt m _ _ _ hm
  obtain ⟨b1, l1, c1, rfl⟩ := okWide_slice Try.underlying38 (hval 1 38 v1 rfl rfl)
  obtain ⟨a1, cap1, z1, e1, w1⟩ := open_ri (enc := enc) (w := W) (v := .slice b1 l1 c1) (fuel := h1.choose) (by simpa [Value.cells] using h1.choose_spec)
  rw [e1] at hval k1 h1 hW' hval0 hA0
  clear hA0 hval0
  rw [e1]; refine (walk t0_ a0 cap0 N0 a1 cap1 z1 W w0 s0 w1).mono fun e W' ⟨he, bel⟩ => ?_
  subst he
  exact ⟨_, rfl, _, _, _, [], _, [], hW', trodAll_mk1 (shut_bool Try.underlying4 _), (trodAll_cons_mk (Below.trod laidOut (by kernel_rfl) (of_decide_eq_true (by kernel_rfl)) k0 bel lt0) (trodAll_cons_mk (Below.trod laidOut (by kernel_rfl) (of_decide_eq_true (by kernel_rfl)) k1 bel lt1) trodAll_mk0)), rfl, bel.frame _, fun h => by cases h⟩

theorem over : Rows.adaptKeepsRow.holds Try.pinned (OpenSpec.ofChange Rows.adaptKeepsSpec) :=
  OpenClaim.holds_of_wide 4 Try.f4 rfl rfl rfl rfl rfl rfl rfl ⟨rfl, rfl, rfl, rfl, rfl⟩ rfl rfl rfl rfl rfl (by kernel_rfl) Try.func4 (by kernel_rfl)
    (of_decide_eq_true (by kernel_rfl)) (by unfold Func.isWrapper; first | (rw [if_pos (by decide +kernel)]; kernel_rfl) | (rw [if_neg (by decide +kernel)]; exact ⟨rfl, rfl⟩))
    (fun os started H enc _ => lifted os started H enc)

theorem adaptKeepsHolds : Rows.AdaptKeepsSaid := over
#print axioms adaptKeepsHolds
end Go.Proofs.Yteebceecohhegaa.adaptKeeps
