/- AdaptForms (P15.1 to P15.3): of a tree of at most 450 nodes and 2000 pairs, at any place, under any policy: Split, Join, Bend and Next answer as the reference does. No condition but that of the form. -/
import Derived.Test.YteebceecohhegaaRows
import Derived.Test.YteebceecohhegaaAeH
import Derived.Test.YteebceecohhegaaAeY
import Derived.LoopTactic
import Derived.WalkKit
import Derived.ProofKit
import Derived.OpenShut
import Derived.ChangeOld
import Derived.Below
namespace Go.Proofs.Yteebceecohhegaa.adaptForms
open Go.ChangeShapes Go.WideShapes Go.ChangeAt Go.RowKit
set_option linter.all false

theorem own : ownKnob Try.prog.godebug = none := by kernel_rfl
theorem laidOut : laidOutB Try.prog = true := by kernel_rfl

/-- What holds all along. -/
structure Sb (w : World) (t0 : Int) (a0 : Option Addr) (cap0 : Nat) (N0 : List Nd) (h1 l1 c1 u1 m1 : Int) (W : World) : Prop where
  g : Tq W w.heap.size t0 a0 N0.length cap0
  p : Pl W (w.heap.size + 1) h1 l1 c1 u1 m1
  b : Below w.heap.size w W
theorem Sb_keep {w : World} {t0 : Int} {a0 : Option Addr} {cap0 : Nat} {N0 : List Nd} {h1 l1 c1 u1 m1 : Int} {W W' : World} (h : Sb w t0 a0 cap0 N0 h1 l1 c1 u1 m1 W) (hb : Below W.heap.size W W') : Sb w t0 a0 cap0 N0 h1 l1 c1 u1 m1 W' := ⟨h.g.keep hb, h.p.keep hb, bel2 h.b hb⟩
theorem Sb_new (w : World) (t0 : Int) (a0 : Option Addr) (cap0 : Nat) (N0 : List Nd) (h1 l1 c1 u1 m1 : Int) : Sb w t0 a0 cap0 N0 h1 l1 c1 u1 m1 ((w.alloc (.cells #[.int .i64 t0, .slice a0 N0.length cap0] 24)).alloc (.cells #[.int .i64 h1, .int .i64 l1, .int .i64 c1, .int .i64 u1, .int .i64 m1] 26)) := by
  refine ⟨(Tq.new w t0 a0 N0.length cap0).keep (al1 _), ?_, bel1 (al1 _) _⟩
  have h := Pl.new (h := h1) (l := l1) (c := c1) (u := u1) (m := m1) (w.alloc (.cells #[.int .i64 t0, .slice a0 N0.length cap0] 24)) 26
  simp only [World.size_alloc] at h; exact h
theorem Sb_conj {w : World} {t0 : Int} {a0 : Option Addr} {cap0 : Nat} {N0 : List Nd} {h1 l1 c1 u1 m1 : Int} {W2 W : World} (h : Sb w t0 a0 cap0 N0 h1 l1 c1 u1 m1 W2) {p : Addr} {x : Value} (hx : w.cell? p = some x) (hb : Below W2.heap.size W2 W) : W.cell? ⟨w.heap.size, 0, none⟩ = some (.int .i64 t0) ∧ W.cell? ⟨w.heap.size, 1, none⟩ = some (.slice a0 N0.length cap0) ∧ W.cell? p = some x ∧ Below W2.heap.size W2 W := ⟨(h.g.keep hb).c0, (h.g.keep hb).c1, kc (bel2 h.b hb) hx, hb⟩
theorem spl_le {N : List Nd} {t y : Int} {x : Bool} {Q : List Nd} (h : SplO N t y x Q) : Q.length ≤ 10000000 := by
  cases x
  · rcases h with ⟨hh, _⟩ | ⟨_, rfl, _⟩
    · cases hh
    · simp
  · obtain ⟨s, i, s', _, _, _, _, h1, _⟩ := h.is
    have := h1.le; omega
theorem joi_le {N : List Nd} {t y : Int} {x : Bool} {Q : List Nd} (h : JoiO N t y x Q) : Q.length ≤ 10000000 := by
  cases x
  · rcases h with ⟨hh, _⟩ | ⟨_, rfl, _⟩
    · cases hh
    · simp
  · obtain ⟨s, i, T, s', _, _, _, _, _, h1, _⟩ := h.is
    have := h1.le; omega
theorem bnd_le {N : List Nd} {t y : Int} {D : Int → Int} {d : Int} {Q : List Nd} (h : BndO N t y D d Q) : Q.length ≤ 10000000 := by
  rcases h with ⟨s, i, hA, ⟨_, h, _⟩ | ⟨_, h, _⟩ | ⟨_, rfl, _⟩⟩ | ⟨_, _, rfl⟩
  · exact spl_le h
  · exact joi_le h
  · rw [lay_len, hA.1.all]; have := hA.1.le; omega
  · simp
set_option maxRecDepth 100000 in
set_option maxHeartbeats 12800000 in
theorem walk_big (t0 : Int) (a0 : Option Addr) (cap0 : Nat) (N0 : List Nd) (h1 l1 c1 u1 m1 a2 : Int) (w : World) (w0 : Ns w a0 cap0 N0) (s0 : Mid N0) (hL : ¬ Lgt N0) :
    Calls Try.prog 3 #[.agg #[.int .i64 t0, .slice a0 N0.length cap0], .agg #[.int .i64 h1, .int .i64 l1, .int .i64 c1, .int .i64 u1, .int .i64 m1], .int .i64 a2] w fun e w' => e = .returned (.bool true) ∧ Below w.heap.size w w' := by
  have S1 := Lib.hid (Sb_new w t0 a0 cap0 N0 h1 l1 c1 u1 m1)
  have cl := light_any t0 a0 cap0 N0 _ (w0.keep S1.out.b) s0 1 (fun h => absurd h hL) (fun _ => rfl)
  have caw := fun W => awake_any W
  unfold trv at cl
  clear w0 s0 hL
  go_enter Try.func3, Try.ntmps3
  go_wp2_with (first
    | (go_at_call 8; ((with_reducible refine cl.mono ?_); clear cl; rintro e W3 ⟨rfl, hb3⟩; have S3 := Lib.hid (Sb_keep S1.out hb3); clear hb3))
    | (go_at_call 9; ((with_reducible refine (caw _).mono ?_); clear caw; rintro e W4 ⟨rfl, hb4⟩; have HB4 := Lib.hid (bel2 S3.out.b hb4); clear hb4))
    | fail)
  go_ret
  exact ⟨rfl, HB4.out⟩
set_option maxRecDepth 100000 in
set_option maxHeartbeats 25600000 in
theorem walk_some (t0 : Int) (a0 : Option Addr) (cap0 : Nat) (N0 : List Nd) (h1 l1 c1 u1 m1 a2 : Int) (w : World) (w0 : Ns w a0 cap0 N0) (s0 : Mid N0) (hL : Lgt N0) (n : Nat) (hk : NxtO N0 t0 a2 (some n)) :
    Calls Try.prog 3 #[.agg #[.int .i64 t0, .slice a0 N0.length cap0], .agg #[.int .i64 h1, .int .i64 l1, .int .i64 c1, .int .i64 u1, .int .i64 m1], .int .i64 a2] w fun e w' => e = .returned (.bool true) ∧ Below w.heap.size w w' := by
  have S1 := Lib.hid (Sb_new w t0 a0 cap0 N0 h1 l1 c1 u1 m1)
  have hs := hL.small
  have hl1 : N0.length ≤ 450 := hL.1
  have hT : ∀ s, Tr N0 s t0 → (allP N0 s.lvs).length ≤ 2100 := fun s hs => Nat.le_trans (lgt_total hs hL) (by decide)
  obtain ⟨h1', l1', c1', u1', m1', hC⟩ : ∃ h1' l1' c1' u1' m1', Cl h1 l1 c1 u1 m1 h1' l1' c1' u1' m1' := ⟨_, _, _, _, _, rfl, rfl, rfl, rfl, rfl⟩
  obtain ⟨xs, Qs, hS⟩ := splO_ex N0 t0 a2
  obtain ⟨xj, Qj, hJ⟩ := joiO_ex N0 t0 a2
  obtain ⟨d, Qb, hB⟩ := bndO_ex N0 t0 a2 h1' l1'
  have ls := spl_le hS
  have lj := joi_le hJ
  have lb := bnd_le hB
  have cl := light_any t0 a0 cap0 N0 _ (w0.keep S1.out.b) s0 0 (fun _ => rfl) (fun h => absurd hL h)
  have c1_ := fun W (hb : Below w.heap.size w W) => split_any t0 a0 cap0 N0 a2 W (w0.keep hb) hs (by omega) xs Qs hS
  have c2_ := fun W (hb : Below w.heap.size w W) => rspl_any t0 a0 cap0 N0 a2 W (w0.keep hb) hs (by omega) xs Qs hS
  have c3_ := fun W (hb : Below w.heap.size w W) => join_any t0 a0 cap0 N0 a2 W (w0.keep hb) hs hT xj Qj hJ
  have c4_ := fun W (hb : Below w.heap.size w W) => rjl_any t0 a0 cap0 N0 a2 W (w0.keep hb) hs hT xj Qj hJ
  have c5_ := fun W (hb : Below w.heap.size w W) => bend_any t0 a0 cap0 N0 h1 l1 c1 u1 m1 h1' l1' c1' u1' m1' a2 W (w0.keep hb) hs (by omega) hT hC d Qb hB
  have c6_ := fun W (hb : Below w.heap.size w W) => rbend_any t0 a0 cap0 N0 h1 l1 c1 u1 m1 h1' l1' c1' u1' m1' a2 W (w0.keep hb) hs (by omega) hT hC d Qb hB
  have c7_ := fun W (hb : Below w.heap.size w W) => next_any t0 a0 cap0 N0 a2 W (w0.keep hb) hs (some n) hk
  have c8_ := fun W (hb : Below w.heap.size w W) => rnb_any t0 a0 cap0 N0 a2 W (w0.keep hb) hs (some n) hk ((n : Int)) rfl
  have csr := fun (aa bb : Option Addr) (ca cb : Nat) (Q : List Nd) (hl : Q.length ≤ 10000000) W (h : Ns W aa ca Q) (h2 : Ns W bb cb Q) => sraw_any 0 0 aa bb ca cb Q Q W h h2 hl hl true ⟨fun _ => ⟨rfl, rfl⟩, fun _ => rfl⟩
  have caw := fun W => awake_any W
  simp only [kI, Option.isSome] at c7_
  unfold PlB trv at c1_ c2_ c3_ c4_
  unfold BnIs trv at c5_ c6_
  unfold trv at cl csr c7_ c8_
  have HLE := Lib.hid (And.intro ls (And.intro lj lb))
  clear w0 s0 hL hs hl1 hT hC hS hJ hB hk ls lj lb
  go_enter Try.func3, Try.ntmps3
  go_wp2_with (first
    | (go_at_call 8; ((with_reducible refine cl.mono ?_); clear cl; rintro e W3 ⟨rfl, hb3⟩; have S2 := Lib.hid (Sb_keep S1.out hb3); clear hb3; have k0 := S2.out.g.c0; have k1 := S2.out.g.c1))
    | (go_at_call 10; ((with_reducible refine (c1_ _ S2.out.b).mono ?_); clear c1_ k0 k1; rintro e V1 ⟨b1, d1, rfl, hn1, hb1⟩; have S3 := Lib.hid (Sb_keep (Sb_keep S2.out hb1) (al1 (.cells #[.int .i64 0, .slice b1 Qs.length d1] 24))); have Z1_1 := Lib.hid (Tq.new V1 0 b1 Qs.length d1); have M1_1 := Lib.hid (hn1.keep (al1 (.cells #[.int .i64 0, .slice b1 Qs.length d1] 24))); clear hn1 hb1; have k0 := S3.out.g.c0; have k1 := S3.out.g.c1))
    | (go_at_call 11; ((with_reducible refine (c2_ _ S3.out.b).mono ?_); clear c2_ k0 k1; rintro e V2 ⟨b2, d2, rfl, hn2, hb2⟩; have S4 := Lib.hid (Sb_keep (Sb_keep S3.out hb2) (al1 (.cells #[.int .i64 0, .slice b2 Qs.length d2] 24))); have Z1_2 := Lib.hid ((Z1_1.out.keep hb2).keep (al1 (.cells #[.int .i64 0, .slice b2 Qs.length d2] 24))); have M1_2 := Lib.hid ((M1_1.out.keep hb2).keep (al1 (.cells #[.int .i64 0, .slice b2 Qs.length d2] 24))); clear Z1_1 M1_1; have Z2_2 := Lib.hid (Tq.new V2 0 b2 Qs.length d2); have M2_2 := Lib.hid (hn2.keep (al1 (.cells #[.int .i64 0, .slice b2 Qs.length d2] 24))); clear hn2 hb2; have k0 := S4.out.g.c0; have k1 := S4.out.g.c1))
    | (go_at_call 12; ((with_reducible refine (c3_ _ S4.out.b).mono ?_); clear c3_ k0 k1; rintro e V3 ⟨b3, d3, rfl, hn3, hb3⟩; have S5 := Lib.hid (Sb_keep (Sb_keep S4.out hb3) (al1 (.cells #[.int .i64 0, .slice b3 Qj.length d3] 24))); have Z1_3 := Lib.hid ((Z1_2.out.keep hb3).keep (al1 (.cells #[.int .i64 0, .slice b3 Qj.length d3] 24))); have M1_3 := Lib.hid ((M1_2.out.keep hb3).keep (al1 (.cells #[.int .i64 0, .slice b3 Qj.length d3] 24))); clear Z1_2 M1_2; have Z2_3 := Lib.hid ((Z2_2.out.keep hb3).keep (al1 (.cells #[.int .i64 0, .slice b3 Qj.length d3] 24))); have M2_3 := Lib.hid ((M2_2.out.keep hb3).keep (al1 (.cells #[.int .i64 0, .slice b3 Qj.length d3] 24))); clear Z2_2 M2_2; have Z3_3 := Lib.hid (Tq.new V3 0 b3 Qj.length d3); have M3_3 := Lib.hid (hn3.keep (al1 (.cells #[.int .i64 0, .slice b3 Qj.length d3] 24))); clear hn3 hb3; have k0 := S5.out.g.c0; have k1 := S5.out.g.c1))
    | (go_at_call 13; ((with_reducible refine (c4_ _ S5.out.b).mono ?_); clear c4_ k0 k1; rintro e V4 ⟨b4, d4, rfl, hn4, hb4⟩; have S6 := Lib.hid (Sb_keep (Sb_keep S5.out hb4) (al1 (.cells #[.int .i64 0, .slice b4 Qj.length d4] 24))); have Z1_4 := Lib.hid ((Z1_3.out.keep hb4).keep (al1 (.cells #[.int .i64 0, .slice b4 Qj.length d4] 24))); have M1_4 := Lib.hid ((M1_3.out.keep hb4).keep (al1 (.cells #[.int .i64 0, .slice b4 Qj.length d4] 24))); clear Z1_3 M1_3; have Z2_4 := Lib.hid ((Z2_3.out.keep hb4).keep (al1 (.cells #[.int .i64 0, .slice b4 Qj.length d4] 24))); have M2_4 := Lib.hid ((M2_3.out.keep hb4).keep (al1 (.cells #[.int .i64 0, .slice b4 Qj.length d4] 24))); clear Z2_3 M2_3; have Z3_4 := Lib.hid ((Z3_3.out.keep hb4).keep (al1 (.cells #[.int .i64 0, .slice b4 Qj.length d4] 24))); have M3_4 := Lib.hid ((M3_3.out.keep hb4).keep (al1 (.cells #[.int .i64 0, .slice b4 Qj.length d4] 24))); clear Z3_3 M3_3; have Z4_4 := Lib.hid (Tq.new V4 0 b4 Qj.length d4); have M4_4 := Lib.hid (hn4.keep (al1 (.cells #[.int .i64 0, .slice b4 Qj.length d4] 24))); clear hn4 hb4; have p0 := S6.out.p.1; have p1 := S6.out.p.2.1; have p2 := S6.out.p.2.2.1; have p3 := S6.out.p.2.2.2.1; have p4 := S6.out.p.2.2.2.2; have k0 := S6.out.g.c0; have k1 := S6.out.g.c1))
    | (go_at_call 14; ((with_reducible refine (c5_ _ S6.out.b).mono ?_); clear c5_ k0 k1 p0 p1 p2 p3 p4; rintro e V5 ⟨b5, d5, rfl, hn5, hb5⟩; have S7 := Lib.hid (Sb_keep (Sb_keep S6.out hb5) (al1 (.cells #[.int .i64 0, .slice b5 Qb.length d5] 24))); have Z1_5 := Lib.hid ((Z1_4.out.keep hb5).keep (al1 (.cells #[.int .i64 0, .slice b5 Qb.length d5] 24))); have M1_5 := Lib.hid ((M1_4.out.keep hb5).keep (al1 (.cells #[.int .i64 0, .slice b5 Qb.length d5] 24))); clear Z1_4 M1_4; have Z2_5 := Lib.hid ((Z2_4.out.keep hb5).keep (al1 (.cells #[.int .i64 0, .slice b5 Qb.length d5] 24))); have M2_5 := Lib.hid ((M2_4.out.keep hb5).keep (al1 (.cells #[.int .i64 0, .slice b5 Qb.length d5] 24))); clear Z2_4 M2_4; have Z3_5 := Lib.hid ((Z3_4.out.keep hb5).keep (al1 (.cells #[.int .i64 0, .slice b5 Qb.length d5] 24))); have M3_5 := Lib.hid ((M3_4.out.keep hb5).keep (al1 (.cells #[.int .i64 0, .slice b5 Qb.length d5] 24))); clear Z3_4 M3_4; have Z4_5 := Lib.hid ((Z4_4.out.keep hb5).keep (al1 (.cells #[.int .i64 0, .slice b5 Qb.length d5] 24))); have M4_5 := Lib.hid ((M4_4.out.keep hb5).keep (al1 (.cells #[.int .i64 0, .slice b5 Qb.length d5] 24))); clear Z4_4 M4_4; have Z5_5 := Lib.hid (Tq.new V5 0 b5 Qb.length d5); have M5_5 := Lib.hid (hn5.keep (al1 (.cells #[.int .i64 0, .slice b5 Qb.length d5] 24))); clear hn5 hb5; have p0 := S7.out.p.1; have p1 := S7.out.p.2.1; have p2 := S7.out.p.2.2.1; have p3 := S7.out.p.2.2.2.1; have p4 := S7.out.p.2.2.2.2; have k0 := S7.out.g.c0; have k1 := S7.out.g.c1))
    | (go_at_call 15; ((with_reducible refine (c6_ _ S7.out.b).mono ?_); clear c6_ k0 k1 p0 p1 p2 p3 p4; rintro e V6 ⟨b6, d6, rfl, hn6, hb6⟩; have S8 := Lib.hid (Sb_keep (Sb_keep S7.out hb6) (al1 (.cells #[.int .i64 0, .slice b6 Qb.length d6] 24))); have Z1_6 := Lib.hid ((Z1_5.out.keep hb6).keep (al1 (.cells #[.int .i64 0, .slice b6 Qb.length d6] 24))); have M1_6 := Lib.hid ((M1_5.out.keep hb6).keep (al1 (.cells #[.int .i64 0, .slice b6 Qb.length d6] 24))); clear Z1_5 M1_5; have Z2_6 := Lib.hid ((Z2_5.out.keep hb6).keep (al1 (.cells #[.int .i64 0, .slice b6 Qb.length d6] 24))); have M2_6 := Lib.hid ((M2_5.out.keep hb6).keep (al1 (.cells #[.int .i64 0, .slice b6 Qb.length d6] 24))); clear Z2_5 M2_5; have Z3_6 := Lib.hid ((Z3_5.out.keep hb6).keep (al1 (.cells #[.int .i64 0, .slice b6 Qb.length d6] 24))); have M3_6 := Lib.hid ((M3_5.out.keep hb6).keep (al1 (.cells #[.int .i64 0, .slice b6 Qb.length d6] 24))); clear Z3_5 M3_5; have Z4_6 := Lib.hid ((Z4_5.out.keep hb6).keep (al1 (.cells #[.int .i64 0, .slice b6 Qb.length d6] 24))); have M4_6 := Lib.hid ((M4_5.out.keep hb6).keep (al1 (.cells #[.int .i64 0, .slice b6 Qb.length d6] 24))); clear Z4_5 M4_5; have Z5_6 := Lib.hid ((Z5_5.out.keep hb6).keep (al1 (.cells #[.int .i64 0, .slice b6 Qb.length d6] 24))); have M5_6 := Lib.hid ((M5_5.out.keep hb6).keep (al1 (.cells #[.int .i64 0, .slice b6 Qb.length d6] 24))); clear Z5_5 M5_5; have Z6_6 := Lib.hid (Tq.new V6 0 b6 Qb.length d6); have M6_6 := Lib.hid (hn6.keep (al1 (.cells #[.int .i64 0, .slice b6 Qb.length d6] 24))); clear hn6 hb6; have k0 := S8.out.g.c0; have k1 := S8.out.g.c1))
    | (go_at_call 16; ((with_reducible refine (c7_ _ S8.out.b).mono ?_); clear c7_ k0 k1; rintro e V7 ⟨rfl, hb7⟩; have S9 := Lib.hid (Sb_keep S8.out hb7); have Z1_7 := Lib.hid (Z1_6.out.keep hb7); have M1_7 := Lib.hid (M1_6.out.keep hb7); clear Z1_6 M1_6; have Z2_7 := Lib.hid (Z2_6.out.keep hb7); have M2_7 := Lib.hid (M2_6.out.keep hb7); clear Z2_6 M2_6; have Z3_7 := Lib.hid (Z3_6.out.keep hb7); have M3_7 := Lib.hid (M3_6.out.keep hb7); clear Z3_6 M3_6; have Z4_7 := Lib.hid (Z4_6.out.keep hb7); have M4_7 := Lib.hid (M4_6.out.keep hb7); clear Z4_6 M4_6; have Z5_7 := Lib.hid (Z5_6.out.keep hb7); have M5_7 := Lib.hid (M5_6.out.keep hb7); clear Z5_6 M5_6; have Z6_7 := Lib.hid (Z6_6.out.keep hb7); have M6_7 := Lib.hid (M6_6.out.keep hb7); clear Z6_6 M6_6; clear hb7; have k0 := S9.out.g.c0; have k1 := S9.out.g.c1))
    | (go_at_call 17; ((with_reducible refine (c8_ _ S9.out.b).mono ?_); clear c8_ k0 k1; rintro e V8 ⟨rfl, hb8⟩; have S10 := Lib.hid (Sb_keep S9.out hb8); have Z1_8 := Lib.hid (Z1_7.out.keep hb8); have M1_8 := Lib.hid (M1_7.out.keep hb8); clear Z1_7 M1_7; have Z2_8 := Lib.hid (Z2_7.out.keep hb8); have M2_8 := Lib.hid (M2_7.out.keep hb8); clear Z2_7 M2_7; have Z3_8 := Lib.hid (Z3_7.out.keep hb8); have M3_8 := Lib.hid (M3_7.out.keep hb8); clear Z3_7 M3_7; have Z4_8 := Lib.hid (Z4_7.out.keep hb8); have M4_8 := Lib.hid (M4_7.out.keep hb8); clear Z4_7 M4_7; have Z5_8 := Lib.hid (Z5_7.out.keep hb8); have M5_8 := Lib.hid (M5_7.out.keep hb8); clear Z5_7 M5_7; have Z6_8 := Lib.hid (Z6_7.out.keep hb8); have M6_8 := Lib.hid (M6_7.out.keep hb8); clear Z6_7 M6_7; clear hb8; have z10 := Z1_8.out.c0; have z11 := Z1_8.out.c1; have z20 := Z2_8.out.c0; have z21 := Z2_8.out.c1; have z30 := Z3_8.out.c0; have z31 := Z3_8.out.c1; have z40 := Z4_8.out.c0; have z41 := Z4_8.out.c1; have z50 := Z5_8.out.c0; have z51 := Z5_8.out.c1; have z60 := Z6_8.out.c0; have z61 := Z6_8.out.c1))
    | (go_at_call 18; ((with_reducible refine (csr _ _ _ _ _ HLE.out.1 _ M1_8.out M2_8.out).mono ?_); clear z10 z11 z20 z21 z30 z31 z40 z41 z50 z51 z60 z61; rintro e V9 ⟨rfl, hb9⟩; have S11 := Lib.hid (Sb_keep S10.out hb9); have Z1_9 := Lib.hid (Z1_8.out.keep hb9); have M1_9 := Lib.hid (M1_8.out.keep hb9); clear Z1_8 M1_8; have Z2_9 := Lib.hid (Z2_8.out.keep hb9); have M2_9 := Lib.hid (M2_8.out.keep hb9); clear Z2_8 M2_8; have Z3_9 := Lib.hid (Z3_8.out.keep hb9); have M3_9 := Lib.hid (M3_8.out.keep hb9); clear Z3_8 M3_8; have Z4_9 := Lib.hid (Z4_8.out.keep hb9); have M4_9 := Lib.hid (M4_8.out.keep hb9); clear Z4_8 M4_8; have Z5_9 := Lib.hid (Z5_8.out.keep hb9); have M5_9 := Lib.hid (M5_8.out.keep hb9); clear Z5_8 M5_8; have Z6_9 := Lib.hid (Z6_8.out.keep hb9); have M6_9 := Lib.hid (M6_8.out.keep hb9); clear Z6_8 M6_8; clear hb9; have z10 := Z1_9.out.c0; have z11 := Z1_9.out.c1; have z20 := Z2_9.out.c0; have z21 := Z2_9.out.c1; have z30 := Z3_9.out.c0; have z31 := Z3_9.out.c1; have z40 := Z4_9.out.c0; have z41 := Z4_9.out.c1; have z50 := Z5_9.out.c0; have z51 := Z5_9.out.c1; have z60 := Z6_9.out.c0; have z61 := Z6_9.out.c1))
    | (go_at_call 18; ((with_reducible refine (csr _ _ _ _ _ HLE.out.2.1 _ M3_9.out M4_9.out).mono ?_); clear z10 z11 z20 z21 z30 z31 z40 z41 z50 z51 z60 z61; rintro e V10 ⟨rfl, hb10⟩; have S12 := Lib.hid (Sb_keep S11.out hb10); have Z1_10 := Lib.hid (Z1_9.out.keep hb10); have M1_10 := Lib.hid (M1_9.out.keep hb10); clear Z1_9 M1_9; have Z2_10 := Lib.hid (Z2_9.out.keep hb10); have M2_10 := Lib.hid (M2_9.out.keep hb10); clear Z2_9 M2_9; have Z3_10 := Lib.hid (Z3_9.out.keep hb10); have M3_10 := Lib.hid (M3_9.out.keep hb10); clear Z3_9 M3_9; have Z4_10 := Lib.hid (Z4_9.out.keep hb10); have M4_10 := Lib.hid (M4_9.out.keep hb10); clear Z4_9 M4_9; have Z5_10 := Lib.hid (Z5_9.out.keep hb10); have M5_10 := Lib.hid (M5_9.out.keep hb10); clear Z5_9 M5_9; have Z6_10 := Lib.hid (Z6_9.out.keep hb10); have M6_10 := Lib.hid (M6_9.out.keep hb10); clear Z6_9 M6_9; clear hb10; have z10 := Z1_10.out.c0; have z11 := Z1_10.out.c1; have z20 := Z2_10.out.c0; have z21 := Z2_10.out.c1; have z30 := Z3_10.out.c0; have z31 := Z3_10.out.c1; have z40 := Z4_10.out.c0; have z41 := Z4_10.out.c1; have z50 := Z5_10.out.c0; have z51 := Z5_10.out.c1; have z60 := Z6_10.out.c0; have z61 := Z6_10.out.c1))
    | (go_at_call 18; ((with_reducible refine (csr _ _ _ _ _ HLE.out.2.2 _ M5_10.out M6_10.out).mono ?_); clear z10 z11 z20 z21 z30 z31 z40 z41 z50 z51 z60 z61; rintro e V11 ⟨rfl, hb11⟩; have S13 := Lib.hid (Sb_keep S12.out hb11); have Z1_11 := Lib.hid (Z1_10.out.keep hb11); have M1_11 := Lib.hid (M1_10.out.keep hb11); clear Z1_10 M1_10; have Z2_11 := Lib.hid (Z2_10.out.keep hb11); have M2_11 := Lib.hid (M2_10.out.keep hb11); clear Z2_10 M2_10; have Z3_11 := Lib.hid (Z3_10.out.keep hb11); have M3_11 := Lib.hid (M3_10.out.keep hb11); clear Z3_10 M3_10; have Z4_11 := Lib.hid (Z4_10.out.keep hb11); have M4_11 := Lib.hid (M4_10.out.keep hb11); clear Z4_10 M4_10; have Z5_11 := Lib.hid (Z5_10.out.keep hb11); have M5_11 := Lib.hid (M5_10.out.keep hb11); clear Z5_10 M5_10; have Z6_11 := Lib.hid (Z6_10.out.keep hb11); have M6_11 := Lib.hid (M6_10.out.keep hb11); clear Z6_10 M6_10; clear hb11; have z10 := Z1_11.out.c0; have z11 := Z1_11.out.c1; have z20 := Z2_11.out.c0; have z21 := Z2_11.out.c1; have z30 := Z3_11.out.c0; have z31 := Z3_11.out.c1; have z40 := Z4_11.out.c0; have z41 := Z4_11.out.c1; have z50 := Z5_11.out.c0; have z51 := Z5_11.out.c1; have z60 := Z6_11.out.c0; have z61 := Z6_11.out.c1))
    | (go_at_call 9; ((with_reducible refine (caw _).mono ?_); clear caw; rintro e V12 ⟨rfl, hb12⟩; have HF := Lib.hid (bel2 S13.out.b hb12); clear hb12))
    | fail)
  go_ret
  exact ⟨rfl, HF.out⟩
set_option maxRecDepth 100000 in
set_option maxHeartbeats 25600000 in
theorem walk_none (t0 : Int) (a0 : Option Addr) (cap0 : Nat) (N0 : List Nd) (h1 l1 c1 u1 m1 a2 : Int) (w : World) (w0 : Ns w a0 cap0 N0) (s0 : Mid N0) (hL : Lgt N0) (hk : NxtO N0 t0 a2 none) :
    Calls Try.prog 3 #[.agg #[.int .i64 t0, .slice a0 N0.length cap0], .agg #[.int .i64 h1, .int .i64 l1, .int .i64 c1, .int .i64 u1, .int .i64 m1], .int .i64 a2] w fun e w' => e = .returned (.bool true) ∧ Below w.heap.size w w' := by
  have S1 := Lib.hid (Sb_new w t0 a0 cap0 N0 h1 l1 c1 u1 m1)
  have hs := hL.small
  have hl1 : N0.length ≤ 450 := hL.1
  have hT : ∀ s, Tr N0 s t0 → (allP N0 s.lvs).length ≤ 2100 := fun s hs => Nat.le_trans (lgt_total hs hL) (by decide)
  obtain ⟨h1', l1', c1', u1', m1', hC⟩ : ∃ h1' l1' c1' u1' m1', Cl h1 l1 c1 u1 m1 h1' l1' c1' u1' m1' := ⟨_, _, _, _, _, rfl, rfl, rfl, rfl, rfl⟩
  obtain ⟨xs, Qs, hS⟩ := splO_ex N0 t0 a2
  obtain ⟨xj, Qj, hJ⟩ := joiO_ex N0 t0 a2
  obtain ⟨d, Qb, hB⟩ := bndO_ex N0 t0 a2 h1' l1'
  have ls := spl_le hS
  have lj := joi_le hJ
  have lb := bnd_le hB
  have cl := light_any t0 a0 cap0 N0 _ (w0.keep S1.out.b) s0 0 (fun _ => rfl) (fun h => absurd hL h)
  have c1_ := fun W (hb : Below w.heap.size w W) => split_any t0 a0 cap0 N0 a2 W (w0.keep hb) hs (by omega) xs Qs hS
  have c2_ := fun W (hb : Below w.heap.size w W) => rspl_any t0 a0 cap0 N0 a2 W (w0.keep hb) hs (by omega) xs Qs hS
  have c3_ := fun W (hb : Below w.heap.size w W) => join_any t0 a0 cap0 N0 a2 W (w0.keep hb) hs hT xj Qj hJ
  have c4_ := fun W (hb : Below w.heap.size w W) => rjl_any t0 a0 cap0 N0 a2 W (w0.keep hb) hs hT xj Qj hJ
  have c5_ := fun W (hb : Below w.heap.size w W) => bend_any t0 a0 cap0 N0 h1 l1 c1 u1 m1 h1' l1' c1' u1' m1' a2 W (w0.keep hb) hs (by omega) hT hC d Qb hB
  have c6_ := fun W (hb : Below w.heap.size w W) => rbend_any t0 a0 cap0 N0 h1 l1 c1 u1 m1 h1' l1' c1' u1' m1' a2 W (w0.keep hb) hs (by omega) hT hC d Qb hB
  have c7_ := fun W (hb : Below w.heap.size w W) => next_any t0 a0 cap0 N0 a2 W (w0.keep hb) hs none hk
  have c8_ := fun W (hb : Below w.heap.size w W) => rnb_any t0 a0 cap0 N0 a2 W (w0.keep hb) hs none hk (-1) rfl
  have csr := fun (aa bb : Option Addr) (ca cb : Nat) (Q : List Nd) (hl : Q.length ≤ 10000000) W (h : Ns W aa ca Q) (h2 : Ns W bb cb Q) => sraw_any 0 0 aa bb ca cb Q Q W h h2 hl hl true ⟨fun _ => ⟨rfl, rfl⟩, fun _ => rfl⟩
  have caw := fun W => awake_any W
  simp only [kI, Option.isSome] at c7_
  unfold PlB trv at c1_ c2_ c3_ c4_
  unfold BnIs trv at c5_ c6_
  unfold trv at cl csr c7_ c8_
  have HLE := Lib.hid (And.intro ls (And.intro lj lb))
  clear w0 s0 hL hs hl1 hT hC hS hJ hB hk ls lj lb
  go_enter Try.func3, Try.ntmps3
  go_wp2_with (first
    | (go_at_call 8; ((with_reducible refine cl.mono ?_); clear cl; rintro e W3 ⟨rfl, hb3⟩; have S2 := Lib.hid (Sb_keep S1.out hb3); clear hb3; have k0 := S2.out.g.c0; have k1 := S2.out.g.c1))
    | (go_at_call 10; ((with_reducible refine (c1_ _ S2.out.b).mono ?_); clear c1_ k0 k1; rintro e V1 ⟨b1, d1, rfl, hn1, hb1⟩; have S3 := Lib.hid (Sb_keep (Sb_keep S2.out hb1) (al1 (.cells #[.int .i64 0, .slice b1 Qs.length d1] 24))); have Z1_1 := Lib.hid (Tq.new V1 0 b1 Qs.length d1); have M1_1 := Lib.hid (hn1.keep (al1 (.cells #[.int .i64 0, .slice b1 Qs.length d1] 24))); clear hn1 hb1; have k0 := S3.out.g.c0; have k1 := S3.out.g.c1))
    | (go_at_call 11; ((with_reducible refine (c2_ _ S3.out.b).mono ?_); clear c2_ k0 k1; rintro e V2 ⟨b2, d2, rfl, hn2, hb2⟩; have S4 := Lib.hid (Sb_keep (Sb_keep S3.out hb2) (al1 (.cells #[.int .i64 0, .slice b2 Qs.length d2] 24))); have Z1_2 := Lib.hid ((Z1_1.out.keep hb2).keep (al1 (.cells #[.int .i64 0, .slice b2 Qs.length d2] 24))); have M1_2 := Lib.hid ((M1_1.out.keep hb2).keep (al1 (.cells #[.int .i64 0, .slice b2 Qs.length d2] 24))); clear Z1_1 M1_1; have Z2_2 := Lib.hid (Tq.new V2 0 b2 Qs.length d2); have M2_2 := Lib.hid (hn2.keep (al1 (.cells #[.int .i64 0, .slice b2 Qs.length d2] 24))); clear hn2 hb2; have k0 := S4.out.g.c0; have k1 := S4.out.g.c1))
    | (go_at_call 12; ((with_reducible refine (c3_ _ S4.out.b).mono ?_); clear c3_ k0 k1; rintro e V3 ⟨b3, d3, rfl, hn3, hb3⟩; have S5 := Lib.hid (Sb_keep (Sb_keep S4.out hb3) (al1 (.cells #[.int .i64 0, .slice b3 Qj.length d3] 24))); have Z1_3 := Lib.hid ((Z1_2.out.keep hb3).keep (al1 (.cells #[.int .i64 0, .slice b3 Qj.length d3] 24))); have M1_3 := Lib.hid ((M1_2.out.keep hb3).keep (al1 (.cells #[.int .i64 0, .slice b3 Qj.length d3] 24))); clear Z1_2 M1_2; have Z2_3 := Lib.hid ((Z2_2.out.keep hb3).keep (al1 (.cells #[.int .i64 0, .slice b3 Qj.length d3] 24))); have M2_3 := Lib.hid ((M2_2.out.keep hb3).keep (al1 (.cells #[.int .i64 0, .slice b3 Qj.length d3] 24))); clear Z2_2 M2_2; have Z3_3 := Lib.hid (Tq.new V3 0 b3 Qj.length d3); have M3_3 := Lib.hid (hn3.keep (al1 (.cells #[.int .i64 0, .slice b3 Qj.length d3] 24))); clear hn3 hb3; have k0 := S5.out.g.c0; have k1 := S5.out.g.c1))
    | (go_at_call 13; ((with_reducible refine (c4_ _ S5.out.b).mono ?_); clear c4_ k0 k1; rintro e V4 ⟨b4, d4, rfl, hn4, hb4⟩; have S6 := Lib.hid (Sb_keep (Sb_keep S5.out hb4) (al1 (.cells #[.int .i64 0, .slice b4 Qj.length d4] 24))); have Z1_4 := Lib.hid ((Z1_3.out.keep hb4).keep (al1 (.cells #[.int .i64 0, .slice b4 Qj.length d4] 24))); have M1_4 := Lib.hid ((M1_3.out.keep hb4).keep (al1 (.cells #[.int .i64 0, .slice b4 Qj.length d4] 24))); clear Z1_3 M1_3; have Z2_4 := Lib.hid ((Z2_3.out.keep hb4).keep (al1 (.cells #[.int .i64 0, .slice b4 Qj.length d4] 24))); have M2_4 := Lib.hid ((M2_3.out.keep hb4).keep (al1 (.cells #[.int .i64 0, .slice b4 Qj.length d4] 24))); clear Z2_3 M2_3; have Z3_4 := Lib.hid ((Z3_3.out.keep hb4).keep (al1 (.cells #[.int .i64 0, .slice b4 Qj.length d4] 24))); have M3_4 := Lib.hid ((M3_3.out.keep hb4).keep (al1 (.cells #[.int .i64 0, .slice b4 Qj.length d4] 24))); clear Z3_3 M3_3; have Z4_4 := Lib.hid (Tq.new V4 0 b4 Qj.length d4); have M4_4 := Lib.hid (hn4.keep (al1 (.cells #[.int .i64 0, .slice b4 Qj.length d4] 24))); clear hn4 hb4; have p0 := S6.out.p.1; have p1 := S6.out.p.2.1; have p2 := S6.out.p.2.2.1; have p3 := S6.out.p.2.2.2.1; have p4 := S6.out.p.2.2.2.2; have k0 := S6.out.g.c0; have k1 := S6.out.g.c1))
    | (go_at_call 14; ((with_reducible refine (c5_ _ S6.out.b).mono ?_); clear c5_ k0 k1 p0 p1 p2 p3 p4; rintro e V5 ⟨b5, d5, rfl, hn5, hb5⟩; have S7 := Lib.hid (Sb_keep (Sb_keep S6.out hb5) (al1 (.cells #[.int .i64 0, .slice b5 Qb.length d5] 24))); have Z1_5 := Lib.hid ((Z1_4.out.keep hb5).keep (al1 (.cells #[.int .i64 0, .slice b5 Qb.length d5] 24))); have M1_5 := Lib.hid ((M1_4.out.keep hb5).keep (al1 (.cells #[.int .i64 0, .slice b5 Qb.length d5] 24))); clear Z1_4 M1_4; have Z2_5 := Lib.hid ((Z2_4.out.keep hb5).keep (al1 (.cells #[.int .i64 0, .slice b5 Qb.length d5] 24))); have M2_5 := Lib.hid ((M2_4.out.keep hb5).keep (al1 (.cells #[.int .i64 0, .slice b5 Qb.length d5] 24))); clear Z2_4 M2_4; have Z3_5 := Lib.hid ((Z3_4.out.keep hb5).keep (al1 (.cells #[.int .i64 0, .slice b5 Qb.length d5] 24))); have M3_5 := Lib.hid ((M3_4.out.keep hb5).keep (al1 (.cells #[.int .i64 0, .slice b5 Qb.length d5] 24))); clear Z3_4 M3_4; have Z4_5 := Lib.hid ((Z4_4.out.keep hb5).keep (al1 (.cells #[.int .i64 0, .slice b5 Qb.length d5] 24))); have M4_5 := Lib.hid ((M4_4.out.keep hb5).keep (al1 (.cells #[.int .i64 0, .slice b5 Qb.length d5] 24))); clear Z4_4 M4_4; have Z5_5 := Lib.hid (Tq.new V5 0 b5 Qb.length d5); have M5_5 := Lib.hid (hn5.keep (al1 (.cells #[.int .i64 0, .slice b5 Qb.length d5] 24))); clear hn5 hb5; have p0 := S7.out.p.1; have p1 := S7.out.p.2.1; have p2 := S7.out.p.2.2.1; have p3 := S7.out.p.2.2.2.1; have p4 := S7.out.p.2.2.2.2; have k0 := S7.out.g.c0; have k1 := S7.out.g.c1))
    | (go_at_call 15; ((with_reducible refine (c6_ _ S7.out.b).mono ?_); clear c6_ k0 k1 p0 p1 p2 p3 p4; rintro e V6 ⟨b6, d6, rfl, hn6, hb6⟩; have S8 := Lib.hid (Sb_keep (Sb_keep S7.out hb6) (al1 (.cells #[.int .i64 0, .slice b6 Qb.length d6] 24))); have Z1_6 := Lib.hid ((Z1_5.out.keep hb6).keep (al1 (.cells #[.int .i64 0, .slice b6 Qb.length d6] 24))); have M1_6 := Lib.hid ((M1_5.out.keep hb6).keep (al1 (.cells #[.int .i64 0, .slice b6 Qb.length d6] 24))); clear Z1_5 M1_5; have Z2_6 := Lib.hid ((Z2_5.out.keep hb6).keep (al1 (.cells #[.int .i64 0, .slice b6 Qb.length d6] 24))); have M2_6 := Lib.hid ((M2_5.out.keep hb6).keep (al1 (.cells #[.int .i64 0, .slice b6 Qb.length d6] 24))); clear Z2_5 M2_5; have Z3_6 := Lib.hid ((Z3_5.out.keep hb6).keep (al1 (.cells #[.int .i64 0, .slice b6 Qb.length d6] 24))); have M3_6 := Lib.hid ((M3_5.out.keep hb6).keep (al1 (.cells #[.int .i64 0, .slice b6 Qb.length d6] 24))); clear Z3_5 M3_5; have Z4_6 := Lib.hid ((Z4_5.out.keep hb6).keep (al1 (.cells #[.int .i64 0, .slice b6 Qb.length d6] 24))); have M4_6 := Lib.hid ((M4_5.out.keep hb6).keep (al1 (.cells #[.int .i64 0, .slice b6 Qb.length d6] 24))); clear Z4_5 M4_5; have Z5_6 := Lib.hid ((Z5_5.out.keep hb6).keep (al1 (.cells #[.int .i64 0, .slice b6 Qb.length d6] 24))); have M5_6 := Lib.hid ((M5_5.out.keep hb6).keep (al1 (.cells #[.int .i64 0, .slice b6 Qb.length d6] 24))); clear Z5_5 M5_5; have Z6_6 := Lib.hid (Tq.new V6 0 b6 Qb.length d6); have M6_6 := Lib.hid (hn6.keep (al1 (.cells #[.int .i64 0, .slice b6 Qb.length d6] 24))); clear hn6 hb6; have k0 := S8.out.g.c0; have k1 := S8.out.g.c1))
    | (go_at_call 16; ((with_reducible refine (c7_ _ S8.out.b).mono ?_); clear c7_ k0 k1; rintro e V7 ⟨rfl, hb7⟩; have S9 := Lib.hid (Sb_keep S8.out hb7); have Z1_7 := Lib.hid (Z1_6.out.keep hb7); have M1_7 := Lib.hid (M1_6.out.keep hb7); clear Z1_6 M1_6; have Z2_7 := Lib.hid (Z2_6.out.keep hb7); have M2_7 := Lib.hid (M2_6.out.keep hb7); clear Z2_6 M2_6; have Z3_7 := Lib.hid (Z3_6.out.keep hb7); have M3_7 := Lib.hid (M3_6.out.keep hb7); clear Z3_6 M3_6; have Z4_7 := Lib.hid (Z4_6.out.keep hb7); have M4_7 := Lib.hid (M4_6.out.keep hb7); clear Z4_6 M4_6; have Z5_7 := Lib.hid (Z5_6.out.keep hb7); have M5_7 := Lib.hid (M5_6.out.keep hb7); clear Z5_6 M5_6; have Z6_7 := Lib.hid (Z6_6.out.keep hb7); have M6_7 := Lib.hid (M6_6.out.keep hb7); clear Z6_6 M6_6; clear hb7; have k0 := S9.out.g.c0; have k1 := S9.out.g.c1))
    | (go_at_call 17; ((with_reducible refine (c8_ _ S9.out.b).mono ?_); clear c8_ k0 k1; rintro e V8 ⟨rfl, hb8⟩; have S10 := Lib.hid (Sb_keep S9.out hb8); have Z1_8 := Lib.hid (Z1_7.out.keep hb8); have M1_8 := Lib.hid (M1_7.out.keep hb8); clear Z1_7 M1_7; have Z2_8 := Lib.hid (Z2_7.out.keep hb8); have M2_8 := Lib.hid (M2_7.out.keep hb8); clear Z2_7 M2_7; have Z3_8 := Lib.hid (Z3_7.out.keep hb8); have M3_8 := Lib.hid (M3_7.out.keep hb8); clear Z3_7 M3_7; have Z4_8 := Lib.hid (Z4_7.out.keep hb8); have M4_8 := Lib.hid (M4_7.out.keep hb8); clear Z4_7 M4_7; have Z5_8 := Lib.hid (Z5_7.out.keep hb8); have M5_8 := Lib.hid (M5_7.out.keep hb8); clear Z5_7 M5_7; have Z6_8 := Lib.hid (Z6_7.out.keep hb8); have M6_8 := Lib.hid (M6_7.out.keep hb8); clear Z6_7 M6_7; clear hb8; have z10 := Z1_8.out.c0; have z11 := Z1_8.out.c1; have z20 := Z2_8.out.c0; have z21 := Z2_8.out.c1; have z30 := Z3_8.out.c0; have z31 := Z3_8.out.c1; have z40 := Z4_8.out.c0; have z41 := Z4_8.out.c1; have z50 := Z5_8.out.c0; have z51 := Z5_8.out.c1; have z60 := Z6_8.out.c0; have z61 := Z6_8.out.c1))
    | (go_at_call 18; ((with_reducible refine (csr _ _ _ _ _ HLE.out.1 _ M1_8.out M2_8.out).mono ?_); clear z10 z11 z20 z21 z30 z31 z40 z41 z50 z51 z60 z61; rintro e V9 ⟨rfl, hb9⟩; have S11 := Lib.hid (Sb_keep S10.out hb9); have Z1_9 := Lib.hid (Z1_8.out.keep hb9); have M1_9 := Lib.hid (M1_8.out.keep hb9); clear Z1_8 M1_8; have Z2_9 := Lib.hid (Z2_8.out.keep hb9); have M2_9 := Lib.hid (M2_8.out.keep hb9); clear Z2_8 M2_8; have Z3_9 := Lib.hid (Z3_8.out.keep hb9); have M3_9 := Lib.hid (M3_8.out.keep hb9); clear Z3_8 M3_8; have Z4_9 := Lib.hid (Z4_8.out.keep hb9); have M4_9 := Lib.hid (M4_8.out.keep hb9); clear Z4_8 M4_8; have Z5_9 := Lib.hid (Z5_8.out.keep hb9); have M5_9 := Lib.hid (M5_8.out.keep hb9); clear Z5_8 M5_8; have Z6_9 := Lib.hid (Z6_8.out.keep hb9); have M6_9 := Lib.hid (M6_8.out.keep hb9); clear Z6_8 M6_8; clear hb9; have z10 := Z1_9.out.c0; have z11 := Z1_9.out.c1; have z20 := Z2_9.out.c0; have z21 := Z2_9.out.c1; have z30 := Z3_9.out.c0; have z31 := Z3_9.out.c1; have z40 := Z4_9.out.c0; have z41 := Z4_9.out.c1; have z50 := Z5_9.out.c0; have z51 := Z5_9.out.c1; have z60 := Z6_9.out.c0; have z61 := Z6_9.out.c1))
    | (go_at_call 18; ((with_reducible refine (csr _ _ _ _ _ HLE.out.2.1 _ M3_9.out M4_9.out).mono ?_); clear z10 z11 z20 z21 z30 z31 z40 z41 z50 z51 z60 z61; rintro e V10 ⟨rfl, hb10⟩; have S12 := Lib.hid (Sb_keep S11.out hb10); have Z1_10 := Lib.hid (Z1_9.out.keep hb10); have M1_10 := Lib.hid (M1_9.out.keep hb10); clear Z1_9 M1_9; have Z2_10 := Lib.hid (Z2_9.out.keep hb10); have M2_10 := Lib.hid (M2_9.out.keep hb10); clear Z2_9 M2_9; have Z3_10 := Lib.hid (Z3_9.out.keep hb10); have M3_10 := Lib.hid (M3_9.out.keep hb10); clear Z3_9 M3_9; have Z4_10 := Lib.hid (Z4_9.out.keep hb10); have M4_10 := Lib.hid (M4_9.out.keep hb10); clear Z4_9 M4_9; have Z5_10 := Lib.hid (Z5_9.out.keep hb10); have M5_10 := Lib.hid (M5_9.out.keep hb10); clear Z5_9 M5_9; have Z6_10 := Lib.hid (Z6_9.out.keep hb10); have M6_10 := Lib.hid (M6_9.out.keep hb10); clear Z6_9 M6_9; clear hb10; have z10 := Z1_10.out.c0; have z11 := Z1_10.out.c1; have z20 := Z2_10.out.c0; have z21 := Z2_10.out.c1; have z30 := Z3_10.out.c0; have z31 := Z3_10.out.c1; have z40 := Z4_10.out.c0; have z41 := Z4_10.out.c1; have z50 := Z5_10.out.c0; have z51 := Z5_10.out.c1; have z60 := Z6_10.out.c0; have z61 := Z6_10.out.c1))
    | (go_at_call 18; ((with_reducible refine (csr _ _ _ _ _ HLE.out.2.2 _ M5_10.out M6_10.out).mono ?_); clear z10 z11 z20 z21 z30 z31 z40 z41 z50 z51 z60 z61; rintro e V11 ⟨rfl, hb11⟩; have S13 := Lib.hid (Sb_keep S12.out hb11); have Z1_11 := Lib.hid (Z1_10.out.keep hb11); have M1_11 := Lib.hid (M1_10.out.keep hb11); clear Z1_10 M1_10; have Z2_11 := Lib.hid (Z2_10.out.keep hb11); have M2_11 := Lib.hid (M2_10.out.keep hb11); clear Z2_10 M2_10; have Z3_11 := Lib.hid (Z3_10.out.keep hb11); have M3_11 := Lib.hid (M3_10.out.keep hb11); clear Z3_10 M3_10; have Z4_11 := Lib.hid (Z4_10.out.keep hb11); have M4_11 := Lib.hid (M4_10.out.keep hb11); clear Z4_10 M4_10; have Z5_11 := Lib.hid (Z5_10.out.keep hb11); have M5_11 := Lib.hid (M5_10.out.keep hb11); clear Z5_10 M5_10; have Z6_11 := Lib.hid (Z6_10.out.keep hb11); have M6_11 := Lib.hid (M6_10.out.keep hb11); clear Z6_10 M6_10; clear hb11; have z10 := Z1_11.out.c0; have z11 := Z1_11.out.c1; have z20 := Z2_11.out.c0; have z21 := Z2_11.out.c1; have z30 := Z3_11.out.c0; have z31 := Z3_11.out.c1; have z40 := Z4_11.out.c0; have z41 := Z4_11.out.c1; have z50 := Z5_11.out.c0; have z51 := Z5_11.out.c1; have z60 := Z6_11.out.c0; have z61 := Z6_11.out.c1))
    | (go_at_call 9; ((with_reducible refine (caw _).mono ?_); clear caw; rintro e V12 ⟨rfl, hb12⟩; have HF := Lib.hid (bel2 S13.out.b hb12); clear hb12))
    | fail)
  go_ret
  exact ⟨rfl, HF.out⟩

theorem walk (t0 : Int) (a0 : Option Addr) (cap0 : Nat) (N0 : List Nd) (h1 l1 c1 u1 m1 : Int) (a2 : Int) (w : World) (w0 : Ns w a0 cap0 N0) (s0 : Mid N0) (w2 : (Lit.int .i64 a2).wf = true) :
    Calls Try.prog 3 #[.agg #[.int .i64 t0, .slice a0 N0.length cap0], .agg #[.int .i64 h1, .int .i64 l1, .int .i64 c1, .int .i64 u1, .int .i64 m1], .int .i64 a2] w fun e w' => e = .returned (.bool true) ∧ Below w.heap.size w w' := by
  by_cases hL : Lgt N0
  · obtain ⟨k, hk⟩ := nxtO_ex N0 t0 a2
    cases k with
    | none => exact walk_none t0 a0 cap0 N0 h1 l1 c1 u1 m1 a2 w w0 s0 hL hk
    | some n => exact walk_some t0 a0 cap0 N0 h1 l1 c1 u1 m1 a2 w w0 s0 hL n hk
  · exact walk_big t0 a0 cap0 N0 h1 l1 c1 u1 m1 a2 w w0 s0 hL

set_option maxRecDepth 100000 in
theorem lifted (os : Os) (started : os.Started) (H : Type) (enc : TypeId × Value → H) :
    ReturnsInHanded {} Try.checked os 3 .any (Rows.adaptFormsSpec.pre6 enc Try.prog Try.f3 Rows.adaptFormsRow.domain false) (Rows.adaptFormsSpec.post enc Try.prog Try.f3 false true false false) := by
  refine returnsInHanded_of_change_sized (C := Try.checked) own started (by kernel_rfl) Try.func3
    (ChangeSpec.witness6 (enc := enc) (C := Try.checked) false ⟨#[], #[.agg #[.int .i64 0, .slice none 0 0], .agg #[.int .i64 0, .int .i64 0, .int .i64 0, .int .i64 0, .int .i64 0], .int .i64 0], []⟩ 8 (by kernel_rfl) (by kernel_rfl) (by kernel_rfl) (by kernel_rfl)) ?_
  intro W base args ds gs before hval0 hW hcnd hsz _
  have hval : ∀ (j : Nat) t v, Try.f3.params[j]? = some t → args[j]? = some v → Value.okWide Try.prog W .any base t v := hval0
  have hW' := hW
  obtain ⟨p, q, hA0, hV, rfl, hfz, hnd⟩ := hW
  have hA : DataW.TrodAll enc Try.prog W 0 (fun _ => true) true Try.f3.params.toList args.toList ds p := hA0
  rw [Try.params3] at hA hval
  obtain ⟨v0, vs0, d0, ds0, p0, q0, hargs, rfl, rfl, h0, r0⟩ := trodAll_cons hA
  obtain ⟨v1, vs1, d1, ds1, p1, q1, rfl, rfl, rfl, h1, r1⟩ := trodAll_cons r0
  obtain ⟨v2, vs2, d2, ds2, p2, q2, rfl, rfl, rfl, h2, r2⟩ := trodAll_cons r1
  obtain ⟨rfl, rfl, rfl⟩ := trodAll_nil r2
  obtain rfl : args = #[v0, v1, v2] := by cases args; simp_all
  obtain ⟨rfl, rfl⟩ := trodVars_none hV
  have k0 := h0
  have lt0 : ∀ x ∈ p0, x.block < W.heap.size := by obtain ⟨m, hm⟩ := k0; exact DataW.trod_lt m _ _ _ hm
  obtain ⟨u0, rfl, _⟩ := okWide_struct Try.underlying24 (hval 0 24 v0 rfl rfl)
  obtain ⟨t0_, a0, cap0, N0, e0, w0, s0⟩ := fields_tree (enc := enc) (w := W) (cs := u0.toList) (fuel := h0.choose) (by simpa [Value.cells] using h0.choose_spec) (fun n hn => by simpa using List.all_eq_true.1 hsz n (DataW.weights_mem_each (j := 0) rfl rfl n hn))
  obtain rfl : u0 = #[.int .i64 t0_, .slice a0 N0.length cap0] := by cases u0; simp_all
  have k1 := h1
  have lt1 : ∀ x ∈ p1, x.block < W.heap.size := by obtain ⟨m, hm⟩ := k1; exact DataW.trod_lt m _ _ _ hm
  obtain ⟨u1, rfl, _⟩ := okWide_struct Try.underlying26 (hval 1 26 v1 rfl rfl)
  obtain ⟨h1_, l1_, c1_, u1_, m1_, e1⟩ := fields_pol (enc := enc) (w := W) (cs := u1.toList) (fuel := h1.choose) (by simpa [Value.cells] using h1.choose_spec)
  obtain rfl : u1 = #[.int .i64 h1_, .int .i64 l1_, .int .i64 c1_, .int .i64 u1_, .int .i64 m1_] := by cases u1; simp_all
  have k2 := h2
  have lt2 : ∀ x ∈ p2, x.block < W.heap.size := by obtain ⟨m, hm⟩ := k2; exact DataW.trod_lt m _ _ _ hm
  obtain ⟨a2, rfl, rfl, rfl, w2⟩ := open_int Try.underlying3 (hval 2 3 v2 rfl rfl) h2
  clear hA0 hval0
  refine (walk t0_ a0 cap0 N0 h1_ l1_ c1_ u1_ m1_ a2 W w0 s0 w2).mono fun e W' ⟨he, bel⟩ => ?_
  subst he
  exact ⟨_, rfl, _, _, _, [], _, [], hW', trodAll_mk1 (shut_bool Try.underlying4 _), (trodAll_cons_mk (Below.trod laidOut (by kernel_rfl) (of_decide_eq_true (by kernel_rfl)) k0 bel lt0) (trodAll_cons_mk (Below.trod laidOut (by kernel_rfl) (of_decide_eq_true (by kernel_rfl)) k1 bel lt1) (trodAll_cons_mk (Below.trod laidOut (by kernel_rfl) (of_decide_eq_true (by kernel_rfl)) k2 bel lt2) trodAll_mk0))), rfl, bel.frame _, fun h => by cases h⟩

theorem over : Rows.adaptFormsRow.holds Try.pinned (OpenSpec.ofChange Rows.adaptFormsSpec) :=
  OpenClaim.holds_of_wide 3 Try.f3 rfl rfl rfl rfl rfl rfl rfl ⟨rfl, rfl, rfl, rfl, rfl⟩ rfl rfl rfl rfl rfl (by kernel_rfl) Try.func3 (by kernel_rfl)
    (of_decide_eq_true (by kernel_rfl)) (by unfold Func.isWrapper; first | (rw [if_pos (by decide +kernel)]; kernel_rfl) | (rw [if_neg (by decide +kernel)]; exact ⟨rfl, rfl⟩))
    (fun os started H enc _ => lifted os started H enc)

theorem adaptFormsHolds : Rows.AdaptFormsSaid := over
#print axioms adaptFormsHolds
end Go.Proofs.Yteebceecohhegaa.adaptForms
