/- TreeSpoilt (P14.1): of a tree of at most 450 nodes and 2000 pairs that may be: with one node more, or with another Left in a route, it may not be, and Plain tells no nodes and no. No condition but that of the form. -/
import Derived.Test.YtlpjbgojijkdjaaRows
import Derived.Test.YtlpjbgojijkdjaaTsG
import Derived.Test.YtlpjbgojijkdjaaTrY
import Derived.OwnWalk
import Derived.LoopTactic
import Derived.WalkKit
import Derived.ProofKit
import Derived.OpenShut
import Derived.ChangeOld
import Derived.Below
namespace Go.Proofs.Ytlpjbgojijkdjaa.treeSpoilt
open Go.ChangeShapes Go.WideShapes Go.ChangeAt Go.RowKit
set_option linter.all false

theorem own : ownKnob Try.prog.godebug = none := by kernel_rfl
theorem laidOut : laidOutB Try.prog = true := by kernel_rfl

theorem wrapU64 (a : Int) : IntKind.u64.wrap a = a % 18446744073709551616 := by first | rfl | simp [IntKind.wrap]
/-- int(uint64(a) % uint64(d)). -/
theorem umod (a d : Int) (h : 0 < d) (h2 : d ≤ 9223372036854775807) : ∃ m : Nat, (m : Int) < d ∧ wrap64 ((IntKind.u64.wrap a).tmod d) = m := by
  have h0 : 0 ≤ a % 18446744073709551616 := Int.emod_nonneg _ (by decide)
  have h1 := Int.emod_nonneg (a % 18446744073709551616) (show d ≠ 0 by omega)
  have h3 := Int.emod_lt_of_pos (a % 18446744073709551616) h
  refine ⟨((a % 18446744073709551616) % d).toNat, by omega, ?_⟩
  rw [wrapU64, Int.tmod_eq_emod_of_nonneg h0]
  unfold wrap64
  omega
/-- What holds all along. -/
structure Sp (w : World) (t : Int) (a : Option Addr) (cap : Nat) (N : List Nd) (W : World) : Prop where
  g : Bk W w.heap.size [.int .i64 t, .slice a N.length cap]
  b : Below w.heap.size w W
theorem Sp.keep {w : World} {t : Int} {a : Option Addr} {cap : Nat} {N : List Nd} {W W' : World} (h : Sp w t a cap N W) (hb : Below W.heap.size W W') : Sp w t a cap N W' := ⟨h.g.keep hb, bel2 h.b hb⟩
theorem Sp.only {w : World} {t : Int} {a : Option Addr} {cap : Nat} {N : List Nd} {W W' : World} (h : Sp w t a cap N W) {S : Nat → Prop} (o : Only S W W') (hS : ∀ k, S k → w.heap.size < k) : Sp w t a cap N W' :=
  ⟨h.g.only o (fun e => by have := hS _ e; omega), h.b.trans (o.below (B := w.heap.size) (fun i hi => by have := hS i hi; omega) h.b.size)⟩
theorem small_more {N : List Nd} (h : Lgt N) : Small (N ++ [⟨false, 0, 0, 0, [], 0⟩]) := ⟨by have := h.1; simp; omega, fun n hn => by
  rcases List.mem_append.1 hn with hn | hn
  · exact h.small.2 n hn
  · rw [List.mem_singleton.1 hn]; simp⟩
theorem small_set {N : List Nd} (h : Lgt N) {i : Nat} {n : Nd} (hn : N[i]? = some n) (x : Int) : Small (N.set i ⟨n.r, n.k, x, n.b, n.p, n.s⟩) := ⟨by have := h.1; simp; omega, fun m hm => by
  rcases List.mem_or_eq_of_mem_set hm with hm | hm
  · exact h.small.2 m hm
  · rw [hm]; exact h.small.2 n (List.mem_of_getElem? hn)⟩
theorem map_set {M : List RN} {N : List Nd} (h : M.map (fun m => m.n) = N) (i : Nat) (m : RN) : (M.set i m).map (fun m => m.n) = N.set i m.n := by rw [List.map_set, h]
set_option maxRecDepth 100000 in
set_option maxHeartbeats 6400000 in
theorem walk_big (t0 : Int) (a0 : Option Addr) (cap0 : Nat) (N0 : List Nd) (w : World) (w0 : Ns w a0 cap0 N0) (s0 : Mid N0) (a1 a2 : Int) (hL : ¬ Lgt N0) :
    Calls Try.prog 8 #[.agg #[.int .i64 t0, .slice a0 N0.length cap0], .int .i64 a1, .int .i64 a2] w fun e w' => e = .returned (.bool true) ∧ Below w.heap.size w w' := by
  have b1 : Below w.heap.size w (w.alloc (.cells #[.int .i64 t0, .slice a0 N0.length cap0] 24)) := al1 _
  have cl := light_any t0 a0 cap0 N0 _ (w0.keep b1) s0 1 (fun h => absurd h hL) (fun _ => rfl)
  have caw := fun W => awake_any W
  have HB := Lib.hid b1
  unfold trv at cl
  clear b1 w0 s0 hL
  go_enter Try.func8, Try.ntmps8
  go_wp2_with (first
    | (go_at_call 9; ((with_reducible refine cl.mono ?_); clear cl; rintro e W3 ⟨rfl, hb3⟩; have HB3 := Lib.hid (bel2 HB.out hb3); clear hb3))
    | (go_at_call 10; ((with_reducible refine (caw _).mono ?_); clear caw; rintro e W4 ⟨rfl, hb4⟩; have HB4 := Lib.hid (bel2 HB3.out hb4); clear hb4))
    | fail)
  go_ret
  exact ⟨rfl, HB4.out⟩
set_option maxRecDepth 100000 in
set_option maxHeartbeats 6400000 in
theorem walk_no (t0 : Int) (a0 : Option Addr) (cap0 : Nat) (N0 : List Nd) (w : World) (w0 : Ns w a0 cap0 N0) (s0 : Mid N0) (a1 a2 : Int) (hL : Lgt N0) (hT : ∀ s, ¬ Tr N0 s t0) :
    Calls Try.prog 8 #[.agg #[.int .i64 t0, .slice a0 N0.length cap0], .int .i64 a1, .int .i64 a2] w fun e w' => e = .returned (.bool true) ∧ Below w.heap.size w w' := by
  have b1 : Below w.heap.size w (w.alloc (.cells #[.int .i64 t0, .slice a0 N0.length cap0] 24)) := al1 _
  have cl := light_any t0 a0 cap0 N0 _ (w0.keep b1) s0 0 (fun _ => rfl) (fun h => absurd hL h)
  have cm := fun W (hb : Below w.heap.size w W) => tmay_any t0 a0 cap0 N0 W (w0.keep hb) hL.small false ⟨fun h => (by cases h), fun ⟨s, hs⟩ => absurd hs (hT s)⟩
  have caw := fun W => awake_any W
  have HB := Lib.hid b1
  have G1 := Lib.hid (Bk.new w #[.int .i64 t0, .slice a0 N0.length cap0] 24)
  unfold trv at cl cm
  clear b1 w0 s0 hL hT
  go_enter Try.func8, Try.ntmps8
  go_wp2_with (first
    | (go_at_call 9; ((with_reducible refine cl.mono ?_); clear cl; rintro e W3 ⟨rfl, hb3⟩; have HB3 := Lib.hid (bel2 HB.out hb3); have k0 := (G1.out.keep hb3).at_ 0 _ rfl; have k1 := (G1.out.keep hb3).at_ 1 _ rfl; clear hb3))
    | (go_at_call 16; ((with_reducible refine (cm _ HB3.out).mono ?_); clear cm k0 k1; rintro e W5 ⟨rfl, hb5⟩; have HB5 := Lib.hid (bel2 HB3.out hb5); clear hb5))
    | (go_at_call 10; ((with_reducible refine (caw _).mono ?_); clear caw; rintro e W4 ⟨rfl, hb4⟩; have HB4 := Lib.hid (bel2 HB5.out hb4); clear hb4))
    | fail)
  go_ret
  exact ⟨rfl, HB4.out⟩
set_option maxRecDepth 100000 in
set_option maxHeartbeats 12800000 in
theorem walk_yes (t0 : Int) (a0 : Option Addr) (cap0 : Nat) (N0 : List Nd) (w : World) (w0 : Ns w a0 cap0 N0) (s0 : Mid N0) (a1 a2 : Int) (hL : Lgt N0) (s : Sh) (hT : Tr N0 s t0) :
    Calls Try.prog 8 #[.agg #[.int .i64 t0, .slice a0 N0.length cap0], .int .i64 a1, .int .i64 a2] w fun e w' => e = .returned (.bool true) ∧ Below w.heap.size w w' := by
  have b1 : Below w.heap.size w (w.alloc (.cells #[.int .i64 t0, .slice a0 N0.length cap0] 24)) := al1 _
  have hs := hL.small
  have hl1 : N0.length ≤ 450 := hL.1
  have hpos : 0 < N0.length := by have := s.pre_pos; have := hT.all; omega
  have hP : PlO N0 t0 true (lay N0 s 0) := .inl ⟨s, hT, rfl, rfl⟩
  have hPl : (lay N0 s 0).length ≤ 1000000 := by have := (hP.small hs).1; omega
  obtain ⟨i, hi, hum⟩ := umod a1 (N0.length : Int) (by omega) (by omega)
  have hil : i < N0.length := by omega
  obtain ⟨x, hx⟩ : ∃ x, N0[i]? = some x := ⟨_, List.getElem?_eq_getElem hil⟩
  have cl := light_any t0 a0 cap0 N0 _ (w0.keep b1) s0 0 (fun _ => rfl) (fun h => absurd hL h)
  have cm := fun W (hb : Below w.heap.size w W) => tmay_any t0 a0 cap0 N0 W (w0.keep hb) hs true ⟨fun _ => ⟨s, hT⟩, fun _ => rfl⟩
  have cst := fun W (hb : Below w.heap.size w W) => rsametree_gen t0 t0 a0 a0 cap0 cap0 N0 N0 W (w0.keep hb) (w0.keep hb) true true _ _ hPl hPl (rp_any hs hP) (rp_any hs hP) true (by simp)
  have cct := fun W (hb : Below w.heap.size w W) => copytree_any t0 a0 cap0 N0 W (w0.keep hb) hs
  have cm2 := fun ao c W (h : Ns W ao c (N0 ++ [⟨false, 0, 0, 0, [], 0⟩])) => tmay_any t0 ao c _ W h (small_more hL) false ⟨fun h => (by cases h), fun ⟨s', hs'⟩ => absurd hs' (tr_more hT _)⟩
  have cm3 := fun (hr : x.r = true) (ha : a2 ≠ x.a) ao c W (h : Ns W ao c (N0.set i ⟨x.r, x.k, a2, x.b, x.p, x.s⟩)) => tmay_any t0 ao c _ W h (small_set hL hx a2) false ⟨fun h => (by cases h), fun ⟨s', hs'⟩ => absurd hs' (tr_spoilt hT hx hr ha)⟩
  have cp3 := fun (hr : x.r = true) (ha : a2 ≠ x.a) ao c W (h : Ns W ao c (N0.set i ⟨x.r, x.k, a2, x.b, x.p, x.s⟩)) => tplain_no t0 ao c _ W h (small_set hL hx a2) (fun s' => tr_spoilt hT hx hr ha)
  have caw := fun W => awake_any W
  have HB := Lib.hid b1
  have S1 := Lib.hid (show Sp w t0 a0 cap0 N0 (w.alloc (.cells #[.int .i64 t0, .slice a0 N0.length cap0] 24)) from ⟨Bk.new w #[.int .i64 t0, .slice a0 N0.length cap0] 24, b1⟩)
  have HN := Lib.hid w0
  have HX := Lib.hid hx
  unfold CpT at cct
  unfold trv at cl cm cst cct cm2 cm3 cp3
  simp only [List.length_append, List.length_cons, List.length_nil, List.length_set, Nat.zero_add] at cm2 cm3 cp3
  have hi0 : (0 : Int) ≤ (i : Int) := by omega
  clear b1 w0 s0 hT hs hP hPl hL hx
  go_enter Try.func8, Try.ntmps8
  go_upto_region 5 with (first
    | (go_at_call 9; ((with_reducible refine cl.mono ?_); clear cl; rintro e W3 ⟨rfl, hb3⟩; have S3 := Lib.hid (S1.out.keep hb3); have k0 := S3.out.g.at_ 0 _ rfl; have k1 := S3.out.g.at_ 1 _ rfl; clear hb3 S1 HB))
    | (go_at_call 16; ((with_reducible refine (cm _ S3.out.b).mono ?_); clear cm k0 k1; rintro e W5 ⟨rfl, hb5⟩; have S5 := Lib.hid (S3.out.keep hb5); have k0 := S5.out.g.at_ 0 _ rfl; have k1 := S5.out.g.at_ 1 _ rfl; clear hb5 S3))
    | (go_at_call 18; ((with_reducible refine (cst _ S5.out.b).mono ?_); clear cst k0 k1; rintro e W6 ⟨rfl, hb6⟩; have S6 := Lib.hid (S5.out.keep hb6); have k0 := S6.out.g.at_ 0 _ rfl; have k1 := S6.out.g.at_ 1 _ rfl; clear hb6 S5))
    | (go_at_call 33; ((with_reducible refine (cct _ S6.out.b).mono ?_); clear k0 k1; rintro e W7 ⟨ao, c, M, rfl, hm7, hr7, hb7⟩; have C7 := Lib.hid (And.intro hm7 (And.intro hr7 hb7)); clear hm7 hr7 hb7))
    | fail)
  have TB := Lib.hid (show w.heap.size < W6.heap.size ∧ W6.heap.size ≤ W7.heap.size from ⟨S6.out.g.lt, C7.out.2.2.size⟩)
  have S8 := Lib.hid ((S6.out.keep C7.out.2.2).keep (al1 (.cells #[.int .i64 t0, .slice ao N0.length c] 24)))
  have U8 := Lib.hid (Bk.new W7 #[.int .i64 t0, .slice ao N0.length c] 24)
  have HL7 := Lib.hid (show M.length = N0.length from by rw [← C7.out.1]; simp)
  have R8 := Lib.hid (((C7.out.2.1.sub (Q' := fun j => j < W6.heap.size ∨ j = W7.heap.size) (fun j hj hq => hq.elim id (fun e => absurd hj (by omega)))).keep (al1 (.cells #[.int .i64 t0, .slice ao N0.length c] 24))))
  obtain ⟨q7, hq7⟩ : ∃ q, W7.heap.size = q := ⟨_, rfl⟩
  rw [hq7] at U8 R8 TB ⊢
  have hb8 : q7 < (World.alloc W7 (.cells #[.int .i64 t0, .slice ao N0.length c] 24)).heap.size := by simp [hq7]
  have HQ8 := Lib.hid hb8
  clear hq7 hb8
  generalize (World.alloc W7 _ : World) = W8 at *
  have u0 := U8.out.at_ 0 _ rfl
  have u1 := U8.out.at_ 1 _ rfl
  have R9 := Lib.hid (R8.out.keep (al1 (.cells #[.bool false, .int .i64 0, .int .i64 0, .int .i64 0, .slice none 0 0, .int .i64 0] 51)))
  have B9 := Lib.hid (Bk.new W8 #[.bool false, .int .i64 0, .int .i64 0, .int .i64 0, .slice none 0 0, .int .i64 0] 51)
  have U9 := Lib.hid (U8.out.past (.cells #[.bool false, .int .i64 0, .int .i64 0, .int .i64 0, .slice none 0 0, .int .i64 0] 51))
  have S9 := Lib.hid (S8.out.keep (al1 (.cells #[.bool false, .int .i64 0, .int .i64 0, .int .i64 0, .slice none 0 0, .int .i64 0] 51)))
  have HQ9 := Lib.hid (show ∀ j, (j < W6.heap.size ∨ j = q7) → j < (W8.alloc (.cells #[.bool false, .int .i64 0, .int .i64 0, .int .i64 0, .slice none 0 0, .int .i64 0] 51)).heap.size from fun j hj => by
    have := HQ8.out; have := TB.out; simp only [World.size_alloc]; omega)
  have HM9 := Lib.hid (show M.length ≤ 1000 by rw [HL7.out]; omega)
  have HN9 := Lib.hid (show M.length + 1 = N0.length + 1 by rw [HL7.out])
  have NQ9 := Lib.hid (show ∀ j, (Value.slice ao N0.length c).ownBlock = some j → ¬ (j < W6.heap.size ∨ j = q7) from R9.out.own)
  go_upto_region 6 with (at_builtin; go_loud (refine wpList_pushnd rfl (.tmp 37) (.tmp 39) rfl (fun j => j < W6.heap.size ∨ j = q7) _ M rfl R9.out HQ9.out ⟨⟨false, 0, 0, 0, [], 0⟩, none, 0⟩ (Prs.nil _) (fun h => absurd rfl h) W8.heap.size rfl B9.out HM9.out (N0.length + 1) HN9.out ?_); intro a4 c4 w4 hm4 hc4 hR4 hO4 hk4; have R4 := Lib.hid hR4; have U4 := Lib.hid (U9.out.only hO4 (fun e => NQ9.out _ e (.inr rfl))); have S4 := Lib.hid (S9.out.only hO4 (fun j hj => by have h1 := NQ9.out j hj; have := TB.out; omega)); have v0 := U4.out.at_ 0 _ rfl; have v1 := U4.out.at_ 1 _ rfl; have vf := U4.out.fr 1; clear hR4 hO4 hk4; unfold maxLen at hm4)
  have hO10 : Only (fun j => j = q7) w4 (w4.setCell ⟨q7, 1, none⟩ (.slice a4 (N0.length + 1) c4)) := (Only.refl _ w4).setCell (S := fun j => j = q7) (p := ⟨q7, 1, none⟩) (.inl rfl) _
  have S10 := Lib.hid (S4.out.only hO10 (fun j hj => by have := TB.out; omega))
  have U10 := Lib.hid (U4.out.set 1 (.slice a4 (N0.length + 1) c4) (by simp))
  have N10 := Lib.hid (show Ns (w4.setCell ⟨q7, 1, none⟩ (.slice a4 (N0.length + 1) c4)) a4 c4 (N0 ++ [⟨false, 0, 0, 0, [], 0⟩]) from by
    have h := (R4.out.only hO10 (fun j hj => .inr hj)).ns.2
    rw [List.map_append, C7.out.1] at h
    exact h)
  clear v0 v1 vf hO10 S4 U4 R4 U9 S9 R9 B9 HQ9 HM9 HN9 NQ9 U8 R8 S8 HQ8 C7 HL7 u0 u1
  generalize (World.setCell w4 _ _ : World) = W10 at *
  have u0 := U10.out.at_ 0 _ rfl
  have u1 := U10.out.at_ 1 _ rfl
  go_upto_region 8 with (go_at_call 16; ((with_reducible refine (cm2 _ _ _ N10.out).mono ?_); clear cm2 u0 u1; rintro e W11 ⟨rfl, hb11⟩; have S11 := Lib.hid (S10.out.keep hb11); clear hb11))
  clear N10 U10 S10 S6 TB
  have k0 := S11.out.g.at_ 0 _ rfl
  have k1 := S11.out.g.at_ 1 _ rfl
  obtain ⟨b, o, pa, pc, rfl, hx1⟩ := (HN.out.keep S11.out.b).2.2 i x HX.out
  obtain ⟨e0, e1, e2, e3, e4, e5, -⟩ := hx1
  obtain ⟨r, k, l, bb, p, st⟩ := x
  dsimp only at e0 e1 e2 e3 e4 e5 cm3 cp3
  cases r
  · clear cm3 cp3
    go_wp2_with (first
      | (go_at_call 10; ((with_reducible refine (caw _).mono ?_); clear caw; rintro e W15 ⟨rfl, hb15⟩; have HB15 := Lib.hid (bel2 S11.out.b hb15); clear hb15))
      | fail)
    go_ret
    exact ⟨rfl, HB15.out⟩
  by_cases hl : a2 = l
  · have hl2 : (a2 == l) = true := by simpa using hl
    clear cm3 cp3
    go_wp2_with (first
      | (go_at_call 10; ((with_reducible refine (caw _).mono ?_); clear caw; rintro e W15 ⟨rfl, hb15⟩; have HB15 := Lib.hid (bel2 S11.out.b hb15); clear hb15))
      | fail)
    go_ret
    exact ⟨rfl, HB15.out⟩
  have hl2 : (a2 == l) = false := by simpa using hl
  have cm3' := cm3 rfl hl
  have cp3' := cp3 rfl hl
  clear cm3 cp3
  go_upto_region 11 with (go_at_call 33; ((with_reducible refine (cct _ S11.out.b).mono ?_); clear k0 k1 e0 e1 e2 e3 e4 e5; rintro e W12 ⟨ao2, c2, M2, rfl, hm12, hr12, hb12⟩; have C12 := Lib.hid (And.intro hm12 (And.intro hr12 hb12)); clear hm12 hr12 hb12))
  have TB := Lib.hid (show w.heap.size < W11.heap.size ∧ W11.heap.size ≤ W12.heap.size from ⟨S11.out.g.lt, C12.out.2.2.size⟩)
  have S13 := Lib.hid ((S11.out.keep C12.out.2.2).keep (al1 (.cells #[.int .i64 t0, .slice ao2 N0.length c2] 24)))
  have V13 := Lib.hid (Bk.new W12 #[.int .i64 t0, .slice ao2 N0.length c2] 24)
  have R13 := Lib.hid (((C12.out.2.1.sub (Q' := fun j => j < W11.heap.size ∨ j = W12.heap.size) (fun j hj hq => hq.elim id (fun e => absurd hj (by omega)))).keep (al1 (.cells #[.int .i64 t0, .slice ao2 N0.length c2] 24))))
  obtain ⟨m2, hm2, hmn⟩ : ∃ m, M2[i]? = some m ∧ m.n = ⟨true, k, l, bb, p, st⟩ := by
    have h := HX.out
    rw [← C12.out.1, List.getElem?_map] at h
    obtain ⟨m, h1, h2⟩ := Option.map_eq_some_iff.1 h
    exact ⟨m, h1, h2⟩
  obtain ⟨q8, hq8⟩ : ∃ q, W12.heap.size = q := ⟨_, rfl⟩
  rw [hq8] at V13 R13 TB ⊢
  clear hq8
  have HM := Lib.hid (And.intro C12.out.1 (And.intro hm2 hmn))
  clear C12
  generalize (World.alloc W12 _ : World) = W13 at *
  obtain ⟨g, rfl, -, hna, hfz⟩ := R13.out.at hm2
  obtain ⟨pr1, pr2⟩ := R13.out.prs m2 (List.mem_of_getElem? hm2)
  have HPR := Lib.hid (And.intro pr1 pr2)
  obtain ⟨-, -, n2, -⟩ := hna
  rw [hmn] at n2
  dsimp only at n2
  have z2 := hfz (i * 6 + 2)
  have v0 := V13.out.at_ 0 _ rfl
  have v1 := V13.out.at_ 1 _ rfl
  clear hfz pr1 pr2 hm2 hmn
  go_upto_region 12 with (fail)
  have HGN := Lib.hid (show ¬ (g < W11.heap.size ∨ g = q8) from R13.out.own g rfl)
  have hO14 : Only (fun j => j = g) W13 (W13.setCell ⟨g, i * 6 + 2, none⟩ (.int .i64 a2)) := (Only.refl _ W13).setCell (S := fun j => j = g) (p := ⟨g, i * 6 + 2, none⟩) (.inl rfl) _
  have S14 := Lib.hid (S13.out.only hO14 (fun j hj => by have := HGN.out; have := TB.out; omega))
  have V14 := Lib.hid (V13.out.only hO14 (by have := HGN.out; show ¬ (_ = _); omega))
  have N14 := Lib.hid (show Ns (W13.setCell ⟨g, i * 6 + 2, none⟩ (.int .i64 a2)) (some ⟨g, 0, none⟩) c2 (N0.set i ⟨true, k, a2, bb, p, st⟩) from by
    have h := (R13.out.cell HM.out.2.1 ⟨⟨m2.n.r, m2.n.k, a2, m2.n.b, m2.n.p, m2.n.s⟩, m2.a, m2.c⟩ 2 (.int .i64 a2) (by decide) rfl HPR.out.1 (fun hp b o sp e => ⟨(HPR.out.2 hp b o sp e).1, fun e' => (HPR.out.2 hp b o sp e).2 (by rw [← e']; rfl)⟩)).ns.2
    rw [map_set HM.out.1, HM.out.2.2] at h
    exact h)
  clear hO14 S13 V13 R13 HM HPR HGN TB n2 z2 v0 v1
  generalize (World.setCell W13 _ _ : World) = W14 at *
  have v0 := V14.out.at_ 0 _ rfl
  have v1 := V14.out.at_ 1 _ rfl
  go_wp2_with (first
    | (go_at_call 11; ((with_reducible refine (cp3' _ _ _ N14.out).mono ?_); clear cp3' v0 v1; rintro e W15 ⟨rfl, hb15⟩; have S16 := Lib.hid ((S14.out.keep hb15).keep (al1 (.cells #[.int .i64 0, .slice none 0 0] 24))); have V16 := Lib.hid ((V14.out.keep hb15).past (.cells #[.int .i64 0, .slice none 0 0] 24)); have N16 := Lib.hid ((N14.out.keep hb15).keep (al1 (.cells #[.int .i64 0, .slice none 0 0] 24))); have P16 := Lib.hid (Bk.new W15 #[.int .i64 0, .slice none 0 0] 24); have v0 := V16.out.at_ 0 _ rfl; have v1 := V16.out.at_ 1 _ rfl; clear hb15))
    | (go_at_call 16; ((with_reducible refine (cm3' _ _ _ N16.out).mono ?_); clear cm3' v0 v1; rintro e W17 ⟨rfl, hb17⟩; have S17 := Lib.hid (S16.out.keep hb17); have p1 := (P16.out.keep hb17).at_ 1 _ rfl; clear hb17))
    | (go_at_call 10; ((with_reducible refine (caw _).mono ?_); clear caw; rintro e W18 ⟨rfl, hb18⟩; have HB18 := Lib.hid (bel2 S17.out.b hb18); clear hb18))
    | fail)
  go_ret
  exact ⟨rfl, HB18.out⟩

theorem walk (t0 : Int) (a0 : Option Addr) (cap0 : Nat) (N0 : List Nd) (a1 : Int) (a2 : Int) (w : World) (w0 : Ns w a0 cap0 N0) (s0 : Mid N0) (w1 : (Lit.int .i64 a1).wf = true) (w2 : (Lit.int .i64 a2).wf = true) :
    Calls Try.prog 8 #[.agg #[.int .i64 t0, .slice a0 N0.length cap0], .int .i64 a1, .int .i64 a2] w fun e w' => e = .returned (.bool true) ∧ Below w.heap.size w w' := by
  by_cases hL : Lgt N0
  · rcases Classical.em (∃ s, Tr N0 s t0) with ⟨s, hs⟩ | hs
    · exact walk_yes t0 a0 cap0 N0 w w0 s0 a1 a2 hL s hs
    · exact walk_no t0 a0 cap0 N0 w w0 s0 a1 a2 hL (fun s h => hs ⟨s, h⟩)
  · exact walk_big t0 a0 cap0 N0 w w0 s0 a1 a2 hL

set_option maxRecDepth 100000 in
theorem lifted (os : Os) (started : os.Started) (H : Type) (enc : TypeId × Value → H) :
    ReturnsInHanded {} Try.checked os 8 .any (Rows.treeSpoiltSpec.pre6 enc Try.prog Try.f8 Rows.treeSpoiltRow.domain false) (Rows.treeSpoiltSpec.post enc Try.prog Try.f8 false true false false) := by
  refine returnsInHanded_of_change_sized (C := Try.checked) own started (by kernel_rfl) Try.func8
    (ChangeSpec.witness6 (enc := enc) (C := Try.checked) false ⟨#[], #[.agg #[.int .i64 0, .slice none 0 0], .int .i64 0, .int .i64 0], []⟩ 8 (by kernel_rfl) (by kernel_rfl) (by kernel_rfl) (by kernel_rfl)) ?_
  intro W base args ds gs before hval0 hW hcnd hsz _
  have hval : ∀ (j : Nat) t v, Try.f8.params[j]? = some t → args[j]? = some v → Value.okWide Try.prog W .any base t v := hval0
  have hW' := hW
  obtain ⟨p, q, hA0, hV, rfl, hfz, hnd⟩ := hW
  have hA : DataW.TrodAll enc Try.prog W 0 (fun _ => true) true Try.f8.params.toList args.toList ds p := hA0
  rw [Try.params8] at hA hval
  obtain ⟨v0, vs0, d0, ds0, p0, q0, hargs, rfl, rfl, h0, r0⟩ := trodAll_cons hA
  obtain ⟨v1, vs1, d1, ds1, p1, q1, rfl, rfl, rfl, h1, r1⟩ := trodAll_cons r0
  obtain ⟨v2, vs2, d2, ds2, p2, q2, rfl, rfl, rfl, h2, r2⟩ := trodAll_cons r1
  obtain ⟨rfl, rfl, rfl⟩ := trodAll_nil r2
  obtain rfl : args = #[v0, v1, v2] := by cases args; simp_all
  obtain ⟨rfl, rfl⟩ := trodVars_none hV
  have k0 := h0
  have lt0 : ∀ x ∈ p0, x.block < W.heap.size := by obtain ⟨m, hm⟩ := k0; exact DataW.trod_lt m _ _ _ hm
  obtain ⟨u0, rfl, _⟩ := okWide_struct Try.underlying24 (hval 0 24 v0 rfl rfl)
  obtain ⟨t0_, a0, cap0, N0, e0, w0, s0⟩ := fields_tree (enc := enc) (w := W) (cs := u0.toList) (fuel := h0.choose) (by simpa [Value.cells] using h0.choose_spec) (fun n hn => by simpa using List.all_eq_true.1 hsz n (DataW.weights_mem_each (j := 0) rfl rfl n hn))
  obtain rfl : u0 = #[.int .i64 t0_, .slice a0 N0.length cap0] := by cases u0; simp_all
  have k1 := h1
  have lt1 : ∀ x ∈ p1, x.block < W.heap.size := by obtain ⟨m, hm⟩ := k1; exact DataW.trod_lt m _ _ _ hm
  obtain ⟨a1, rfl, rfl, rfl, w1⟩ := open_int Try.underlying3 (hval 1 3 v1 rfl rfl) h1
  have k2 := h2
  have lt2 : ∀ x ∈ p2, x.block < W.heap.size := by obtain ⟨m, hm⟩ := k2; exact DataW.trod_lt m _ _ _ hm
  obtain ⟨a2, rfl, rfl, rfl, w2⟩ := open_int Try.underlying3 (hval 2 3 v2 rfl rfl) h2
  clear hA0 hval0
  refine (walk t0_ a0 cap0 N0 a1 a2 W w0 s0 w1 w2).mono fun e W' ⟨he, bel⟩ => ?_
  subst he
  exact ⟨_, rfl, _, _, _, [], _, [], hW', trodAll_mk1 (shut_bool Try.underlying4 _), (trodAll_cons_mk (Below.trod laidOut (by kernel_rfl) (of_decide_eq_true (by kernel_rfl)) k0 bel lt0) (trodAll_cons_mk (Below.trod laidOut (by kernel_rfl) (of_decide_eq_true (by kernel_rfl)) k1 bel lt1) (trodAll_cons_mk (Below.trod laidOut (by kernel_rfl) (of_decide_eq_true (by kernel_rfl)) k2 bel lt2) trodAll_mk0))), rfl, bel.frame _, fun h => by cases h⟩

theorem over : Rows.treeSpoiltRow.holds Try.pinned (OpenSpec.ofChange Rows.treeSpoiltSpec) :=
  OpenClaim.holds_of_wide 8 Try.f8 rfl rfl rfl rfl rfl rfl rfl ⟨rfl, rfl, rfl, rfl, rfl⟩ rfl rfl rfl rfl rfl (by kernel_rfl) Try.func8 (by kernel_rfl)
    (of_decide_eq_true (by kernel_rfl)) (by unfold Func.isWrapper; first | (rw [if_pos (by decide +kernel)]; kernel_rfl) | (rw [if_neg (by decide +kernel)]; exact ⟨rfl, rfl⟩))
    (fun os started H enc _ => lifted os started H enc)

theorem treeSpoiltHolds : Rows.TreeSpoiltSaid := over
#print axioms treeSpoiltHolds
end Go.Proofs.Ytlpjbgojijkdjaa.treeSpoilt
