/- AdaptBends (P15.3): of a tree of at most 450 nodes and 2000 pairs that may be, a leaf whose stat is set anew is bent as the policy says of that stat: split just if it has two pairs, joined just if it is not alone, else left; the leaves are one more, one less, or as many, and all pairs are as they were. No condition but that of the form. -/
import Derived.Test.YteebceecohhegaaRows
import Derived.Test.YteebceecohhegaaAeH
import Derived.OwnWalk
import Derived.LoopTactic
import Derived.WalkKit
import Derived.ProofKit
import Derived.OpenShut
import Derived.ChangeOld
import Derived.Below
namespace Go.Proofs.Yteebceecohhegaa.adaptBends
open Go.ChangeShapes Go.WideShapes Go.ChangeAt Go.RowKit
set_option linter.all false

theorem own : ownKnob Try.prog.godebug = none := by kernel_rfl
theorem laidOut : laidOutB Try.prog = true := by kernel_rfl

theorem w_add {n m : Nat} {z : Int} (h : (n : Int) + z = m) (hn : m ≤ 1000) : wrap64 ((n : Int) + z) = (m : Int) := by rw [h]; unfold wrap64; omega
theorem w_add2 {n m : Nat} {z : Int} (h : (n : Int) + z = m) (hn : m ≤ 1000) : IntKind.i64.wrap ((n : Int) + z) = (m : Int) := by rw [h, IntKind.wrap_i64]; omega
theorem w_same {n m : Nat} (h : n = m) (hn : m ≤ 1000) : IntKind.i64.wrap (n : Int) = (m : Int) := by rw [h, IntKind.wrap_i64]; omega
/-- What holds all along. -/
structure Sb (w : World) (t0 : Int) (a0 : Option Addr) (cap0 : Nat) (N0 : List Nd) (h1 l1 c1 u1 m1 : Int) (W : World) : Prop where
  g : Tq W w.heap.size t0 a0 N0.length cap0
  p : Pl W (w.heap.size + 1) h1 l1 c1 u1 m1
  b : Below w.heap.size w W
theorem Sb_keep {w : World} {t0 : Int} {a0 : Option Addr} {cap0 : Nat} {N0 : List Nd} {h1 l1 c1 u1 m1 : Int} {W W' : World} (h : Sb w t0 a0 cap0 N0 h1 l1 c1 u1 m1 W) (hb : Below W.heap.size W W') : Sb w t0 a0 cap0 N0 h1 l1 c1 u1 m1 W' := ⟨h.g.keep hb, h.p.keep hb, bel2 h.b hb⟩
theorem Sb_new (w : World) (t0 : Int) (a0 : Option Addr) (cap0 : Nat) (N0 : List Nd) (h1 l1 c1 u1 m1 : Int) : Sb w t0 a0 cap0 N0 h1 l1 c1 u1 m1 ((w.alloc (.cells #[.int .i64 t0, .slice a0 N0.length cap0] 24)).alloc (.cells #[.int .i64 h1, .int .i64 l1, .int .i64 c1, .int .i64 u1, .int .i64 m1] 26)) := by
  refine ⟨(Tq.new w t0 a0 N0.length cap0).keep (al1 _), ?_, bel1 (al1 _) _⟩
  have h := Pl.new (h := h1) (l := l1) (c := c1) (u := u1) (m := m1) (w.alloc (.cells #[.int .i64 t0, .slice a0 N0.length cap0] 24)) 26
  simp only [World.size_alloc] at h; exact h
theorem Sb_conj {w : World} {t0 : Int} {a0 : Option Addr} {cap0 : Nat} {N0 : List Nd} {h1 l1 c1 u1 m1 : Int} {W2 W : World} (h : Sb w t0 a0 cap0 N0 h1 l1 c1 u1 m1 W2) {p : Addr} {x : Value} (hx : w.cell? p = some x) (hb : Below W2.heap.size W2 W) : W.cell? ⟨w.heap.size, 0, none⟩ = some (.int .i64 t0) ∧ W.cell? ⟨w.heap.size, 1, none⟩ = some (.slice a0 N0.length cap0) ∧ W.cell? p = some x ∧ Below W2.heap.size W2 W := ⟨(h.g.keep hb).c0, (h.g.keep hb).c1, kc (bel2 h.b hb) hx, hb⟩
/-- The tree with the stat set anew, in a box beside it. -/
structure Sq (w : World) (t0 : Int) (a0 : Option Addr) (cap0 : Nat) (N0 : List Nd) (h1 l1 c1 u1 m1 : Int) (q10 : Nat) (a9 : Option Addr) (c9 : Nat) (NS : List Nd) (W : World) : Prop where
  s : Sb w t0 a0 cap0 N0 h1 l1 c1 u1 m1 W
  z : Tq W q10 t0 a9 NS.length c9
  m : Ns W a9 c9 NS
theorem Sq_keep {w : World} {t0 : Int} {a0 : Option Addr} {cap0 : Nat} {N0 : List Nd} {h1 l1 c1 u1 m1 : Int} {q10 : Nat} {a9 : Option Addr} {c9 : Nat} {NS : List Nd} {W W' : World} (h : Sq w t0 a0 cap0 N0 h1 l1 c1 u1 m1 q10 a9 c9 NS W) (hb : Below W.heap.size W W') : Sq w t0 a0 cap0 N0 h1 l1 c1 u1 m1 q10 a9 c9 NS W' := ⟨Sb_keep h.s hb, h.z.keep hb, h.m.keep hb⟩
/-- And what Bend made of it. -/
structure Sr (w : World) (t0 : Int) (a0 : Option Addr) (cap0 : Nat) (N0 : List Nd) (h1 l1 c1 u1 m1 : Int) (q10 : Nat) (a9 : Option Addr) (c9 : Nat) (NS : List Nd) (q12 : Nat) (a12 : Option Addr) (c12 : Nat) (Q : List Nd) (W : World) : Prop where
  s : Sq w t0 a0 cap0 N0 h1 l1 c1 u1 m1 q10 a9 c9 NS W
  z : Tq W q12 0 a12 Q.length c12
  m : Ns W a12 c12 Q
theorem Sr_keep {w : World} {t0 : Int} {a0 : Option Addr} {cap0 : Nat} {N0 : List Nd} {h1 l1 c1 u1 m1 : Int} {q10 : Nat} {a9 : Option Addr} {c9 : Nat} {NS : List Nd} {q12 : Nat} {a12 : Option Addr} {c12 : Nat} {Q : List Nd} {W W' : World} (h : Sr w t0 a0 cap0 N0 h1 l1 c1 u1 m1 q10 a9 c9 NS q12 a12 c12 Q W) (hb : Below W.heap.size W W') : Sr w t0 a0 cap0 N0 h1 l1 c1 u1 m1 q10 a9 c9 NS q12 a12 c12 Q W' := ⟨Sq_keep h.s hb, h.z.keep hb, h.m.keep hb⟩
theorem Sr_conj {w : World} {t0 : Int} {a0 : Option Addr} {cap0 : Nat} {N0 : List Nd} {h1 l1 c1 u1 m1 : Int} {q10 : Nat} {a9 : Option Addr} {c9 : Nat} {NS : List Nd} {q12 : Nat} {a12 : Option Addr} {c12 : Nat} {Q : List Nd} {W2 W : World} (h : Sr w t0 a0 cap0 N0 h1 l1 c1 u1 m1 q10 a9 c9 NS q12 a12 c12 Q W2) {p : Addr} {x : Value} (hx : W2.cell? p = some x) (hb : Below W2.heap.size W2 W) :
    W.cell? ⟨w.heap.size + 1, 0, none⟩ = some (.int .i64 h1) ∧ W.cell? ⟨w.heap.size + 1, 1, none⟩ = some (.int .i64 l1) ∧ W.cell? ⟨w.heap.size + 1, 2, none⟩ = some (.int .i64 c1) ∧ W.cell? ⟨w.heap.size + 1, 3, none⟩ = some (.int .i64 u1) ∧ W.cell? ⟨w.heap.size + 1, 4, none⟩ = some (.int .i64 m1) ∧ W.cell? ⟨q10, 1, none⟩ = some (.slice a9 NS.length c9) ∧ W.cell? p = some x ∧ Below W2.heap.size W2 W := by
  have H := h.s.s.p.keep hb
  exact ⟨H.1, H.2.1, H.2.2.1, H.2.2.2.1, H.2.2.2.2, (h.s.z.keep hb).c1, kc hb hx, hb⟩
theorem Sr_four {w : World} {t0 : Int} {a0 : Option Addr} {cap0 : Nat} {N0 : List Nd} {h1 l1 c1 u1 m1 : Int} {q10 : Nat} {a9 : Option Addr} {c9 : Nat} {NS : List Nd} {q12 : Nat} {a12 : Option Addr} {c12 : Nat} {Q : List Nd} {W2 W : World} (h : Sr w t0 a0 cap0 N0 h1 l1 c1 u1 m1 q10 a9 c9 NS q12 a12 c12 Q W2) (hb : Below W2.heap.size W2 W) :
    W.cell? ⟨w.heap.size, 0, none⟩ = some (.int .i64 t0) ∧ W.cell? ⟨w.heap.size, 1, none⟩ = some (.slice a0 N0.length cap0) ∧ W.cell? ⟨q12, 0, none⟩ = some (.int .i64 0) ∧ W.cell? ⟨q12, 1, none⟩ = some (.slice a12 Q.length c12) ∧ Below W2.heap.size W2 W := ⟨(h.s.s.g.keep hb).c0, (h.s.s.g.keep hb).c1, (h.z.keep hb).c0, (h.z.keep hb).c1, hb⟩
set_option maxRecDepth 100000 in
set_option maxHeartbeats 12800000 in
theorem walk_big (t0 : Int) (a0 : Option Addr) (cap0 : Nat) (N0 : List Nd) (h1 l1 c1 u1 m1 a2 a3 : Int) (w : World) (w0 : Ns w a0 cap0 N0) (s0 : Mid N0) (hL : ¬ Lgt N0) :
    Calls Try.prog 7 #[.agg #[.int .i64 t0, .slice a0 N0.length cap0], .agg #[.int .i64 h1, .int .i64 l1, .int .i64 c1, .int .i64 u1, .int .i64 m1], .int .i64 a2, .int .i64 a3] w fun e w' => e = .returned (.bool true) ∧ Below w.heap.size w w' := by
  have S1 := Lib.hid (Sb_new w t0 a0 cap0 N0 h1 l1 c1 u1 m1)
  have cl := light_any t0 a0 cap0 N0 _ (w0.keep S1.out.b) s0 1 (fun h => absurd h hL) (fun _ => rfl)
  have caw := fun W => awake_any W
  unfold trv at cl
  clear w0 s0 hL
  go_enter Try.func7, Try.ntmps7
  go_wp2_with (first
    | (go_at_call 8; ((with_reducible refine cl.mono ?_); clear cl; rintro e W3 ⟨rfl, hb3⟩; have S3 := Lib.hid (Sb_keep S1.out hb3); clear hb3))
    | (go_at_call 9; ((with_reducible refine (caw _).mono ?_); clear caw; rintro e W4 ⟨rfl, hb4⟩; have HB4 := Lib.hid (bel2 S3.out.b hb4); clear hb4))
    | fail)
  go_ret
  exact ⟨rfl, HB4.out⟩
set_option maxRecDepth 100000 in
set_option maxHeartbeats 12800000 in
theorem walk_no (t0 : Int) (a0 : Option Addr) (cap0 : Nat) (N0 : List Nd) (h1 l1 c1 u1 m1 a2 a3 : Int) (w : World) (w0 : Ns w a0 cap0 N0) (s0 : Mid N0) (hL : Lgt N0) (hT : ∀ s, ¬ Tr N0 s t0) :
    Calls Try.prog 7 #[.agg #[.int .i64 t0, .slice a0 N0.length cap0], .agg #[.int .i64 h1, .int .i64 l1, .int .i64 c1, .int .i64 u1, .int .i64 m1], .int .i64 a2, .int .i64 a3] w fun e w' => e = .returned (.bool true) ∧ Below w.heap.size w w' := by
  have S1 := Lib.hid (Sb_new w t0 a0 cap0 N0 h1 l1 c1 u1 m1)
  have cl := light_any t0 a0 cap0 N0 _ (w0.keep S1.out.b) s0 0 (fun _ => rfl) (fun h => absurd hL h)
  have cm := fun W (hb : Below w.heap.size w W) => tmay_any t0 a0 cap0 N0 W (w0.keep hb) hL.small false ⟨fun h => (by cases h), fun ⟨s, hs⟩ => absurd hs (hT s)⟩
  have caw := fun W => awake_any W
  unfold trv at cl cm
  clear w0 s0 hL hT
  go_enter Try.func7, Try.ntmps7
  go_wp2_with (first
    | (go_at_call 8; ((with_reducible refine cl.mono ?_); clear cl; rintro e W3 ⟨rfl, hb3⟩; have S3 := Lib.hid (Sb_keep S1.out hb3); clear hb3; have k0 := S3.out.g.c0; have k1 := S3.out.g.c1))
    | (go_at_call 19; ((with_reducible refine (cm _ S3.out.b).mono ?_); clear cm k0 k1; rintro e W5 ⟨rfl, hb5⟩; have S5 := Lib.hid (Sb_keep S3.out hb5); clear hb5))
    | (go_at_call 9; ((with_reducible refine (caw _).mono ?_); clear caw; rintro e W4 ⟨rfl, hb4⟩; have HB4 := Lib.hid (bel2 S5.out.b hb4); clear hb4))
    | fail)
  go_ret
  exact ⟨rfl, HB4.out⟩
set_option maxRecDepth 100000 in
set_option maxHeartbeats 12800000 in
theorem walk_yes (t0 : Int) (a0 : Option Addr) (cap0 : Nat) (N0 : List Nd) (h1 l1 c1 u1 m1 a2 a3 : Int) (w : World) (w0 : Ns w a0 cap0 N0) (s0 : Mid N0) (hL : Lgt N0) (s : Sh) (hT : Tr N0 s t0) :
    Calls Try.prog 7 #[.agg #[.int .i64 t0, .slice a0 N0.length cap0], .agg #[.int .i64 h1, .int .i64 l1, .int .i64 c1, .int .i64 u1, .int .i64 m1], .int .i64 a2, .int .i64 a3] w fun e w' => e = .returned (.bool true) ∧ Below w.heap.size w w' := by
  have S1 := Lib.hid (Sb_new w t0 a0 cap0 N0 h1 l1 c1 u1 m1)
  have hs := hL.small
  have hl1 : N0.length ≤ 450 := hL.1
  have hc1 := w0.1
  have hc2 := w0.2.1
  unfold maxLen at hc2
  have hP : PlO N0 t0 true (lay N0 s 0) := .inl ⟨s, hT, rfl, rfl⟩
  have hPl : (lay N0 s 0).length ≤ 10000000 := by have := (hP.small hs).1; omega
  have hvl : s.lvs.length ≤ N0.length := by have := lvs_len s; have := hT.all; omega
  have hvp := lvs_pos s
  obtain ⟨k, hk, hum⟩ := umod a2 (s.lvs.length : Int) (by omega) (by omega)
  have hkl : k < s.lvs.length := by omega
  obtain ⟨i, hi⟩ : ∃ i, s.lvs[k]? = some i := ⟨_, List.getElem?_eq_getElem hkl⟩
  have him := List.mem_of_getElem? hi
  have hil := hT.hg.lt i (lvs_pre s i him)
  obtain ⟨r, hr, hur⟩ := umod a3 100 (by decide) (by decide)
  obtain ⟨st, hst⟩ : ∃ z, (r : Int) - 50 = z := ⟨_, rfl⟩
  have hws : wrap64 ((r : Int) - 50) = st := by rw [← hst]; unfold wrap64; omega
  have hws2 : IntKind.i64.wrap ((r : Int) - 50) = st := by rw [← hst, IntKind.wrap_i64]; omega
  have hur2 : IntKind.i64.wrap ((IntKind.u64.wrap a3).tmod 100) = (r : Int) := by rw [IntKind.wrap_i64]; have h := hur; unfold wrap64 at h; omega
  have hs1 : -1000000 ≤ st := by omega
  have hs2 : st ≤ 1000000 := by omega
  obtain ⟨hTS, hSet⟩ := set_own hT him hs1 hs2
  have hAl : (allP N0 s.lvs).length ≤ 2000 := lgt_total hT hL
  obtain ⟨h1', l1', c1', u1', m1', hC⟩ : ∃ a b c d e, Cl h1 l1 c1 u1 m1 a b c d e := ⟨_, _, _, _, _, rfl, rfl, rfl, rfl, rfl⟩
  obtain ⟨d, Q, hBn⟩ := bndO_ex (N0.set i (lfn (nd N0 i).p st)) t0 (i : Int) h1' l1'
  obtain ⟨s2, hBs⟩ := bends hT him hAl (by omega) hs1 hs2 h1' l1' hBn
  have hil2 : i < (N0.set i (lfn (nd N0 i).p st)).length := by rw [List.length_set]; exact hil
  have hSs := small_setl (i := i) hs (hs.at (nd_get hil)) st
  have hTn : ∀ s', Tr (N0.set i (lfn (nd N0 i).p st)) s' t0 → (allP (N0.set i (lfn (nd N0 i).p st)) s'.lvs).length ≤ 2100 := fun s' h' => by
    obtain rfl := h'.uniq hTS
    rw [allP_set hil]; omega
  have hni2 : (N0.set i (lfn (nd N0 i).p st))[i]? = some (lfn (nd N0 i).p st) := List.getElem?_set_self hil
  have cl := light_any t0 a0 cap0 N0 _ (w0.keep S1.out.b) s0 0 (fun _ => rfl) (fun h => absurd hL h)
  have cm := fun W (hb : Below w.heap.size w W) => tmay_any t0 a0 cap0 N0 W (w0.keep hb) hs true ⟨fun _ => ⟨s, hT⟩, fun _ => rfl⟩
  have cst := fun W (hb : Below w.heap.size w W) => rsametree_gen t0 t0 a0 a0 cap0 cap0 N0 N0 W (w0.keep hb) (w0.keep hb) true true _ _ hPl hPl (rp_any hs hP) (rp_any hs hP) true (by simp)
  have cv := fun W (hb : Below w.heap.size w W) => tleaves_yes t0 a0 cap0 N0 W (w0.keep hb) hs s hT
  have cal := fun W (hb : Below w.heap.size w W) => tall_gen t0 a0 cap0 N0 W (w0.keep hb) hs s.lvs (lvO_lt (.inl ⟨s, hT, rfl⟩)) (fun W hW => tleaves_yes t0 a0 cap0 N0 W hW hs s hT)
  have HN := Lib.hid w0
  have HI := Lib.hid hi
  have HBS := Lib.hid hBs
  obtain ⟨b, o, pa, pc, rfl, hni⟩ := w0.2.2 i _ (nd_get hil)
  have HE := Lib.hid hni.c4
  have cse := fun W (hb : Below w.heap.size w W) => tset_any t0 (some ⟨b, o, none⟩) cap0 N0 (i : Int) pa pc (nd N0 i).p st W (w0.keep hb) hs (hni.ps.below hb) (hs.at (nd_get hil)) t0 _ true hSet
  have cbn := fun W (a9 : Option Addr) (c9 : Nat) (h : Ns W a9 c9 (N0.set i (lfn (nd N0 i).p st))) => bend_any t0 a9 c9 _ h1 l1 c1 u1 m1 h1' l1' c1' u1' m1' (i : Int) W h hSs (by rw [List.length_set]; omega) hTn hC d Q hBn
  have cde := fun W => rdecide_to h1 l1 c1 u1 m1 h1' l1' c1' u1' m1' st hC W
  have cv2 := fun W (a12 : Option Addr) (c12 : Nat) (h : Ns W a12 c12 Q) => tleaves_yes 0 a12 c12 Q W h hBs.s s2 hBs.t
  have cal2 := fun W (a12 : Option Addr) (c12 : Nat) (h : Ns W a12 c12 Q) => tall_gen 0 a12 c12 Q W h hBs.s s2.lvs (lvO_lt (.inl ⟨s2, hBs.t, rfl⟩)) (fun W hW => tleaves_yes 0 a12 c12 Q W hW hBs.s s2 hBs.t)
  have haQ := hBs.a
  obtain ⟨A, hA⟩ : ∃ A, allP N0 s.lvs = A := ⟨_, rfl⟩
  have csa := fun W (ax ay : Option Addr) (cx cy : Nat) (h : Prs W ax cx A) (h2 : Prs W ay cy A) => samep_any ax ay cx cy A A W h h2 true (by simp)
  have caw := fun W => awake_any W
  have hwy := hBs.w
  unfold RowIs at cal cal2
  rw [haQ] at cal2
  rw [hA] at cal cal2
  unfold LvIs at cv cv2
  unfold SetIs at cse
  unfold BnIs at cbn
  generalize dc h1' l1' st = v at *
  generalize hpi : (nd N0 i).p = p at *
  generalize hNS : N0.set i (lfn p st) = NS at *
  have hNSl : NS.length = N0.length := by rw [← hNS, List.length_set]
  rw [hNSl] at cse
  have HNS := Lib.hid (And.intro hni2 hNSl)
  unfold trv at cl cm cst cv cal cse cbn cv2 cal2
  rw [hNSl] at cbn
  have hz : ((s.lvs.length : Int) == 0) = false := beq_eq_false_iff_ne.2 (by omega)
  have hi0 : (0 : Int) ≤ (i : Int) := by omega
  have hi1 : (i : Int) < (N0.length : Int) := by omega
  have hi0d : decide ((i : Int) < 0) = false := decide_eq_false (by omega)
  have hi1d : decide ((N0.length : Int) ≤ (i : Int)) = false := decide_eq_false (by omega)
  have HVL := Lib.hid (And.intro hvl hl1)
  have HWY := Lib.hid hwy
  clear w0 s0 hs hT hL hP hPl hvl hi him hil hst hs1 hs2 hTS hSet hAl hC hBn hBs hil2 hSs hTn hni2 hni haQ hA hpi hNS hNSl hl1 hwy hr
  go_enter Try.func7, Try.ntmps7
  go_upto_region 9 with (first
    | (go_at_call 8; ((with_reducible refine cl.mono ?_); clear cl; rintro e W3 ⟨rfl, hb3⟩; have S3 := Lib.hid (Sb_keep S1.out hb3); clear hb3; have k0 := S3.out.g.c0; have k1 := S3.out.g.c1))
    | (go_at_call 19; ((with_reducible refine (cm _ S3.out.b).mono ?_); clear cm k0 k1; rintro e W5 ⟨rfl, hb5⟩; have S5 := Lib.hid (Sb_keep S3.out hb5); clear hb5; have k0 := S5.out.g.c0; have k1 := S5.out.g.c1))
    | (go_at_call 26; ((with_reducible refine (cst _ S5.out.b).mono ?_); clear cst k0 k1; rintro e W6 ⟨rfl, hb6⟩; have S6 := Lib.hid (Sb_keep S5.out hb6); clear hb6; have k0 := S6.out.g.c0; have k1 := S6.out.g.c1))
    | (go_at_call 21; ((with_reducible refine (cv _ S6.out.b).mono ?_); clear cv k0 k1; rintro e W7 ⟨ao, c, rfl, hr7, hb7⟩; obtain ⟨b7, o7, rfl, c7⟩ := ri_at hr7 HI.out; have hrc7 := hr7.1; have hrm7 := hr7.2.1; unfold maxLen at hrm7; rw [preI_len] at hrc7; have S7 := Lib.hid (Sb_keep S6.out hb7); clear hr7 hb7; have k0 := S7.out.g.c0; have k1 := S7.out.g.c1))
    | fail)
  clear k0 k1 c7
  go_cut [10, 11] from 36 to 71 (fun v10 v11 wx => ∃ (q10 : Nat) (a9 : Option Addr) (c9 : Nat), v10 = .pointer (some ⟨q10, 0, none⟩) ∧ v11 = .bool true ∧ Sq w t0 (some ⟨b, o, none⟩) cap0 N0 h1 l1 c1 u1 m1 q10 a9 c9 NS wx)
  case first =>
    refine wp_region_held_drew (S := (fun W => W.cell? ⟨w.heap.size, 0, none⟩ = some (.int .i64 t0) ∧ W.cell? ⟨w.heap.size, 1, none⟩ = some (.slice (some ⟨b, o, none⟩) N0.length cap0) ∧ W.cell? ⟨b, o + i * 6 + 4, none⟩ = some (.slice pa p.length pc) ∧ Below W7.heap.size W7 W)) (by kernel_rfl) (by first | exact Sb_conj S7.out HE.out (Below.refl _ _) | exact Sb_conj S7.out HE.out ((Below.refl _ _).drew)) (fun hHeld => ?_)
    refine wpAnyH_take (i := 0) (v := ?_) rfl (by kernel_rfl) (by kernel_rfl) (by kernel_rfl) (fun _ _ _ h => h) (Or.inl ⟨by rfl, ?_⟩) hHeld ?_
    rotate_left
    · (intro wS hSw; (try dsimp only at hSw); (try go_split_ands); go_simp; try with_reducible rfl)
    try simp only [List.getElem_toArray, List.getElem_cons_succ, List.getElem_cons_zero, Act.put, List.setIfInBounds_toArray, List.set_cons_zero, List.set_cons_succ]
    refine wpAnyH_take (i := 1) (v := ?_) rfl (by kernel_rfl) (by kernel_rfl) (by kernel_rfl) (fun _ _ _ h => h) (Or.inl ⟨by rfl, ?_⟩) hHeld ?_
    rotate_left
    · (intro wS hSw; (try dsimp only at hSw); (try go_split_ands); go_simp; try with_reducible rfl)
    try simp only [List.getElem_toArray, List.getElem_cons_succ, List.getElem_cons_zero, Act.put, List.setIfInBounds_toArray, List.set_cons_zero, List.set_cons_succ]
    refine wpAnyH_take (i := 2) (v := ?_) rfl (by kernel_rfl) (by kernel_rfl) (by kernel_rfl) (fun _ _ _ h => h) (Or.inl ⟨by rfl, ?_⟩) hHeld ?_
    rotate_left
    · (intro wS hSw; (try dsimp only at hSw); (try go_split_ands); go_simp; try with_reducible rfl)
    try simp only [List.getElem_toArray, List.getElem_cons_succ, List.getElem_cons_zero, Act.put, List.setIfInBounds_toArray, List.set_cons_zero, List.set_cons_succ]
    refine wpAnyH_take (i := 3) (v := ?_) rfl (by kernel_rfl) (by kernel_rfl) (by kernel_rfl) (fun _ _ _ h => h) (Or.inl ⟨by rfl, ?_⟩) hHeld ?_
    rotate_left
    · (intro wS hSw; (try dsimp only at hSw); (try go_split_ands); go_simp; try with_reducible rfl)
    try simp only [List.getElem_toArray, List.getElem_cons_succ, List.getElem_cons_zero, Act.put, List.setIfInBounds_toArray, List.set_cons_zero, List.set_cons_succ]
    refine wpAnyH_take (i := 4) (v := ?_) rfl (by kernel_rfl) (by kernel_rfl) (by kernel_rfl) (fun _ _ _ h => h) (Or.inl ⟨by rfl, ?_⟩) hHeld ?_
    rotate_left
    · (intro wS hSw; (try dsimp only at hSw); (try go_split_ands); go_simp; try with_reducible rfl)
    try simp only [List.getElem_toArray, List.getElem_cons_succ, List.getElem_cons_zero, Act.put, List.setIfInBounds_toArray, List.set_cons_zero, List.set_cons_succ]
    refine wpAnyH_take (i := 5) (v := ?_) rfl (by kernel_rfl) (by kernel_rfl) (by kernel_rfl) (fun _ _ _ h => h) (Or.inl ⟨by rfl, ?_⟩) hHeld ?_
    rotate_left
    · (intro wS hSw; (try dsimp only at hSw); (try go_split_ands); go_simp; try with_reducible rfl)
    try simp only [List.getElem_toArray, List.getElem_cons_succ, List.getElem_cons_zero, Act.put, List.setIfInBounds_toArray, List.set_cons_zero, List.set_cons_succ]
    refine wpAnyH_take (i := 6) (v := ?_) rfl (by kernel_rfl) (by kernel_rfl) (by kernel_rfl) (fun _ _ _ h => h) (Or.inl ⟨by rfl, ?_⟩) hHeld ?_
    rotate_left
    · (intro wS hSw; (try dsimp only at hSw); (try go_split_ands); go_simp; try with_reducible rfl)
    try simp only [List.getElem_toArray, List.getElem_cons_succ, List.getElem_cons_zero, Act.put, List.setIfInBounds_toArray, List.set_cons_zero, List.set_cons_succ]
    refine wpAnyH_take (i := 7) (v := ?_) rfl (by kernel_rfl) (by kernel_rfl) (by kernel_rfl) (fun _ _ _ h => h) (Or.inl ⟨by rfl, ?_⟩) hHeld ?_
    rotate_left
    · (intro wS hSw; (try dsimp only at hSw); (try go_split_ands); go_simp; try with_reducible rfl)
    try simp only [List.getElem_toArray, List.getElem_cons_succ, List.getElem_cons_zero, Act.put, List.setIfInBounds_toArray, List.set_cons_zero, List.set_cons_succ]
    refine wpAnyH_take (i := 8) (v := ?_) rfl (by kernel_rfl) (by kernel_rfl) (by kernel_rfl) (fun _ _ _ h => h) (Or.inl ⟨by rfl, ?_⟩) hHeld ?_
    rotate_left
    · (intro wS hSw; (try dsimp only at hSw); (try go_split_ands); go_simp; try with_reducible rfl)
    try simp only [List.getElem_toArray, List.getElem_cons_succ, List.getElem_cons_zero, Act.put, List.setIfInBounds_toArray, List.set_cons_zero, List.set_cons_succ]
    refine wpAnyH_take (i := 9) (v := ?_) rfl (by kernel_rfl) (by kernel_rfl) (by kernel_rfl) (fun _ _ _ h => h) (Or.inl ⟨by rfl, ?_⟩) hHeld ?_
    rotate_left
    · (intro wS hSw; (try dsimp only at hSw); (try go_split_ands); go_simp; try with_reducible rfl)
    try simp only [List.getElem_toArray, List.getElem_cons_succ, List.getElem_cons_zero, Act.put, List.setIfInBounds_toArray, List.set_cons_zero, List.set_cons_succ]
    refine wpAnyH_take (i := 10) (v := ?_) rfl (by kernel_rfl) (by kernel_rfl) (by kernel_rfl) (fun _ _ _ h => h) (Or.inl ⟨by rfl, ?_⟩) hHeld ?_
    rotate_left
    · (intro wS hSw; (try dsimp only at hSw); (try go_split_ands); go_simp; try with_reducible rfl)
    try simp only [List.getElem_toArray, List.getElem_cons_succ, List.getElem_cons_zero, Act.put, List.setIfInBounds_toArray, List.set_cons_zero, List.set_cons_succ]
    refine wpAnyH_take (i := 11) (v := ?_) rfl (by kernel_rfl) (by kernel_rfl) (by kernel_rfl) (fun _ _ _ h => h) (Or.inl ⟨by rfl, ?_⟩) hHeld ?_
    rotate_left
    · (intro wS hSw; (try dsimp only at hSw); (try go_split_ands); go_simp; try with_reducible rfl)
    try simp only [List.getElem_toArray, List.getElem_cons_succ, List.getElem_cons_zero, Act.put, List.setIfInBounds_toArray, List.set_cons_zero, List.set_cons_succ]
    refine wpAnyH_take (i := 12) (v := ?_) rfl (by kernel_rfl) (by kernel_rfl) (by kernel_rfl) (fun _ _ _ h => h) (Or.inl ⟨by rfl, ?_⟩) hHeld ?_
    rotate_left
    · (intro wS hSw; (try dsimp only at hSw); (try go_split_ands); go_simp; try with_reducible rfl)
    try simp only [List.getElem_toArray, List.getElem_cons_succ, List.getElem_cons_zero, Act.put, List.setIfInBounds_toArray, List.set_cons_zero, List.set_cons_succ]
    refine wpAnyH_ready (rs := [13, 17]) (by kernel_rfl) (by simp) ?_
    refine AllReadyH.cons rfl (fun K hK => ?_) (AllReadyH.cons rfl (fun K hK => ?_) AllReadyH.nil)
    · skip
      go_simp
      (go_at_call 24; ((with_reducible refine (cse _ (bel2 S7.out.b hHeld.2.2.2)).mono ?_); rintro e X ⟨a9, c9, rfl, hnX, hbX⟩))
      refine hK.out _ _ ?_ (fun hNext => ?_)
      · exact Sb_conj S7.out HE.out (bel2 hHeld.2.2.2 hbX)
      have BXX := Lib.hid (bel2 hHeld.2.2.2 hbX)
      have NX := Lib.hid hnX
      clear hbX hnX
      clear hK K hHeld
      have hHeld := hNext
      clear hNext
      try simp only [List.getElem_toArray, List.getElem_cons_succ, List.getElem_cons_zero, Act.put, List.setIfInBounds_toArray, List.set_cons_zero, List.set_cons_succ]
      refine wpAnyH_take (i := 14) (v := ?_) rfl (by kernel_rfl) (by kernel_rfl) (by kernel_rfl) (fun _ _ _ h => h) (Or.inl ⟨by rfl, ?_⟩) hHeld ?_
      rotate_left
      · (intro wS hSw; (try dsimp only at hSw); (try go_split_ands); go_simp; try with_reducible rfl)
      try simp only [List.getElem_toArray, List.getElem_cons_succ, List.getElem_cons_zero, Act.put, List.setIfInBounds_toArray, List.set_cons_zero, List.set_cons_succ]
      refine wpAnyH_take (i := 15) (v := ?_) rfl (by kernel_rfl) (by kernel_rfl) (by kernel_rfl) (fun _ _ _ h => h) (Or.inl ⟨by rfl, ?_⟩) hHeld ?_
      rotate_left
      · (intro wS hSw; (try dsimp only at hSw); (try go_split_ands); go_simp; try with_reducible rfl)
      try simp only [List.getElem_toArray, List.getElem_cons_succ, List.getElem_cons_zero, Act.put, List.setIfInBounds_toArray, List.set_cons_zero, List.set_cons_succ]
      refine wpAnyH_take (i := 16) (v := ?_) rfl (by kernel_rfl) (by kernel_rfl) (by kernel_rfl) (fun _ _ _ h => h) (Or.inl ⟨by rfl, ?_⟩) hHeld ?_
      rotate_left
      · (intro wS hSw; (try dsimp only at hSw); (try go_split_ands); go_simp; try with_reducible rfl)
      try simp only [List.getElem_toArray, List.getElem_cons_succ, List.getElem_cons_zero, Act.put, List.setIfInBounds_toArray, List.set_cons_zero, List.set_cons_succ]
      refine wpAnyH_ready (rs := [17]) (by kernel_rfl) (by simp) ?_
      refine AllReadyH.cons rfl (fun K hK => ?_) AllReadyH.nil
      go_simp
      refine hK.out _ _ ?_ (fun hNext => ?_)
      · exact Sb_conj S7.out HE.out (bel1 hHeld.2.2.2 _)
      clear hK K hHeld
      have hHeld := hNext
      clear hNext
      try simp only [List.getElem_toArray, List.getElem_cons_succ, List.getElem_cons_zero, Act.put, List.setIfInBounds_toArray, List.set_cons_zero, List.set_cons_succ]
      refine wpAnyH_ready (rs := [18]) (by kernel_rfl) (by simp) ?_
      refine AllReadyH.cons rfl (fun K hK => ?_) AllReadyH.nil
      go_simp
      refine hK.out _ _ ?_ (fun hNext => ?_)
      · exact Sb_conj S7.out HE.out (bel1 BXX.out _)
      have FQ := Lib.hid (show Sq w t0 (some ⟨b, o, none⟩) cap0 N0 h1 l1 c1 u1 m1 X.heap.size a9 c9 NS (X.alloc (.cells #[.int .i64 t0, .slice a9 N0.length c9] 24)) from ⟨Sb_keep (Sb_keep S7.out BXX.out) (al1 _), by rw [HNS.out.2]; exact Tq.new X t0 a9 N0.length c9, NX.out.keep (al1 _)⟩)
      clear hK K hHeld
      have hHeld := hNext
      clear hNext
      try simp only [List.getElem_toArray, List.getElem_cons_succ, List.getElem_cons_zero, Act.put, List.setIfInBounds_toArray, List.set_cons_zero, List.set_cons_succ]
      refine wpAnyH_take (i := 19) (v := ?_) rfl (by kernel_rfl) (by kernel_rfl) (by kernel_rfl) (fun _ _ _ h => h) (Or.inl ⟨by rfl, ?_⟩) hHeld ?_
      rotate_left
      · (intro wS hSw; (try dsimp only at hSw); (try go_split_ands); go_simp; try with_reducible rfl)
      try simp only [List.getElem_toArray, List.getElem_cons_succ, List.getElem_cons_zero, Act.put, List.setIfInBounds_toArray, List.set_cons_zero, List.set_cons_succ]
      refine wpAnyH_done (by kernel_rfl) ?_ _
      clear hHeld
      go_wp2_with (fail)
      go_meet
      case rel => exact ⟨X.heap.size, a9, c9, rfl, rfl, FQ.out⟩
    · skip
      go_simp
      refine hK.out _ _ ?_ (fun hNext => ?_)
      · exact Sb_conj S7.out HE.out (bel1 hHeld.2.2.2 _)
      have BX := Lib.hid (show Rq (W7.alloc (.cells #[.int .i64 0, .slice none 0 0] 24)).drew W7.heap.size from Rq.new W7)
      clear hK K hHeld
      have hHeld := hNext
      clear hNext
      try simp only [List.getElem_toArray, List.getElem_cons_succ, List.getElem_cons_zero, Act.put, List.setIfInBounds_toArray, List.set_cons_zero, List.set_cons_succ]
      refine wpAnyH_ready (rs := [13]) (by kernel_rfl) (by simp) ?_
      refine AllReadyH.cons rfl (fun K hK => ?_) AllReadyH.nil
      go_simp
      (go_at_call 24; ((with_reducible refine (cse _ (bel2 S7.out.b hHeld.2.2.2)).mono ?_); rintro e X ⟨a9, c9, rfl, hnX, hbX⟩))
      refine hK.out _ _ ?_ (fun hNext => ?_)
      · exact Sb_conj S7.out HE.out (bel2 hHeld.2.2.2 hbX)
      have BZ := Lib.hid (BX.out.keep hbX)
      have BXX := Lib.hid (bel2 hHeld.2.2.2 hbX)
      have NX := Lib.hid hnX
      clear hbX hnX
      have z0 := BZ.out.c0
      have z1 := BZ.out.c1
      have fz := BZ.out.fr
      clear hK K hHeld
      have hHeld := hNext
      clear hNext
      try simp only [List.getElem_toArray, List.getElem_cons_succ, List.getElem_cons_zero, Act.put, List.setIfInBounds_toArray, List.set_cons_zero, List.set_cons_succ]
      refine wpAnyH_take (i := 14) (v := ?_) rfl (by kernel_rfl) (by kernel_rfl) (by kernel_rfl) (fun _ _ _ h => h) (Or.inl ⟨by rfl, ?_⟩) hHeld ?_
      rotate_left
      · (intro wS hSw; (try dsimp only at hSw); (try go_split_ands); go_simp; try with_reducible rfl)
      try simp only [List.getElem_toArray, List.getElem_cons_succ, List.getElem_cons_zero, Act.put, List.setIfInBounds_toArray, List.set_cons_zero, List.set_cons_succ]
      refine wpAnyH_take (i := 15) (v := ?_) rfl (by kernel_rfl) (by kernel_rfl) (by kernel_rfl) (fun _ _ _ h => h) (Or.inl ⟨by rfl, ?_⟩) hHeld ?_
      rotate_left
      · (intro wS hSw; (try dsimp only at hSw); (try go_split_ands); go_simp; try with_reducible rfl)
      try simp only [List.getElem_toArray, List.getElem_cons_succ, List.getElem_cons_zero, Act.put, List.setIfInBounds_toArray, List.set_cons_zero, List.set_cons_succ]
      refine wpAnyH_take (i := 16) (v := ?_) rfl (by kernel_rfl) (by kernel_rfl) (by kernel_rfl) (fun _ _ _ h => h) (Or.inl ⟨by rfl, ?_⟩) hHeld ?_
      rotate_left
      · (intro wS hSw; (try dsimp only at hSw); (try go_split_ands); go_simp; try with_reducible rfl)
      try simp only [List.getElem_toArray, List.getElem_cons_succ, List.getElem_cons_zero, Act.put, List.setIfInBounds_toArray, List.set_cons_zero, List.set_cons_succ]
      refine wpAnyH_ready (rs := [18]) (by kernel_rfl) (by simp) ?_
      refine AllReadyH.cons rfl (fun K hK => ?_) AllReadyH.nil
      go_simp
      refine hK.out _ _ ?_ (fun hNext => ?_)
      · exact Sb_conj S7.out HE.out ((BXX.out.setCell (Nat.le_refl _) _).setCell (Nat.le_refl _) _)
      have FQ := Lib.hid (show Sq w t0 (some ⟨b, o, none⟩) cap0 N0 h1 l1 c1 u1 m1 W7.heap.size a9 c9 NS ((X.setCell ⟨W7.heap.size, 0, none⟩ (.int .i64 t0)).setCell ⟨W7.heap.size, 1, none⟩ (.slice a9 N0.length c9)) from ⟨Sb_keep S7.out ((BXX.out.setCell (Nat.le_refl _) _).setCell (Nat.le_refl _) _), by rw [HNS.out.2]; exact BZ.out.set2 _ _ _ _, BZ.out.ns2 NX.out _ _⟩)
      clear z0 z1 fz
      clear hK K hHeld
      have hHeld := hNext
      clear hNext
      try simp only [List.getElem_toArray, List.getElem_cons_succ, List.getElem_cons_zero, Act.put, List.setIfInBounds_toArray, List.set_cons_zero, List.set_cons_succ]
      refine wpAnyH_take (i := 19) (v := ?_) rfl (by kernel_rfl) (by kernel_rfl) (by kernel_rfl) (fun _ _ _ h => h) (Or.inl ⟨by rfl, ?_⟩) hHeld ?_
      rotate_left
      · (intro wS hSw; (try dsimp only at hSw); (try go_split_ands); go_simp; try with_reducible rfl)
      try simp only [List.getElem_toArray, List.getElem_cons_succ, List.getElem_cons_zero, Act.put, List.setIfInBounds_toArray, List.set_cons_zero, List.set_cons_succ]
      refine wpAnyH_done (by kernel_rfl) ?_ _
      clear hHeld
      go_wp2_with (fail)
      go_meet
      case rel => exact ⟨W7.heap.size, a9, c9, rfl, rfl, FQ.out⟩
  case rest =>
    obtain ⟨q10, a9, c9, rfl, rfl, hq⟩ := hcut
    obtain ⟨b2, o2, pa2, pc2, rfl, hn2⟩ := hq.m.2.2 i _ HNS.out.1
    have S10 := Lib.hid hq
    have d4 := hn2.c4
    have d5 := hn2.c5
    dsimp only [lfn] at d4 d5
    have E2 := Lib.hid (And.intro d4 d5)
    clear d4 d5
    have hm1 := hq.m.1
    have hm2 := hq.m.2.1
    unfold maxLen at hm2
    rw [HNS.out.2] at hm1
    have hz10 := hq.z
    rw [HNS.out.2] at hz10
    have k0 := hz10.c0
    have k1 := hz10.c1
    have g1 := hq.s.g.c1
    have p0 := hq.s.p.1
    have p1 := hq.s.p.2.1
    have p2 := hq.s.p.2.2.1
    have p3 := hq.s.p.2.2.2.1
    have p4 := hq.s.p.2.2.2.2
    clear hq hn2 hz10
    go_upto_region 13 with (go_at_call 14; ((with_reducible refine (cbn _ _ _ S10.out.m).mono ?_); clear cbn k0 k1 p0 p1 p2 p3 p4 g1; rintro e W10 ⟨a12, c12, rfl, hn10, hb10⟩; have Z10 := Lib.hid (show Sr w t0 (some ⟨b, o, none⟩) cap0 N0 h1 l1 c1 u1 m1 q10 (some ⟨b2, o2, none⟩) c9 NS W10.heap.size a12 c12 Q (W10.alloc (.cells #[.int .i64 0, .slice a12 Q.length c12] 24)) from ⟨Sq_keep (Sq_keep S10.out hb10) (al1 _), Tq.new W10 0 a12 Q.length c12, hn10.keep (al1 _)⟩); have E10 := Lib.hid (And.intro (kc (bel1 hb10 (.cells #[.int .i64 0, .slice a12 Q.length c12] 24)) E2.out.1) (kc (bel1 hb10 (.cells #[.int .i64 0, .slice a12 Q.length c12] 24)) E2.out.2)); clear hn10 hb10))
    generalize (World.alloc W10 _ : World) = W11 at Z10 E10 ⊢
    generalize W10.heap.size = q12 at Z10 ⊢
    have hi1s : (i : Int) < (NS.length : Int) := by rw [HNS.out.2]; exact hi1
    refine wp_region_held_drew (S := (fun W => W.cell? ⟨w.heap.size + 1, 0, none⟩ = some (.int .i64 h1) ∧ W.cell? ⟨w.heap.size + 1, 1, none⟩ = some (.int .i64 l1) ∧ W.cell? ⟨w.heap.size + 1, 2, none⟩ = some (.int .i64 c1) ∧ W.cell? ⟨w.heap.size + 1, 3, none⟩ = some (.int .i64 u1) ∧ W.cell? ⟨w.heap.size + 1, 4, none⟩ = some (.int .i64 m1) ∧ W.cell? ⟨q10, 1, none⟩ = some (.slice (some ⟨b2, o2, none⟩) NS.length c9) ∧ W.cell? ⟨b2, o2 + i * 6 + 5, none⟩ = some (.int .i64 st) ∧ Below W11.heap.size W11 W)) (by kernel_rfl) (by first | exact Sr_conj Z10.out E10.out.2 (Below.refl _ _) | exact Sr_conj Z10.out E10.out.2 (Below.refl _ _).drew) (fun hHeld => ?_)
    refine wpAnyH_take (i := 0) (v := ?_) rfl (by kernel_rfl) (by kernel_rfl) (by kernel_rfl) (fun _ _ _ h => h) (Or.inl ⟨by rfl, ?_⟩) hHeld ?_
    rotate_left
    · (intro wS hSw; (try dsimp only at hSw); (try go_split_ands); go_simp; try with_reducible rfl)
    try simp only [List.getElem_toArray, List.getElem_cons_succ, List.getElem_cons_zero, Act.put, List.setIfInBounds_toArray, List.set_cons_zero, List.set_cons_succ]
    refine wpAnyH_take (i := 1) (v := ?_) rfl (by kernel_rfl) (by kernel_rfl) (by kernel_rfl) (fun _ _ _ h => h) (Or.inl ⟨by rfl, ?_⟩) hHeld ?_
    rotate_left
    · (intro wS hSw; (try dsimp only at hSw); (try go_split_ands); go_simp; try with_reducible rfl)
    try simp only [List.getElem_toArray, List.getElem_cons_succ, List.getElem_cons_zero, Act.put, List.setIfInBounds_toArray, List.set_cons_zero, List.set_cons_succ]
    refine wpAnyH_take (i := 2) (v := ?_) rfl (by kernel_rfl) (by kernel_rfl) (by kernel_rfl) (fun _ _ _ h => h) (Or.inl ⟨by rfl, ?_⟩) hHeld ?_
    rotate_left
    · (intro wS hSw; (try dsimp only at hSw); (try go_split_ands); go_simp; try with_reducible rfl)
    try simp only [List.getElem_toArray, List.getElem_cons_succ, List.getElem_cons_zero, Act.put, List.setIfInBounds_toArray, List.set_cons_zero, List.set_cons_succ]
    refine wpAnyH_take (i := 3) (v := ?_) rfl (by kernel_rfl) (by kernel_rfl) (by kernel_rfl) (fun _ _ _ h => h) (Or.inl ⟨by rfl, ?_⟩) hHeld ?_
    rotate_left
    · (intro wS hSw; (try dsimp only at hSw); (try go_split_ands); go_simp; try with_reducible rfl)
    try simp only [List.getElem_toArray, List.getElem_cons_succ, List.getElem_cons_zero, Act.put, List.setIfInBounds_toArray, List.set_cons_zero, List.set_cons_succ]
    refine wpAnyH_take (i := 4) (v := ?_) rfl (by kernel_rfl) (by kernel_rfl) (by kernel_rfl) (fun _ _ _ h => h) (Or.inl ⟨by rfl, ?_⟩) hHeld ?_
    rotate_left
    · (intro wS hSw; (try dsimp only at hSw); (try go_split_ands); go_simp; try with_reducible rfl)
    try simp only [List.getElem_toArray, List.getElem_cons_succ, List.getElem_cons_zero, Act.put, List.setIfInBounds_toArray, List.set_cons_zero, List.set_cons_succ]
    refine wpAnyH_take (i := 5) (v := ?_) rfl (by kernel_rfl) (by kernel_rfl) (by kernel_rfl) (fun _ _ _ h => h) (Or.inl ⟨by rfl, ?_⟩) hHeld ?_
    rotate_left
    · (intro wS hSw; (try dsimp only at hSw); (try go_split_ands); go_simp; try with_reducible rfl)
    try simp only [List.getElem_toArray, List.getElem_cons_succ, List.getElem_cons_zero, Act.put, List.setIfInBounds_toArray, List.set_cons_zero, List.set_cons_succ]
    refine wpAnyH_take (i := 6) (v := ?_) rfl (by kernel_rfl) (by kernel_rfl) (by kernel_rfl) (fun _ _ _ h => h) (Or.inl ⟨by rfl, ?_⟩) hHeld ?_
    rotate_left
    · (intro wS hSw; (try dsimp only at hSw); (try go_split_ands); go_simp; try with_reducible rfl)
    try simp only [List.getElem_toArray, List.getElem_cons_succ, List.getElem_cons_zero, Act.put, List.setIfInBounds_toArray, List.set_cons_zero, List.set_cons_succ]
    refine wpAnyH_ready (rs := [7]) (by kernel_rfl) (by simp) ?_
    refine AllReadyH.cons rfl (fun K hK => ?_) AllReadyH.nil
    go_simp
    (go_at_call 27; ((with_reducible refine (cde _).mono ?_); rintro e X ⟨rfl, hbX⟩))
    refine hK.out _ _ ?_ (fun hNext => ?_)
    · exact Sr_conj Z10.out E10.out.2 (bel2 hHeld.2.2.2.2.2.2.2 hbX)
    have BX := Lib.hid (bel2 hHeld.2.2.2.2.2.2.2 hbX)
    clear hbX
    clear hK K hHeld
    have hHeld := hNext
    clear hNext
    try simp only [List.getElem_toArray, List.getElem_cons_succ, List.getElem_cons_zero, Act.put, List.setIfInBounds_toArray, List.set_cons_zero, List.set_cons_succ]
    refine wpAnyH_take (i := 8) (v := ?_) rfl (by kernel_rfl) (by kernel_rfl) (by kernel_rfl) (fun _ _ _ h => h) (Or.inl ⟨by rfl, ?_⟩) hHeld ?_
    rotate_left
    · (intro wS hSw; (try dsimp only at hSw); (try go_split_ands); go_simp; try with_reducible rfl)
    try simp only [List.getElem_toArray, List.getElem_cons_succ, List.getElem_cons_zero, Act.put, List.setIfInBounds_toArray, List.set_cons_zero, List.set_cons_succ]
    refine wpAnyH_done (by kernel_rfl) ?_ _
    clear hHeld
    have Z13 := Lib.hid (Sr_keep Z10.out BX.out)
    have e4 := kc BX.out E10.out.1
    have hz13 := Z13.out.s.z
    rw [HNS.out.2] at hz13
    have k0 := hz13.c0
    have k1 := hz13.c1
    clear hz13
    have hmm := @run_makeMap Try.prog
    rcases HWY.out with ⟨rfl, hp2, rfl, hl2⟩ | ⟨rfl, hp2, rfl, hl2⟩ | ⟨rfl, hn2, rfl, hl2⟩ | ⟨rfl, hn2, rfl, hl2⟩ | ⟨rfl, rfl, hl2⟩
    · skip
      have hyy : s2.lvs.length ≤ 1000 := by have h := HVL.out; clear hum hur hur2 hws hws2; omega
      have hzz : (s.lvs.length : Int) + 1 = (s2.lvs.length : Int) := by clear hum hur hur2 hws hws2; omega
      have hd : ¬ (p.length : Int) < 2 := by clear hum hur hur2 hws hws2; omega
      have hdb : decide ((p.length : Int) < 2) = false := decide_eq_false hd
      have hw : wrap64 ((s.lvs.length : Int) + 1) = (s2.lvs.length : Int) := w_add (hzz) hyy
      have hw2 : IntKind.i64.wrap ((s.lvs.length : Int) + 1) = (s2.lvs.length : Int) := w_add2 hzz hyy
      clear hyy hzz
      obtain ⟨W31, W32, W16, hm1, hm2, hm3, hmb, hk0, hk1, hk2⟩ := map3 X
      have Z16 := Lib.hid (Sr_keep Z13.out hmb)
      clear hmb
      go_upto_region 17 with (fail)
      clear hm1 hm2 hm3 hk0 hk1 hk2
      refine wp_region_held_drew (S := (fun W => W.cell? ⟨w.heap.size, 0, none⟩ = some (.int .i64 t0) ∧ W.cell? ⟨w.heap.size, 1, none⟩ = some (.slice (some ⟨b, o, none⟩) N0.length cap0) ∧ W.cell? ⟨q12, 0, none⟩ = some (.int .i64 0) ∧ W.cell? ⟨q12, 1, none⟩ = some (.slice a12 Q.length c12) ∧ Below W16.heap.size W16 W)) (by kernel_rfl) (by first | exact Sr_four Z16.out (Below.refl _ _) | exact Sr_four Z16.out (Below.refl _ _).drew) (fun hHeld => ?_)
      refine wpAnyH_take (i := 0) (v := ?_) rfl (by kernel_rfl) (by kernel_rfl) (by kernel_rfl) (fun _ _ _ h => h) (Or.inl ⟨by rfl, ?_⟩) hHeld ?_
      rotate_left
      · (intro wS hSw; (try dsimp only at hSw); (try go_split_ands); go_simp; try with_reducible rfl)
      try simp only [List.getElem_toArray, List.getElem_cons_succ, List.getElem_cons_zero, Act.put, List.setIfInBounds_toArray, List.set_cons_zero, List.set_cons_succ]
      refine wpAnyH_take (i := 1) (v := ?_) rfl (by kernel_rfl) (by kernel_rfl) (by kernel_rfl) (fun _ _ _ h => h) (Or.inl ⟨by rfl, ?_⟩) hHeld ?_
      rotate_left
      · (intro wS hSw; (try dsimp only at hSw); (try go_split_ands); go_simp; try with_reducible rfl)
      try simp only [List.getElem_toArray, List.getElem_cons_succ, List.getElem_cons_zero, Act.put, List.setIfInBounds_toArray, List.set_cons_zero, List.set_cons_succ]
      refine wpAnyH_take (i := 2) (v := ?_) rfl (by kernel_rfl) (by kernel_rfl) (by kernel_rfl) (fun _ _ _ h => h) (Or.inl ⟨by rfl, ?_⟩) hHeld ?_
      rotate_left
      · (intro wS hSw; (try dsimp only at hSw); (try go_split_ands); go_simp; try with_reducible rfl)
      try simp only [List.getElem_toArray, List.getElem_cons_succ, List.getElem_cons_zero, Act.put, List.setIfInBounds_toArray, List.set_cons_zero, List.set_cons_succ]
      refine wpAnyH_take (i := 3) (v := ?_) rfl (by kernel_rfl) (by kernel_rfl) (by kernel_rfl) (fun _ _ _ h => h) (Or.inl ⟨by rfl, ?_⟩) hHeld ?_
      rotate_left
      · (intro wS hSw; (try dsimp only at hSw); (try go_split_ands); go_simp; try with_reducible rfl)
      try simp only [List.getElem_toArray, List.getElem_cons_succ, List.getElem_cons_zero, Act.put, List.setIfInBounds_toArray, List.set_cons_zero, List.set_cons_succ]
      refine wpAnyH_take (i := 4) (v := ?_) rfl (by kernel_rfl) (by kernel_rfl) (by kernel_rfl) (fun _ _ _ h => h) (Or.inl ⟨by rfl, ?_⟩) hHeld ?_
      rotate_left
      · (intro wS hSw; (try dsimp only at hSw); (try go_split_ands); go_simp; try with_reducible rfl)
      try simp only [List.getElem_toArray, List.getElem_cons_succ, List.getElem_cons_zero, Act.put, List.setIfInBounds_toArray, List.set_cons_zero, List.set_cons_succ]
      refine wpAnyH_take (i := 7) (v := ?_) rfl (by kernel_rfl) (by kernel_rfl) (by kernel_rfl) (fun _ _ _ h => h) (Or.inl ⟨by rfl, ?_⟩) hHeld ?_
      rotate_left
      · (intro wS hSw; (try dsimp only at hSw); (try go_split_ands); go_simp; try with_reducible rfl)
      try simp only [List.getElem_toArray, List.getElem_cons_succ, List.getElem_cons_zero, Act.put, List.setIfInBounds_toArray, List.set_cons_zero, List.set_cons_succ]
      refine wpAnyH_take (i := 8) (v := ?_) rfl (by kernel_rfl) (by kernel_rfl) (by kernel_rfl) (fun _ _ _ h => h) (Or.inl ⟨by rfl, ?_⟩) hHeld ?_
      rotate_left
      · (intro wS hSw; (try dsimp only at hSw); (try go_split_ands); go_simp; try with_reducible rfl)
      try simp only [List.getElem_toArray, List.getElem_cons_succ, List.getElem_cons_zero, Act.put, List.setIfInBounds_toArray, List.set_cons_zero, List.set_cons_succ]
      refine wpAnyH_take (i := 9) (v := ?_) rfl (by kernel_rfl) (by kernel_rfl) (by kernel_rfl) (fun _ _ _ h => h) (Or.inl ⟨by rfl, ?_⟩) hHeld ?_
      rotate_left
      · (intro wS hSw; (try dsimp only at hSw); (try go_split_ands); go_simp; try with_reducible rfl)
      try simp only [List.getElem_toArray, List.getElem_cons_succ, List.getElem_cons_zero, Act.put, List.setIfInBounds_toArray, List.set_cons_zero, List.set_cons_succ]
      refine wpAnyH_take (i := 10) (v := ?_) rfl (by kernel_rfl) (by kernel_rfl) (by kernel_rfl) (fun _ _ _ h => h) (Or.inl ⟨by rfl, ?_⟩) hHeld ?_
      rotate_left
      · (intro wS hSw; (try dsimp only at hSw); (try go_split_ands); go_simp; try with_reducible rfl)
      try simp only [List.getElem_toArray, List.getElem_cons_succ, List.getElem_cons_zero, Act.put, List.setIfInBounds_toArray, List.set_cons_zero, List.set_cons_succ]
      refine wpAnyH_ready (rs := [5]) (by kernel_rfl) (by simp) ?_
      refine AllReadyH.cons rfl (fun K hK => ?_) AllReadyH.nil
      go_simp
      (go_at_call 21; ((with_reducible refine (cv2 _ _ _ (Z16.out.m.keep hHeld.2.2.2.2)).mono ?_); rintro e X ⟨aL, cL, rfl, -, hbX⟩))
      refine hK.out _ _ ?_ (fun hNext => ?_)
      · exact Sr_four Z16.out (bel2 hHeld.2.2.2.2 hbX)
      clear hbX
      clear hK K hHeld
      have hHeld := hNext
      clear hNext
      try simp only [List.getElem_toArray, List.getElem_cons_succ, List.getElem_cons_zero, Act.put, List.setIfInBounds_toArray, List.set_cons_zero, List.set_cons_succ]
      refine wpAnyH_take (i := 6) (v := ?_) rfl (by kernel_rfl) (by kernel_rfl) (by kernel_rfl) (fun _ _ _ h => h) (Or.inl ⟨by rfl, ?_⟩) hHeld ?_
      rotate_left
      · (intro wS hSw; (try dsimp only at hSw); (try go_split_ands); go_simp; try with_reducible rfl)
      try simp only [List.getElem_toArray, List.getElem_cons_succ, List.getElem_cons_zero, Act.put, List.setIfInBounds_toArray, List.set_cons_zero, List.set_cons_succ]
      refine wpAnyH_take (i := 11) (v := ?_) rfl (by kernel_rfl) (by kernel_rfl) (by kernel_rfl) (fun _ _ _ h => h) (Or.inl ⟨by rfl, ?_⟩) hHeld ?_
      rotate_left
      · (intro wS hSw; (try dsimp only at hSw); (try go_split_ands); go_simp; try with_reducible rfl)
      try simp only [List.getElem_toArray, List.getElem_cons_succ, List.getElem_cons_zero, Act.put, List.setIfInBounds_toArray, List.set_cons_zero, List.set_cons_succ]
      refine wpAnyH_take (i := 12) (v := ?_) rfl (by kernel_rfl) (by kernel_rfl) (by kernel_rfl) (fun _ _ _ h => h) (Or.inl ⟨by rfl, ?_⟩) hHeld ?_
      rotate_left
      · (intro wS hSw; (try dsimp only at hSw); (try go_split_ands); go_simp; try with_reducible rfl)
      try simp only [List.getElem_toArray, List.getElem_cons_succ, List.getElem_cons_zero, Act.put, List.setIfInBounds_toArray, List.set_cons_zero, List.set_cons_succ]
      refine wpAnyH_take (i := 13) (v := ?_) rfl (by kernel_rfl) (by kernel_rfl) (by kernel_rfl) (fun _ _ _ h => h) (Or.inl ⟨by rfl, ?_⟩) hHeld ?_
      rotate_left
      · (intro wS hSw; (try dsimp only at hSw); (try go_split_ands); go_simp; try with_reducible rfl)
      try simp only [List.getElem_toArray, List.getElem_cons_succ, List.getElem_cons_zero, Act.put, List.setIfInBounds_toArray, List.set_cons_zero, List.set_cons_succ]
      refine wpAnyH_take (i := 14) (v := ?_) rfl (by kernel_rfl) (by kernel_rfl) (by kernel_rfl) (fun _ _ _ h => h) (Or.inl ⟨by rfl, ?_⟩) hHeld ?_
      rotate_left
      · (intro wS hSw; (try dsimp only at hSw); (try go_split_ands); go_simp; try with_reducible rfl)
      try simp only [List.getElem_toArray, List.getElem_cons_succ, List.getElem_cons_zero, Act.put, List.setIfInBounds_toArray, List.set_cons_zero, List.set_cons_succ]
      refine wpAnyH_take (i := 16) (v := ?_) rfl (by kernel_rfl) (by kernel_rfl) (by kernel_rfl) (fun _ _ _ h => h) (Or.inl ⟨by rfl, ?_⟩) hHeld ?_
      rotate_left
      · (intro wS hSw; (try dsimp only at hSw); (try go_split_ands); go_simp; try with_reducible rfl)
      try simp only [List.getElem_toArray, List.getElem_cons_succ, List.getElem_cons_zero, Act.put, List.setIfInBounds_toArray, List.set_cons_zero, List.set_cons_succ]
      refine wpAnyH_ready (rs := [15]) (by kernel_rfl) (by simp) ?_
      refine AllReadyH.cons rfl (fun K hK => ?_) AllReadyH.nil
      go_simp
      (go_at_call 20; ((with_reducible refine (cal2 _ _ _ (Z16.out.m.keep hHeld.2.2.2.2)).mono ?_); rintro e X ⟨aA, cA, rfl, hRA, hbX⟩))
      refine hK.out _ _ ?_ (fun hNext => ?_)
      · exact Sr_four Z16.out (bel2 hHeld.2.2.2.2 hbX)
      have RA := Lib.hid (hRA.prs rfl)
      clear hRA hbX
      clear hK K hHeld
      have hHeld := hNext
      clear hNext
      try simp only [List.getElem_toArray, List.getElem_cons_succ, List.getElem_cons_zero, Act.put, List.setIfInBounds_toArray, List.set_cons_zero, List.set_cons_succ]
      refine wpAnyH_ready (rs := [17]) (by kernel_rfl) (by simp) ?_
      refine AllReadyH.cons rfl (fun K hK => ?_) AllReadyH.nil
      go_simp
      (go_at_call 20; ((with_reducible refine (cal _ (bel2 Z16.out.s.s.b hHeld.2.2.2.2)).mono ?_); rintro e X ⟨aB, cB, rfl, hRB, hbX⟩))
      refine hK.out _ _ ?_ (fun hNext => ?_)
      · exact Sr_four Z16.out (bel2 hHeld.2.2.2.2 hbX)
      have RB := Lib.hid (hRB.prs rfl)
      replace RA := Lib.hid (RA.out.below hbX)
      clear hRB hbX
      clear hK K hHeld
      have hHeld := hNext
      clear hNext
      try simp only [List.getElem_toArray, List.getElem_cons_succ, List.getElem_cons_zero, Act.put, List.setIfInBounds_toArray, List.set_cons_zero, List.set_cons_succ]
      refine wpAnyH_ready (rs := [18]) (by kernel_rfl) (by simp) ?_
      refine AllReadyH.cons rfl (fun K hK => ?_) AllReadyH.nil
      go_simp
      (go_at_call 22; ((with_reducible refine (csa _ _ _ _ _ RA.out RB.out).mono ?_); rintro e X ⟨rfl, hbX⟩))
      refine hK.out _ _ ?_ (fun hNext => ?_)
      · exact Sr_four Z16.out (bel2 hHeld.2.2.2.2 hbX)
      clear hbX
      clear hK K hHeld
      have hHeld := hNext
      clear hNext
      try simp only [List.getElem_toArray, List.getElem_cons_succ, List.getElem_cons_zero, Act.put, List.setIfInBounds_toArray, List.set_cons_zero, List.set_cons_succ]
      refine wpAnyH_take (i := 19) (v := ?_) rfl (by kernel_rfl) (by kernel_rfl) (by kernel_rfl) (fun _ _ _ h => h) (Or.inl ⟨by rfl, ?_⟩) hHeld ?_
      rotate_left
      · (intro wS hSw; (try dsimp only at hSw); (try go_split_ands); go_simp; try with_reducible rfl)
      try simp only [List.getElem_toArray, List.getElem_cons_succ, List.getElem_cons_zero, Act.put, List.setIfInBounds_toArray, List.set_cons_zero, List.set_cons_succ]
      refine wpAnyH_take (i := 20) (v := ?_) rfl (by kernel_rfl) (by kernel_rfl) (by kernel_rfl) (fun _ _ _ h => h) (Or.inl ⟨by rfl, ?_⟩) hHeld ?_
      rotate_left
      · (intro wS hSw; (try dsimp only at hSw); (try go_split_ands); go_simp; try with_reducible rfl)
      try simp only [List.getElem_toArray, List.getElem_cons_succ, List.getElem_cons_zero, Act.put, List.setIfInBounds_toArray, List.set_cons_zero, List.set_cons_succ]
      refine wpAnyH_ready (rs := [21]) (by kernel_rfl) (by simp) ?_
      refine AllReadyH.cons rfl (fun K hK => ?_) AllReadyH.nil
      go_simp
      (go_at_call 9; ((with_reducible refine (caw _).mono ?_); rintro e X ⟨rfl, hbX⟩))
      refine hK.out _ _ ?_ (fun hNext => ?_)
      · exact Sr_four Z16.out (bel2 hHeld.2.2.2.2 hbX)
      have BF := Lib.hid (bel2 Z16.out.s.s.b (bel2 hHeld.2.2.2.2 hbX))
      clear hbX
      clear hK K hHeld
      have hHeld := hNext
      clear hNext
      try simp only [List.getElem_toArray, List.getElem_cons_succ, List.getElem_cons_zero, Act.put, List.setIfInBounds_toArray, List.set_cons_zero, List.set_cons_succ]
      refine wpAnyH_take (i := 22) (v := ?_) rfl (by kernel_rfl) (by kernel_rfl) (by kernel_rfl) (fun _ _ _ h => h) (Or.inl ⟨by rfl, ?_⟩) hHeld ?_
      rotate_left
      · (intro wS hSw; (try dsimp only at hSw); (try go_split_ands); go_simp; try with_reducible rfl)
      try simp only [List.getElem_toArray, List.getElem_cons_succ, List.getElem_cons_zero, Act.put, List.setIfInBounds_toArray, List.set_cons_zero, List.set_cons_succ]
      refine wpAnyH_take (i := 23) (v := ?_) rfl (by kernel_rfl) (by kernel_rfl) (by kernel_rfl) (fun _ _ _ h => h) (Or.inl ⟨by rfl, ?_⟩) hHeld ?_
      rotate_left
      · (intro wS hSw; (try dsimp only at hSw); (try go_split_ands); go_simp; try with_reducible rfl)
      try simp only [List.getElem_toArray, List.getElem_cons_succ, List.getElem_cons_zero, Act.put, List.setIfInBounds_toArray, List.set_cons_zero, List.set_cons_succ]
      refine wpAnyH_done (by kernel_rfl) ?_ _
      clear hHeld
      go_wp2_with (fail)
      go_ret
      exact ⟨rfl, BF.out⟩
    · skip
      have hyy : s2.lvs.length ≤ 1000 := by have h := HVL.out; clear hum hur hur2 hws hws2; omega
      have hzz : (s.lvs.length : Int) + 0 = (s2.lvs.length : Int) := by clear hum hur hur2 hws hws2; omega
      have hd : (p.length : Int) < 2 := by clear hum hur hur2 hws hws2; omega
      have hdb : decide ((p.length : Int) < 2) = true := decide_eq_true hd
      have hw : wrap64 ((s.lvs.length : Int) + 0) = (s2.lvs.length : Int) := w_add (hzz) hyy
      have hw2 : IntKind.i64.wrap (s.lvs.length : Int) = (s2.lvs.length : Int) := w_same hl2.symm hyy
      clear hyy hzz
      obtain ⟨W31, W32, W16, hm1, hm2, hm3, hmb, hk0, hk1, hk2⟩ := map3 X
      have Z16 := Lib.hid (Sr_keep Z13.out hmb)
      clear hmb
      go_upto_region 17 with (fail)
      clear hm1 hm2 hm3 hk0 hk1 hk2
      refine wp_region_held_drew (S := (fun W => W.cell? ⟨w.heap.size, 0, none⟩ = some (.int .i64 t0) ∧ W.cell? ⟨w.heap.size, 1, none⟩ = some (.slice (some ⟨b, o, none⟩) N0.length cap0) ∧ W.cell? ⟨q12, 0, none⟩ = some (.int .i64 0) ∧ W.cell? ⟨q12, 1, none⟩ = some (.slice a12 Q.length c12) ∧ Below W16.heap.size W16 W)) (by kernel_rfl) (by first | exact Sr_four Z16.out (Below.refl _ _) | exact Sr_four Z16.out (Below.refl _ _).drew) (fun hHeld => ?_)
      refine wpAnyH_take (i := 0) (v := ?_) rfl (by kernel_rfl) (by kernel_rfl) (by kernel_rfl) (fun _ _ _ h => h) (Or.inl ⟨by rfl, ?_⟩) hHeld ?_
      rotate_left
      · (intro wS hSw; (try dsimp only at hSw); (try go_split_ands); go_simp; try with_reducible rfl)
      try simp only [List.getElem_toArray, List.getElem_cons_succ, List.getElem_cons_zero, Act.put, List.setIfInBounds_toArray, List.set_cons_zero, List.set_cons_succ]
      refine wpAnyH_take (i := 1) (v := ?_) rfl (by kernel_rfl) (by kernel_rfl) (by kernel_rfl) (fun _ _ _ h => h) (Or.inl ⟨by rfl, ?_⟩) hHeld ?_
      rotate_left
      · (intro wS hSw; (try dsimp only at hSw); (try go_split_ands); go_simp; try with_reducible rfl)
      try simp only [List.getElem_toArray, List.getElem_cons_succ, List.getElem_cons_zero, Act.put, List.setIfInBounds_toArray, List.set_cons_zero, List.set_cons_succ]
      refine wpAnyH_take (i := 2) (v := ?_) rfl (by kernel_rfl) (by kernel_rfl) (by kernel_rfl) (fun _ _ _ h => h) (Or.inl ⟨by rfl, ?_⟩) hHeld ?_
      rotate_left
      · (intro wS hSw; (try dsimp only at hSw); (try go_split_ands); go_simp; try with_reducible rfl)
      try simp only [List.getElem_toArray, List.getElem_cons_succ, List.getElem_cons_zero, Act.put, List.setIfInBounds_toArray, List.set_cons_zero, List.set_cons_succ]
      refine wpAnyH_take (i := 3) (v := ?_) rfl (by kernel_rfl) (by kernel_rfl) (by kernel_rfl) (fun _ _ _ h => h) (Or.inl ⟨by rfl, ?_⟩) hHeld ?_
      rotate_left
      · (intro wS hSw; (try dsimp only at hSw); (try go_split_ands); go_simp; try with_reducible rfl)
      try simp only [List.getElem_toArray, List.getElem_cons_succ, List.getElem_cons_zero, Act.put, List.setIfInBounds_toArray, List.set_cons_zero, List.set_cons_succ]
      refine wpAnyH_take (i := 4) (v := ?_) rfl (by kernel_rfl) (by kernel_rfl) (by kernel_rfl) (fun _ _ _ h => h) (Or.inl ⟨by rfl, ?_⟩) hHeld ?_
      rotate_left
      · (intro wS hSw; (try dsimp only at hSw); (try go_split_ands); go_simp; try with_reducible rfl)
      try simp only [List.getElem_toArray, List.getElem_cons_succ, List.getElem_cons_zero, Act.put, List.setIfInBounds_toArray, List.set_cons_zero, List.set_cons_succ]
      refine wpAnyH_take (i := 7) (v := ?_) rfl (by kernel_rfl) (by kernel_rfl) (by kernel_rfl) (fun _ _ _ h => h) (Or.inl ⟨by rfl, ?_⟩) hHeld ?_
      rotate_left
      · (intro wS hSw; (try dsimp only at hSw); (try go_split_ands); go_simp; try with_reducible rfl)
      try simp only [List.getElem_toArray, List.getElem_cons_succ, List.getElem_cons_zero, Act.put, List.setIfInBounds_toArray, List.set_cons_zero, List.set_cons_succ]
      refine wpAnyH_take (i := 8) (v := ?_) rfl (by kernel_rfl) (by kernel_rfl) (by kernel_rfl) (fun _ _ _ h => h) (Or.inl ⟨by rfl, ?_⟩) hHeld ?_
      rotate_left
      · (intro wS hSw; (try dsimp only at hSw); (try go_split_ands); go_simp; try with_reducible rfl)
      try simp only [List.getElem_toArray, List.getElem_cons_succ, List.getElem_cons_zero, Act.put, List.setIfInBounds_toArray, List.set_cons_zero, List.set_cons_succ]
      refine wpAnyH_take (i := 9) (v := ?_) rfl (by kernel_rfl) (by kernel_rfl) (by kernel_rfl) (fun _ _ _ h => h) (Or.inl ⟨by rfl, ?_⟩) hHeld ?_
      rotate_left
      · (intro wS hSw; (try dsimp only at hSw); (try go_split_ands); go_simp; try with_reducible rfl)
      try simp only [List.getElem_toArray, List.getElem_cons_succ, List.getElem_cons_zero, Act.put, List.setIfInBounds_toArray, List.set_cons_zero, List.set_cons_succ]
      refine wpAnyH_take (i := 10) (v := ?_) rfl (by kernel_rfl) (by kernel_rfl) (by kernel_rfl) (fun _ _ _ h => h) (Or.inl ⟨by rfl, ?_⟩) hHeld ?_
      rotate_left
      · (intro wS hSw; (try dsimp only at hSw); (try go_split_ands); go_simp; try with_reducible rfl)
      try simp only [List.getElem_toArray, List.getElem_cons_succ, List.getElem_cons_zero, Act.put, List.setIfInBounds_toArray, List.set_cons_zero, List.set_cons_succ]
      refine wpAnyH_ready (rs := [5]) (by kernel_rfl) (by simp) ?_
      refine AllReadyH.cons rfl (fun K hK => ?_) AllReadyH.nil
      go_simp
      (go_at_call 21; ((with_reducible refine (cv2 _ _ _ (Z16.out.m.keep hHeld.2.2.2.2)).mono ?_); rintro e X ⟨aL, cL, rfl, -, hbX⟩))
      refine hK.out _ _ ?_ (fun hNext => ?_)
      · exact Sr_four Z16.out (bel2 hHeld.2.2.2.2 hbX)
      clear hbX
      clear hK K hHeld
      have hHeld := hNext
      clear hNext
      try simp only [List.getElem_toArray, List.getElem_cons_succ, List.getElem_cons_zero, Act.put, List.setIfInBounds_toArray, List.set_cons_zero, List.set_cons_succ]
      refine wpAnyH_take (i := 6) (v := ?_) rfl (by kernel_rfl) (by kernel_rfl) (by kernel_rfl) (fun _ _ _ h => h) (Or.inl ⟨by rfl, ?_⟩) hHeld ?_
      rotate_left
      · (intro wS hSw; (try dsimp only at hSw); (try go_split_ands); go_simp; try with_reducible rfl)
      try simp only [List.getElem_toArray, List.getElem_cons_succ, List.getElem_cons_zero, Act.put, List.setIfInBounds_toArray, List.set_cons_zero, List.set_cons_succ]
      refine wpAnyH_take (i := 11) (v := ?_) rfl (by kernel_rfl) (by kernel_rfl) (by kernel_rfl) (fun _ _ _ h => h) (Or.inl ⟨by rfl, ?_⟩) hHeld ?_
      rotate_left
      · (intro wS hSw; (try dsimp only at hSw); (try go_split_ands); go_simp; try with_reducible rfl)
      try simp only [List.getElem_toArray, List.getElem_cons_succ, List.getElem_cons_zero, Act.put, List.setIfInBounds_toArray, List.set_cons_zero, List.set_cons_succ]
      refine wpAnyH_take (i := 12) (v := ?_) rfl (by kernel_rfl) (by kernel_rfl) (by kernel_rfl) (fun _ _ _ h => h) (Or.inl ⟨by rfl, ?_⟩) hHeld ?_
      rotate_left
      · (intro wS hSw; (try dsimp only at hSw); (try go_split_ands); go_simp; try with_reducible rfl)
      try simp only [List.getElem_toArray, List.getElem_cons_succ, List.getElem_cons_zero, Act.put, List.setIfInBounds_toArray, List.set_cons_zero, List.set_cons_succ]
      refine wpAnyH_take (i := 13) (v := ?_) rfl (by kernel_rfl) (by kernel_rfl) (by kernel_rfl) (fun _ _ _ h => h) (Or.inl ⟨by rfl, ?_⟩) hHeld ?_
      rotate_left
      · (intro wS hSw; (try dsimp only at hSw); (try go_split_ands); go_simp; try with_reducible rfl)
      try simp only [List.getElem_toArray, List.getElem_cons_succ, List.getElem_cons_zero, Act.put, List.setIfInBounds_toArray, List.set_cons_zero, List.set_cons_succ]
      refine wpAnyH_take (i := 14) (v := ?_) rfl (by kernel_rfl) (by kernel_rfl) (by kernel_rfl) (fun _ _ _ h => h) (Or.inl ⟨by rfl, ?_⟩) hHeld ?_
      rotate_left
      · (intro wS hSw; (try dsimp only at hSw); (try go_split_ands); go_simp; try with_reducible rfl)
      try simp only [List.getElem_toArray, List.getElem_cons_succ, List.getElem_cons_zero, Act.put, List.setIfInBounds_toArray, List.set_cons_zero, List.set_cons_succ]
      refine wpAnyH_take (i := 16) (v := ?_) rfl (by kernel_rfl) (by kernel_rfl) (by kernel_rfl) (fun _ _ _ h => h) (Or.inl ⟨by rfl, ?_⟩) hHeld ?_
      rotate_left
      · (intro wS hSw; (try dsimp only at hSw); (try go_split_ands); go_simp; try with_reducible rfl)
      try simp only [List.getElem_toArray, List.getElem_cons_succ, List.getElem_cons_zero, Act.put, List.setIfInBounds_toArray, List.set_cons_zero, List.set_cons_succ]
      refine wpAnyH_ready (rs := [15]) (by kernel_rfl) (by simp) ?_
      refine AllReadyH.cons rfl (fun K hK => ?_) AllReadyH.nil
      go_simp
      (go_at_call 20; ((with_reducible refine (cal2 _ _ _ (Z16.out.m.keep hHeld.2.2.2.2)).mono ?_); rintro e X ⟨aA, cA, rfl, hRA, hbX⟩))
      refine hK.out _ _ ?_ (fun hNext => ?_)
      · exact Sr_four Z16.out (bel2 hHeld.2.2.2.2 hbX)
      have RA := Lib.hid (hRA.prs rfl)
      clear hRA hbX
      clear hK K hHeld
      have hHeld := hNext
      clear hNext
      try simp only [List.getElem_toArray, List.getElem_cons_succ, List.getElem_cons_zero, Act.put, List.setIfInBounds_toArray, List.set_cons_zero, List.set_cons_succ]
      refine wpAnyH_ready (rs := [17]) (by kernel_rfl) (by simp) ?_
      refine AllReadyH.cons rfl (fun K hK => ?_) AllReadyH.nil
      go_simp
      (go_at_call 20; ((with_reducible refine (cal _ (bel2 Z16.out.s.s.b hHeld.2.2.2.2)).mono ?_); rintro e X ⟨aB, cB, rfl, hRB, hbX⟩))
      refine hK.out _ _ ?_ (fun hNext => ?_)
      · exact Sr_four Z16.out (bel2 hHeld.2.2.2.2 hbX)
      have RB := Lib.hid (hRB.prs rfl)
      replace RA := Lib.hid (RA.out.below hbX)
      clear hRB hbX
      clear hK K hHeld
      have hHeld := hNext
      clear hNext
      try simp only [List.getElem_toArray, List.getElem_cons_succ, List.getElem_cons_zero, Act.put, List.setIfInBounds_toArray, List.set_cons_zero, List.set_cons_succ]
      refine wpAnyH_ready (rs := [18]) (by kernel_rfl) (by simp) ?_
      refine AllReadyH.cons rfl (fun K hK => ?_) AllReadyH.nil
      go_simp
      (go_at_call 22; ((with_reducible refine (csa _ _ _ _ _ RA.out RB.out).mono ?_); rintro e X ⟨rfl, hbX⟩))
      refine hK.out _ _ ?_ (fun hNext => ?_)
      · exact Sr_four Z16.out (bel2 hHeld.2.2.2.2 hbX)
      clear hbX
      clear hK K hHeld
      have hHeld := hNext
      clear hNext
      try simp only [List.getElem_toArray, List.getElem_cons_succ, List.getElem_cons_zero, Act.put, List.setIfInBounds_toArray, List.set_cons_zero, List.set_cons_succ]
      refine wpAnyH_take (i := 19) (v := ?_) rfl (by kernel_rfl) (by kernel_rfl) (by kernel_rfl) (fun _ _ _ h => h) (Or.inl ⟨by rfl, ?_⟩) hHeld ?_
      rotate_left
      · (intro wS hSw; (try dsimp only at hSw); (try go_split_ands); go_simp; try with_reducible rfl)
      try simp only [List.getElem_toArray, List.getElem_cons_succ, List.getElem_cons_zero, Act.put, List.setIfInBounds_toArray, List.set_cons_zero, List.set_cons_succ]
      refine wpAnyH_take (i := 20) (v := ?_) rfl (by kernel_rfl) (by kernel_rfl) (by kernel_rfl) (fun _ _ _ h => h) (Or.inl ⟨by rfl, ?_⟩) hHeld ?_
      rotate_left
      · (intro wS hSw; (try dsimp only at hSw); (try go_split_ands); go_simp; try with_reducible rfl)
      try simp only [List.getElem_toArray, List.getElem_cons_succ, List.getElem_cons_zero, Act.put, List.setIfInBounds_toArray, List.set_cons_zero, List.set_cons_succ]
      refine wpAnyH_ready (rs := [21]) (by kernel_rfl) (by simp) ?_
      refine AllReadyH.cons rfl (fun K hK => ?_) AllReadyH.nil
      go_simp
      (go_at_call 9; ((with_reducible refine (caw _).mono ?_); rintro e X ⟨rfl, hbX⟩))
      refine hK.out _ _ ?_ (fun hNext => ?_)
      · exact Sr_four Z16.out (bel2 hHeld.2.2.2.2 hbX)
      have BF := Lib.hid (bel2 Z16.out.s.s.b (bel2 hHeld.2.2.2.2 hbX))
      clear hbX
      clear hK K hHeld
      have hHeld := hNext
      clear hNext
      try simp only [List.getElem_toArray, List.getElem_cons_succ, List.getElem_cons_zero, Act.put, List.setIfInBounds_toArray, List.set_cons_zero, List.set_cons_succ]
      refine wpAnyH_take (i := 22) (v := ?_) rfl (by kernel_rfl) (by kernel_rfl) (by kernel_rfl) (fun _ _ _ h => h) (Or.inl ⟨by rfl, ?_⟩) hHeld ?_
      rotate_left
      · (intro wS hSw; (try dsimp only at hSw); (try go_split_ands); go_simp; try with_reducible rfl)
      try simp only [List.getElem_toArray, List.getElem_cons_succ, List.getElem_cons_zero, Act.put, List.setIfInBounds_toArray, List.set_cons_zero, List.set_cons_succ]
      refine wpAnyH_take (i := 23) (v := ?_) rfl (by kernel_rfl) (by kernel_rfl) (by kernel_rfl) (fun _ _ _ h => h) (Or.inl ⟨by rfl, ?_⟩) hHeld ?_
      rotate_left
      · (intro wS hSw; (try dsimp only at hSw); (try go_split_ands); go_simp; try with_reducible rfl)
      try simp only [List.getElem_toArray, List.getElem_cons_succ, List.getElem_cons_zero, Act.put, List.setIfInBounds_toArray, List.set_cons_zero, List.set_cons_succ]
      refine wpAnyH_done (by kernel_rfl) ?_ _
      clear hHeld
      go_wp2_with (fail)
      go_ret
      exact ⟨rfl, BF.out⟩
    · skip
      have hyy : s2.lvs.length ≤ 1000 := by have h := HVL.out; clear hum hur hur2 hws hws2; omega
      have hzz : (s.lvs.length : Int) + -1 = (s2.lvs.length : Int) := by clear hum hur hur2 hws hws2; omega
      have hd : ((s.lvs.length : Int) == 1) = false := beq_eq_false_iff_ne.2 (by clear hum hur hur2 hws hws2; omega)
      have hw : wrap64 ((s.lvs.length : Int) + -1) = (s2.lvs.length : Int) := w_add (hzz) hyy
      have hw2 : IntKind.i64.wrap ((s.lvs.length : Int) + -1) = (s2.lvs.length : Int) := w_add2 hzz hyy
      have hw3 : wrap64 ((s.lvs.length : Int) - 1) = (s2.lvs.length : Int) := hw
      have hw4 : IntKind.i64.wrap ((s.lvs.length : Int) - 1) = (s2.lvs.length : Int) := hw2
      clear hyy hzz
      obtain ⟨W31, W32, W16, hm1, hm2, hm3, hmb, hk0, hk1, hk2⟩ := map3 X
      have Z16 := Lib.hid (Sr_keep Z13.out hmb)
      clear hmb
      go_upto_region 17 with (fail)
      clear hm1 hm2 hm3 hk0 hk1 hk2
      refine wp_region_held_drew (S := (fun W => W.cell? ⟨w.heap.size, 0, none⟩ = some (.int .i64 t0) ∧ W.cell? ⟨w.heap.size, 1, none⟩ = some (.slice (some ⟨b, o, none⟩) N0.length cap0) ∧ W.cell? ⟨q12, 0, none⟩ = some (.int .i64 0) ∧ W.cell? ⟨q12, 1, none⟩ = some (.slice a12 Q.length c12) ∧ Below W16.heap.size W16 W)) (by kernel_rfl) (by first | exact Sr_four Z16.out (Below.refl _ _) | exact Sr_four Z16.out (Below.refl _ _).drew) (fun hHeld => ?_)
      refine wpAnyH_take (i := 0) (v := ?_) rfl (by kernel_rfl) (by kernel_rfl) (by kernel_rfl) (fun _ _ _ h => h) (Or.inl ⟨by rfl, ?_⟩) hHeld ?_
      rotate_left
      · (intro wS hSw; (try dsimp only at hSw); (try go_split_ands); go_simp; try with_reducible rfl)
      try simp only [List.getElem_toArray, List.getElem_cons_succ, List.getElem_cons_zero, Act.put, List.setIfInBounds_toArray, List.set_cons_zero, List.set_cons_succ]
      refine wpAnyH_take (i := 1) (v := ?_) rfl (by kernel_rfl) (by kernel_rfl) (by kernel_rfl) (fun _ _ _ h => h) (Or.inl ⟨by rfl, ?_⟩) hHeld ?_
      rotate_left
      · (intro wS hSw; (try dsimp only at hSw); (try go_split_ands); go_simp; try with_reducible rfl)
      try simp only [List.getElem_toArray, List.getElem_cons_succ, List.getElem_cons_zero, Act.put, List.setIfInBounds_toArray, List.set_cons_zero, List.set_cons_succ]
      refine wpAnyH_take (i := 2) (v := ?_) rfl (by kernel_rfl) (by kernel_rfl) (by kernel_rfl) (fun _ _ _ h => h) (Or.inl ⟨by rfl, ?_⟩) hHeld ?_
      rotate_left
      · (intro wS hSw; (try dsimp only at hSw); (try go_split_ands); go_simp; try with_reducible rfl)
      try simp only [List.getElem_toArray, List.getElem_cons_succ, List.getElem_cons_zero, Act.put, List.setIfInBounds_toArray, List.set_cons_zero, List.set_cons_succ]
      refine wpAnyH_take (i := 3) (v := ?_) rfl (by kernel_rfl) (by kernel_rfl) (by kernel_rfl) (fun _ _ _ h => h) (Or.inl ⟨by rfl, ?_⟩) hHeld ?_
      rotate_left
      · (intro wS hSw; (try dsimp only at hSw); (try go_split_ands); go_simp; try with_reducible rfl)
      try simp only [List.getElem_toArray, List.getElem_cons_succ, List.getElem_cons_zero, Act.put, List.setIfInBounds_toArray, List.set_cons_zero, List.set_cons_succ]
      refine wpAnyH_take (i := 4) (v := ?_) rfl (by kernel_rfl) (by kernel_rfl) (by kernel_rfl) (fun _ _ _ h => h) (Or.inl ⟨by rfl, ?_⟩) hHeld ?_
      rotate_left
      · (intro wS hSw; (try dsimp only at hSw); (try go_split_ands); go_simp; try with_reducible rfl)
      try simp only [List.getElem_toArray, List.getElem_cons_succ, List.getElem_cons_zero, Act.put, List.setIfInBounds_toArray, List.set_cons_zero, List.set_cons_succ]
      refine wpAnyH_take (i := 7) (v := ?_) rfl (by kernel_rfl) (by kernel_rfl) (by kernel_rfl) (fun _ _ _ h => h) (Or.inl ⟨by rfl, ?_⟩) hHeld ?_
      rotate_left
      · (intro wS hSw; (try dsimp only at hSw); (try go_split_ands); go_simp; try with_reducible rfl)
      try simp only [List.getElem_toArray, List.getElem_cons_succ, List.getElem_cons_zero, Act.put, List.setIfInBounds_toArray, List.set_cons_zero, List.set_cons_succ]
      refine wpAnyH_take (i := 8) (v := ?_) rfl (by kernel_rfl) (by kernel_rfl) (by kernel_rfl) (fun _ _ _ h => h) (Or.inl ⟨by rfl, ?_⟩) hHeld ?_
      rotate_left
      · (intro wS hSw; (try dsimp only at hSw); (try go_split_ands); go_simp; try with_reducible rfl)
      try simp only [List.getElem_toArray, List.getElem_cons_succ, List.getElem_cons_zero, Act.put, List.setIfInBounds_toArray, List.set_cons_zero, List.set_cons_succ]
      refine wpAnyH_take (i := 9) (v := ?_) rfl (by kernel_rfl) (by kernel_rfl) (by kernel_rfl) (fun _ _ _ h => h) (Or.inl ⟨by rfl, ?_⟩) hHeld ?_
      rotate_left
      · (intro wS hSw; (try dsimp only at hSw); (try go_split_ands); go_simp; try with_reducible rfl)
      try simp only [List.getElem_toArray, List.getElem_cons_succ, List.getElem_cons_zero, Act.put, List.setIfInBounds_toArray, List.set_cons_zero, List.set_cons_succ]
      refine wpAnyH_take (i := 10) (v := ?_) rfl (by kernel_rfl) (by kernel_rfl) (by kernel_rfl) (fun _ _ _ h => h) (Or.inl ⟨by rfl, ?_⟩) hHeld ?_
      rotate_left
      · (intro wS hSw; (try dsimp only at hSw); (try go_split_ands); go_simp; try with_reducible rfl)
      try simp only [List.getElem_toArray, List.getElem_cons_succ, List.getElem_cons_zero, Act.put, List.setIfInBounds_toArray, List.set_cons_zero, List.set_cons_succ]
      refine wpAnyH_ready (rs := [5]) (by kernel_rfl) (by simp) ?_
      refine AllReadyH.cons rfl (fun K hK => ?_) AllReadyH.nil
      go_simp
      (go_at_call 21; ((with_reducible refine (cv2 _ _ _ (Z16.out.m.keep hHeld.2.2.2.2)).mono ?_); rintro e X ⟨aL, cL, rfl, -, hbX⟩))
      refine hK.out _ _ ?_ (fun hNext => ?_)
      · exact Sr_four Z16.out (bel2 hHeld.2.2.2.2 hbX)
      clear hbX
      clear hK K hHeld
      have hHeld := hNext
      clear hNext
      try simp only [List.getElem_toArray, List.getElem_cons_succ, List.getElem_cons_zero, Act.put, List.setIfInBounds_toArray, List.set_cons_zero, List.set_cons_succ]
      refine wpAnyH_take (i := 6) (v := ?_) rfl (by kernel_rfl) (by kernel_rfl) (by kernel_rfl) (fun _ _ _ h => h) (Or.inl ⟨by rfl, ?_⟩) hHeld ?_
      rotate_left
      · (intro wS hSw; (try dsimp only at hSw); (try go_split_ands); go_simp; try with_reducible rfl)
      try simp only [List.getElem_toArray, List.getElem_cons_succ, List.getElem_cons_zero, Act.put, List.setIfInBounds_toArray, List.set_cons_zero, List.set_cons_succ]
      refine wpAnyH_take (i := 11) (v := ?_) rfl (by kernel_rfl) (by kernel_rfl) (by kernel_rfl) (fun _ _ _ h => h) (Or.inl ⟨by rfl, ?_⟩) hHeld ?_
      rotate_left
      · (intro wS hSw; (try dsimp only at hSw); (try go_split_ands); go_simp; try with_reducible rfl)
      try simp only [List.getElem_toArray, List.getElem_cons_succ, List.getElem_cons_zero, Act.put, List.setIfInBounds_toArray, List.set_cons_zero, List.set_cons_succ]
      refine wpAnyH_take (i := 12) (v := ?_) rfl (by kernel_rfl) (by kernel_rfl) (by kernel_rfl) (fun _ _ _ h => h) (Or.inl ⟨by rfl, ?_⟩) hHeld ?_
      rotate_left
      · (intro wS hSw; (try dsimp only at hSw); (try go_split_ands); go_simp; try with_reducible rfl)
      try simp only [List.getElem_toArray, List.getElem_cons_succ, List.getElem_cons_zero, Act.put, List.setIfInBounds_toArray, List.set_cons_zero, List.set_cons_succ]
      refine wpAnyH_take (i := 13) (v := ?_) rfl (by kernel_rfl) (by kernel_rfl) (by kernel_rfl) (fun _ _ _ h => h) (Or.inl ⟨by rfl, ?_⟩) hHeld ?_
      rotate_left
      · (intro wS hSw; (try dsimp only at hSw); (try go_split_ands); go_simp; try with_reducible rfl)
      try simp only [List.getElem_toArray, List.getElem_cons_succ, List.getElem_cons_zero, Act.put, List.setIfInBounds_toArray, List.set_cons_zero, List.set_cons_succ]
      refine wpAnyH_take (i := 14) (v := ?_) rfl (by kernel_rfl) (by kernel_rfl) (by kernel_rfl) (fun _ _ _ h => h) (Or.inl ⟨by rfl, ?_⟩) hHeld ?_
      rotate_left
      · (intro wS hSw; (try dsimp only at hSw); (try go_split_ands); go_simp; try with_reducible rfl)
      try simp only [List.getElem_toArray, List.getElem_cons_succ, List.getElem_cons_zero, Act.put, List.setIfInBounds_toArray, List.set_cons_zero, List.set_cons_succ]
      refine wpAnyH_take (i := 16) (v := ?_) rfl (by kernel_rfl) (by kernel_rfl) (by kernel_rfl) (fun _ _ _ h => h) (Or.inl ⟨by rfl, ?_⟩) hHeld ?_
      rotate_left
      · (intro wS hSw; (try dsimp only at hSw); (try go_split_ands); go_simp; try with_reducible rfl)
      try simp only [List.getElem_toArray, List.getElem_cons_succ, List.getElem_cons_zero, Act.put, List.setIfInBounds_toArray, List.set_cons_zero, List.set_cons_succ]
      refine wpAnyH_ready (rs := [15]) (by kernel_rfl) (by simp) ?_
      refine AllReadyH.cons rfl (fun K hK => ?_) AllReadyH.nil
      go_simp
      (go_at_call 20; ((with_reducible refine (cal2 _ _ _ (Z16.out.m.keep hHeld.2.2.2.2)).mono ?_); rintro e X ⟨aA, cA, rfl, hRA, hbX⟩))
      refine hK.out _ _ ?_ (fun hNext => ?_)
      · exact Sr_four Z16.out (bel2 hHeld.2.2.2.2 hbX)
      have RA := Lib.hid (hRA.prs rfl)
      clear hRA hbX
      clear hK K hHeld
      have hHeld := hNext
      clear hNext
      try simp only [List.getElem_toArray, List.getElem_cons_succ, List.getElem_cons_zero, Act.put, List.setIfInBounds_toArray, List.set_cons_zero, List.set_cons_succ]
      refine wpAnyH_ready (rs := [17]) (by kernel_rfl) (by simp) ?_
      refine AllReadyH.cons rfl (fun K hK => ?_) AllReadyH.nil
      go_simp
      (go_at_call 20; ((with_reducible refine (cal _ (bel2 Z16.out.s.s.b hHeld.2.2.2.2)).mono ?_); rintro e X ⟨aB, cB, rfl, hRB, hbX⟩))
      refine hK.out _ _ ?_ (fun hNext => ?_)
      · exact Sr_four Z16.out (bel2 hHeld.2.2.2.2 hbX)
      have RB := Lib.hid (hRB.prs rfl)
      replace RA := Lib.hid (RA.out.below hbX)
      clear hRB hbX
      clear hK K hHeld
      have hHeld := hNext
      clear hNext
      try simp only [List.getElem_toArray, List.getElem_cons_succ, List.getElem_cons_zero, Act.put, List.setIfInBounds_toArray, List.set_cons_zero, List.set_cons_succ]
      refine wpAnyH_ready (rs := [18]) (by kernel_rfl) (by simp) ?_
      refine AllReadyH.cons rfl (fun K hK => ?_) AllReadyH.nil
      go_simp
      (go_at_call 22; ((with_reducible refine (csa _ _ _ _ _ RA.out RB.out).mono ?_); rintro e X ⟨rfl, hbX⟩))
      refine hK.out _ _ ?_ (fun hNext => ?_)
      · exact Sr_four Z16.out (bel2 hHeld.2.2.2.2 hbX)
      clear hbX
      clear hK K hHeld
      have hHeld := hNext
      clear hNext
      try simp only [List.getElem_toArray, List.getElem_cons_succ, List.getElem_cons_zero, Act.put, List.setIfInBounds_toArray, List.set_cons_zero, List.set_cons_succ]
      refine wpAnyH_take (i := 19) (v := ?_) rfl (by kernel_rfl) (by kernel_rfl) (by kernel_rfl) (fun _ _ _ h => h) (Or.inl ⟨by rfl, ?_⟩) hHeld ?_
      rotate_left
      · (intro wS hSw; (try dsimp only at hSw); (try go_split_ands); go_simp; try with_reducible rfl)
      try simp only [List.getElem_toArray, List.getElem_cons_succ, List.getElem_cons_zero, Act.put, List.setIfInBounds_toArray, List.set_cons_zero, List.set_cons_succ]
      refine wpAnyH_take (i := 20) (v := ?_) rfl (by kernel_rfl) (by kernel_rfl) (by kernel_rfl) (fun _ _ _ h => h) (Or.inl ⟨by rfl, ?_⟩) hHeld ?_
      rotate_left
      · (intro wS hSw; (try dsimp only at hSw); (try go_split_ands); go_simp; try with_reducible rfl)
      try simp only [List.getElem_toArray, List.getElem_cons_succ, List.getElem_cons_zero, Act.put, List.setIfInBounds_toArray, List.set_cons_zero, List.set_cons_succ]
      refine wpAnyH_ready (rs := [21]) (by kernel_rfl) (by simp) ?_
      refine AllReadyH.cons rfl (fun K hK => ?_) AllReadyH.nil
      go_simp
      (go_at_call 9; ((with_reducible refine (caw _).mono ?_); rintro e X ⟨rfl, hbX⟩))
      refine hK.out _ _ ?_ (fun hNext => ?_)
      · exact Sr_four Z16.out (bel2 hHeld.2.2.2.2 hbX)
      have BF := Lib.hid (bel2 Z16.out.s.s.b (bel2 hHeld.2.2.2.2 hbX))
      clear hbX
      clear hK K hHeld
      have hHeld := hNext
      clear hNext
      try simp only [List.getElem_toArray, List.getElem_cons_succ, List.getElem_cons_zero, Act.put, List.setIfInBounds_toArray, List.set_cons_zero, List.set_cons_succ]
      refine wpAnyH_take (i := 22) (v := ?_) rfl (by kernel_rfl) (by kernel_rfl) (by kernel_rfl) (fun _ _ _ h => h) (Or.inl ⟨by rfl, ?_⟩) hHeld ?_
      rotate_left
      · (intro wS hSw; (try dsimp only at hSw); (try go_split_ands); go_simp; try with_reducible rfl)
      try simp only [List.getElem_toArray, List.getElem_cons_succ, List.getElem_cons_zero, Act.put, List.setIfInBounds_toArray, List.set_cons_zero, List.set_cons_succ]
      refine wpAnyH_take (i := 23) (v := ?_) rfl (by kernel_rfl) (by kernel_rfl) (by kernel_rfl) (fun _ _ _ h => h) (Or.inl ⟨by rfl, ?_⟩) hHeld ?_
      rotate_left
      · (intro wS hSw; (try dsimp only at hSw); (try go_split_ands); go_simp; try with_reducible rfl)
      try simp only [List.getElem_toArray, List.getElem_cons_succ, List.getElem_cons_zero, Act.put, List.setIfInBounds_toArray, List.set_cons_zero, List.set_cons_succ]
      refine wpAnyH_done (by kernel_rfl) ?_ _
      clear hHeld
      go_wp2_with (fail)
      go_ret
      exact ⟨rfl, BF.out⟩
    · skip
      have hyy : s2.lvs.length ≤ 1000 := by have h := HVL.out; clear hum hur hur2 hws hws2; omega
      have hzz : (s.lvs.length : Int) + 0 = (s2.lvs.length : Int) := by clear hum hur hur2 hws hws2; omega
      have hd : ((s.lvs.length : Int) == 1) = true := beq_iff_eq.2 (by clear hum hur hur2 hws hws2; omega)
      have hw : wrap64 ((s.lvs.length : Int) + 0) = (s2.lvs.length : Int) := w_add (hzz) hyy
      have hw2 : IntKind.i64.wrap (s.lvs.length : Int) = (s2.lvs.length : Int) := w_same hl2.symm hyy
      have hw6 : IntKind.i64.wrap (1 : Int) = 1 := rfl
      clear hyy hzz
      obtain ⟨W31, W32, W16, hm1, hm2, hm3, hmb, hk0, hk1, hk2⟩ := map3 X
      have Z16 := Lib.hid (Sr_keep Z13.out hmb)
      clear hmb
      go_upto_region 17 with (fail)
      clear hm1 hm2 hm3 hk0 hk1 hk2
      refine wp_region_held_drew (S := (fun W => W.cell? ⟨w.heap.size, 0, none⟩ = some (.int .i64 t0) ∧ W.cell? ⟨w.heap.size, 1, none⟩ = some (.slice (some ⟨b, o, none⟩) N0.length cap0) ∧ W.cell? ⟨q12, 0, none⟩ = some (.int .i64 0) ∧ W.cell? ⟨q12, 1, none⟩ = some (.slice a12 Q.length c12) ∧ Below W16.heap.size W16 W)) (by kernel_rfl) (by first | exact Sr_four Z16.out (Below.refl _ _) | exact Sr_four Z16.out (Below.refl _ _).drew) (fun hHeld => ?_)
      refine wpAnyH_take (i := 0) (v := ?_) rfl (by kernel_rfl) (by kernel_rfl) (by kernel_rfl) (fun _ _ _ h => h) (Or.inl ⟨by rfl, ?_⟩) hHeld ?_
      rotate_left
      · (intro wS hSw; (try dsimp only at hSw); (try go_split_ands); go_simp; try with_reducible rfl)
      try simp only [List.getElem_toArray, List.getElem_cons_succ, List.getElem_cons_zero, Act.put, List.setIfInBounds_toArray, List.set_cons_zero, List.set_cons_succ]
      refine wpAnyH_take (i := 1) (v := ?_) rfl (by kernel_rfl) (by kernel_rfl) (by kernel_rfl) (fun _ _ _ h => h) (Or.inl ⟨by rfl, ?_⟩) hHeld ?_
      rotate_left
      · (intro wS hSw; (try dsimp only at hSw); (try go_split_ands); go_simp; try with_reducible rfl)
      try simp only [List.getElem_toArray, List.getElem_cons_succ, List.getElem_cons_zero, Act.put, List.setIfInBounds_toArray, List.set_cons_zero, List.set_cons_succ]
      refine wpAnyH_take (i := 2) (v := ?_) rfl (by kernel_rfl) (by kernel_rfl) (by kernel_rfl) (fun _ _ _ h => h) (Or.inl ⟨by rfl, ?_⟩) hHeld ?_
      rotate_left
      · (intro wS hSw; (try dsimp only at hSw); (try go_split_ands); go_simp; try with_reducible rfl)
      try simp only [List.getElem_toArray, List.getElem_cons_succ, List.getElem_cons_zero, Act.put, List.setIfInBounds_toArray, List.set_cons_zero, List.set_cons_succ]
      refine wpAnyH_take (i := 3) (v := ?_) rfl (by kernel_rfl) (by kernel_rfl) (by kernel_rfl) (fun _ _ _ h => h) (Or.inl ⟨by rfl, ?_⟩) hHeld ?_
      rotate_left
      · (intro wS hSw; (try dsimp only at hSw); (try go_split_ands); go_simp; try with_reducible rfl)
      try simp only [List.getElem_toArray, List.getElem_cons_succ, List.getElem_cons_zero, Act.put, List.setIfInBounds_toArray, List.set_cons_zero, List.set_cons_succ]
      refine wpAnyH_take (i := 4) (v := ?_) rfl (by kernel_rfl) (by kernel_rfl) (by kernel_rfl) (fun _ _ _ h => h) (Or.inl ⟨by rfl, ?_⟩) hHeld ?_
      rotate_left
      · (intro wS hSw; (try dsimp only at hSw); (try go_split_ands); go_simp; try with_reducible rfl)
      try simp only [List.getElem_toArray, List.getElem_cons_succ, List.getElem_cons_zero, Act.put, List.setIfInBounds_toArray, List.set_cons_zero, List.set_cons_succ]
      refine wpAnyH_take (i := 7) (v := ?_) rfl (by kernel_rfl) (by kernel_rfl) (by kernel_rfl) (fun _ _ _ h => h) (Or.inl ⟨by rfl, ?_⟩) hHeld ?_
      rotate_left
      · (intro wS hSw; (try dsimp only at hSw); (try go_split_ands); go_simp; try with_reducible rfl)
      try simp only [List.getElem_toArray, List.getElem_cons_succ, List.getElem_cons_zero, Act.put, List.setIfInBounds_toArray, List.set_cons_zero, List.set_cons_succ]
      refine wpAnyH_take (i := 8) (v := ?_) rfl (by kernel_rfl) (by kernel_rfl) (by kernel_rfl) (fun _ _ _ h => h) (Or.inl ⟨by rfl, ?_⟩) hHeld ?_
      rotate_left
      · (intro wS hSw; (try dsimp only at hSw); (try go_split_ands); go_simp; try with_reducible rfl)
      try simp only [List.getElem_toArray, List.getElem_cons_succ, List.getElem_cons_zero, Act.put, List.setIfInBounds_toArray, List.set_cons_zero, List.set_cons_succ]
      refine wpAnyH_take (i := 9) (v := ?_) rfl (by kernel_rfl) (by kernel_rfl) (by kernel_rfl) (fun _ _ _ h => h) (Or.inl ⟨by rfl, ?_⟩) hHeld ?_
      rotate_left
      · (intro wS hSw; (try dsimp only at hSw); (try go_split_ands); go_simp; try with_reducible rfl)
      try simp only [List.getElem_toArray, List.getElem_cons_succ, List.getElem_cons_zero, Act.put, List.setIfInBounds_toArray, List.set_cons_zero, List.set_cons_succ]
      refine wpAnyH_take (i := 10) (v := ?_) rfl (by kernel_rfl) (by kernel_rfl) (by kernel_rfl) (fun _ _ _ h => h) (Or.inl ⟨by rfl, ?_⟩) hHeld ?_
      rotate_left
      · (intro wS hSw; (try dsimp only at hSw); (try go_split_ands); go_simp; try with_reducible rfl)
      try simp only [List.getElem_toArray, List.getElem_cons_succ, List.getElem_cons_zero, Act.put, List.setIfInBounds_toArray, List.set_cons_zero, List.set_cons_succ]
      refine wpAnyH_ready (rs := [5]) (by kernel_rfl) (by simp) ?_
      refine AllReadyH.cons rfl (fun K hK => ?_) AllReadyH.nil
      go_simp
      (go_at_call 21; ((with_reducible refine (cv2 _ _ _ (Z16.out.m.keep hHeld.2.2.2.2)).mono ?_); rintro e X ⟨aL, cL, rfl, -, hbX⟩))
      refine hK.out _ _ ?_ (fun hNext => ?_)
      · exact Sr_four Z16.out (bel2 hHeld.2.2.2.2 hbX)
      clear hbX
      clear hK K hHeld
      have hHeld := hNext
      clear hNext
      try simp only [List.getElem_toArray, List.getElem_cons_succ, List.getElem_cons_zero, Act.put, List.setIfInBounds_toArray, List.set_cons_zero, List.set_cons_succ]
      refine wpAnyH_take (i := 6) (v := ?_) rfl (by kernel_rfl) (by kernel_rfl) (by kernel_rfl) (fun _ _ _ h => h) (Or.inl ⟨by rfl, ?_⟩) hHeld ?_
      rotate_left
      · (intro wS hSw; (try dsimp only at hSw); (try go_split_ands); go_simp; try with_reducible rfl)
      try simp only [List.getElem_toArray, List.getElem_cons_succ, List.getElem_cons_zero, Act.put, List.setIfInBounds_toArray, List.set_cons_zero, List.set_cons_succ]
      refine wpAnyH_take (i := 11) (v := ?_) rfl (by kernel_rfl) (by kernel_rfl) (by kernel_rfl) (fun _ _ _ h => h) (Or.inl ⟨by rfl, ?_⟩) hHeld ?_
      rotate_left
      · (intro wS hSw; (try dsimp only at hSw); (try go_split_ands); go_simp; try with_reducible rfl)
      try simp only [List.getElem_toArray, List.getElem_cons_succ, List.getElem_cons_zero, Act.put, List.setIfInBounds_toArray, List.set_cons_zero, List.set_cons_succ]
      refine wpAnyH_take (i := 12) (v := ?_) rfl (by kernel_rfl) (by kernel_rfl) (by kernel_rfl) (fun _ _ _ h => h) (Or.inl ⟨by rfl, ?_⟩) hHeld ?_
      rotate_left
      · (intro wS hSw; (try dsimp only at hSw); (try go_split_ands); go_simp; try with_reducible rfl)
      try simp only [List.getElem_toArray, List.getElem_cons_succ, List.getElem_cons_zero, Act.put, List.setIfInBounds_toArray, List.set_cons_zero, List.set_cons_succ]
      refine wpAnyH_take (i := 13) (v := ?_) rfl (by kernel_rfl) (by kernel_rfl) (by kernel_rfl) (fun _ _ _ h => h) (Or.inl ⟨by rfl, ?_⟩) hHeld ?_
      rotate_left
      · (intro wS hSw; (try dsimp only at hSw); (try go_split_ands); go_simp; try with_reducible rfl)
      try simp only [List.getElem_toArray, List.getElem_cons_succ, List.getElem_cons_zero, Act.put, List.setIfInBounds_toArray, List.set_cons_zero, List.set_cons_succ]
      refine wpAnyH_take (i := 14) (v := ?_) rfl (by kernel_rfl) (by kernel_rfl) (by kernel_rfl) (fun _ _ _ h => h) (Or.inl ⟨by rfl, ?_⟩) hHeld ?_
      rotate_left
      · (intro wS hSw; (try dsimp only at hSw); (try go_split_ands); go_simp; try with_reducible rfl)
      try simp only [List.getElem_toArray, List.getElem_cons_succ, List.getElem_cons_zero, Act.put, List.setIfInBounds_toArray, List.set_cons_zero, List.set_cons_succ]
      refine wpAnyH_take (i := 16) (v := ?_) rfl (by kernel_rfl) (by kernel_rfl) (by kernel_rfl) (fun _ _ _ h => h) (Or.inl ⟨by rfl, ?_⟩) hHeld ?_
      rotate_left
      · (intro wS hSw; (try dsimp only at hSw); (try go_split_ands); go_simp; try with_reducible rfl)
      try simp only [List.getElem_toArray, List.getElem_cons_succ, List.getElem_cons_zero, Act.put, List.setIfInBounds_toArray, List.set_cons_zero, List.set_cons_succ]
      refine wpAnyH_ready (rs := [15]) (by kernel_rfl) (by simp) ?_
      refine AllReadyH.cons rfl (fun K hK => ?_) AllReadyH.nil
      go_simp
      (go_at_call 20; ((with_reducible refine (cal2 _ _ _ (Z16.out.m.keep hHeld.2.2.2.2)).mono ?_); rintro e X ⟨aA, cA, rfl, hRA, hbX⟩))
      refine hK.out _ _ ?_ (fun hNext => ?_)
      · exact Sr_four Z16.out (bel2 hHeld.2.2.2.2 hbX)
      have RA := Lib.hid (hRA.prs rfl)
      clear hRA hbX
      clear hK K hHeld
      have hHeld := hNext
      clear hNext
      try simp only [List.getElem_toArray, List.getElem_cons_succ, List.getElem_cons_zero, Act.put, List.setIfInBounds_toArray, List.set_cons_zero, List.set_cons_succ]
      refine wpAnyH_ready (rs := [17]) (by kernel_rfl) (by simp) ?_
      refine AllReadyH.cons rfl (fun K hK => ?_) AllReadyH.nil
      go_simp
      (go_at_call 20; ((with_reducible refine (cal _ (bel2 Z16.out.s.s.b hHeld.2.2.2.2)).mono ?_); rintro e X ⟨aB, cB, rfl, hRB, hbX⟩))
      refine hK.out _ _ ?_ (fun hNext => ?_)
      · exact Sr_four Z16.out (bel2 hHeld.2.2.2.2 hbX)
      have RB := Lib.hid (hRB.prs rfl)
      replace RA := Lib.hid (RA.out.below hbX)
      clear hRB hbX
      clear hK K hHeld
      have hHeld := hNext
      clear hNext
      try simp only [List.getElem_toArray, List.getElem_cons_succ, List.getElem_cons_zero, Act.put, List.setIfInBounds_toArray, List.set_cons_zero, List.set_cons_succ]
      refine wpAnyH_ready (rs := [18]) (by kernel_rfl) (by simp) ?_
      refine AllReadyH.cons rfl (fun K hK => ?_) AllReadyH.nil
      go_simp
      (go_at_call 22; ((with_reducible refine (csa _ _ _ _ _ RA.out RB.out).mono ?_); rintro e X ⟨rfl, hbX⟩))
      refine hK.out _ _ ?_ (fun hNext => ?_)
      · exact Sr_four Z16.out (bel2 hHeld.2.2.2.2 hbX)
      clear hbX
      clear hK K hHeld
      have hHeld := hNext
      clear hNext
      try simp only [List.getElem_toArray, List.getElem_cons_succ, List.getElem_cons_zero, Act.put, List.setIfInBounds_toArray, List.set_cons_zero, List.set_cons_succ]
      refine wpAnyH_take (i := 19) (v := ?_) rfl (by kernel_rfl) (by kernel_rfl) (by kernel_rfl) (fun _ _ _ h => h) (Or.inl ⟨by rfl, ?_⟩) hHeld ?_
      rotate_left
      · (intro wS hSw; (try dsimp only at hSw); (try go_split_ands); go_simp; try with_reducible rfl)
      try simp only [List.getElem_toArray, List.getElem_cons_succ, List.getElem_cons_zero, Act.put, List.setIfInBounds_toArray, List.set_cons_zero, List.set_cons_succ]
      refine wpAnyH_take (i := 20) (v := ?_) rfl (by kernel_rfl) (by kernel_rfl) (by kernel_rfl) (fun _ _ _ h => h) (Or.inl ⟨by rfl, ?_⟩) hHeld ?_
      rotate_left
      · (intro wS hSw; (try dsimp only at hSw); (try go_split_ands); go_simp; try with_reducible rfl)
      try simp only [List.getElem_toArray, List.getElem_cons_succ, List.getElem_cons_zero, Act.put, List.setIfInBounds_toArray, List.set_cons_zero, List.set_cons_succ]
      refine wpAnyH_ready (rs := [21]) (by kernel_rfl) (by simp) ?_
      refine AllReadyH.cons rfl (fun K hK => ?_) AllReadyH.nil
      go_simp
      (go_at_call 9; ((with_reducible refine (caw _).mono ?_); rintro e X ⟨rfl, hbX⟩))
      refine hK.out _ _ ?_ (fun hNext => ?_)
      · exact Sr_four Z16.out (bel2 hHeld.2.2.2.2 hbX)
      have BF := Lib.hid (bel2 Z16.out.s.s.b (bel2 hHeld.2.2.2.2 hbX))
      clear hbX
      clear hK K hHeld
      have hHeld := hNext
      clear hNext
      try simp only [List.getElem_toArray, List.getElem_cons_succ, List.getElem_cons_zero, Act.put, List.setIfInBounds_toArray, List.set_cons_zero, List.set_cons_succ]
      refine wpAnyH_take (i := 22) (v := ?_) rfl (by kernel_rfl) (by kernel_rfl) (by kernel_rfl) (fun _ _ _ h => h) (Or.inl ⟨by rfl, ?_⟩) hHeld ?_
      rotate_left
      · (intro wS hSw; (try dsimp only at hSw); (try go_split_ands); go_simp; try with_reducible rfl)
      try simp only [List.getElem_toArray, List.getElem_cons_succ, List.getElem_cons_zero, Act.put, List.setIfInBounds_toArray, List.set_cons_zero, List.set_cons_succ]
      refine wpAnyH_take (i := 23) (v := ?_) rfl (by kernel_rfl) (by kernel_rfl) (by kernel_rfl) (fun _ _ _ h => h) (Or.inl ⟨by rfl, ?_⟩) hHeld ?_
      rotate_left
      · (intro wS hSw; (try dsimp only at hSw); (try go_split_ands); go_simp; try with_reducible rfl)
      try simp only [List.getElem_toArray, List.getElem_cons_succ, List.getElem_cons_zero, Act.put, List.setIfInBounds_toArray, List.set_cons_zero, List.set_cons_succ]
      refine wpAnyH_done (by kernel_rfl) ?_ _
      clear hHeld
      go_wp2_with (fail)
      go_ret
      exact ⟨rfl, BF.out⟩
    · skip
      have hyy : s2.lvs.length ≤ 1000 := by have h := HVL.out; clear hum hur hur2 hws hws2; omega
      have hzz : (s.lvs.length : Int) + 0 = (s2.lvs.length : Int) := by clear hum hur hur2 hws hws2; omega
      have hw : wrap64 ((s.lvs.length : Int) + 0) = (s2.lvs.length : Int) := w_add (hzz) hyy
      have hw2 : IntKind.i64.wrap (s.lvs.length : Int) = (s2.lvs.length : Int) := w_same hl2.symm hyy
      clear hyy hzz
      obtain ⟨W31, W32, W16, hm1, hm2, hm3, hmb, hk0, hk1, hk2⟩ := map3 X
      have Z16 := Lib.hid (Sr_keep Z13.out hmb)
      clear hmb
      go_upto_region 17 with (fail)
      clear hm1 hm2 hm3 hk0 hk1 hk2
      refine wp_region_held_drew (S := (fun W => W.cell? ⟨w.heap.size, 0, none⟩ = some (.int .i64 t0) ∧ W.cell? ⟨w.heap.size, 1, none⟩ = some (.slice (some ⟨b, o, none⟩) N0.length cap0) ∧ W.cell? ⟨q12, 0, none⟩ = some (.int .i64 0) ∧ W.cell? ⟨q12, 1, none⟩ = some (.slice a12 Q.length c12) ∧ Below W16.heap.size W16 W)) (by kernel_rfl) (by first | exact Sr_four Z16.out (Below.refl _ _) | exact Sr_four Z16.out (Below.refl _ _).drew) (fun hHeld => ?_)
      refine wpAnyH_take (i := 0) (v := ?_) rfl (by kernel_rfl) (by kernel_rfl) (by kernel_rfl) (fun _ _ _ h => h) (Or.inl ⟨by rfl, ?_⟩) hHeld ?_
      rotate_left
      · (intro wS hSw; (try dsimp only at hSw); (try go_split_ands); go_simp; try with_reducible rfl)
      try simp only [List.getElem_toArray, List.getElem_cons_succ, List.getElem_cons_zero, Act.put, List.setIfInBounds_toArray, List.set_cons_zero, List.set_cons_succ]
      refine wpAnyH_take (i := 1) (v := ?_) rfl (by kernel_rfl) (by kernel_rfl) (by kernel_rfl) (fun _ _ _ h => h) (Or.inl ⟨by rfl, ?_⟩) hHeld ?_
      rotate_left
      · (intro wS hSw; (try dsimp only at hSw); (try go_split_ands); go_simp; try with_reducible rfl)
      try simp only [List.getElem_toArray, List.getElem_cons_succ, List.getElem_cons_zero, Act.put, List.setIfInBounds_toArray, List.set_cons_zero, List.set_cons_succ]
      refine wpAnyH_take (i := 2) (v := ?_) rfl (by kernel_rfl) (by kernel_rfl) (by kernel_rfl) (fun _ _ _ h => h) (Or.inl ⟨by rfl, ?_⟩) hHeld ?_
      rotate_left
      · (intro wS hSw; (try dsimp only at hSw); (try go_split_ands); go_simp; try with_reducible rfl)
      try simp only [List.getElem_toArray, List.getElem_cons_succ, List.getElem_cons_zero, Act.put, List.setIfInBounds_toArray, List.set_cons_zero, List.set_cons_succ]
      refine wpAnyH_take (i := 3) (v := ?_) rfl (by kernel_rfl) (by kernel_rfl) (by kernel_rfl) (fun _ _ _ h => h) (Or.inl ⟨by rfl, ?_⟩) hHeld ?_
      rotate_left
      · (intro wS hSw; (try dsimp only at hSw); (try go_split_ands); go_simp; try with_reducible rfl)
      try simp only [List.getElem_toArray, List.getElem_cons_succ, List.getElem_cons_zero, Act.put, List.setIfInBounds_toArray, List.set_cons_zero, List.set_cons_succ]
      refine wpAnyH_take (i := 4) (v := ?_) rfl (by kernel_rfl) (by kernel_rfl) (by kernel_rfl) (fun _ _ _ h => h) (Or.inl ⟨by rfl, ?_⟩) hHeld ?_
      rotate_left
      · (intro wS hSw; (try dsimp only at hSw); (try go_split_ands); go_simp; try with_reducible rfl)
      try simp only [List.getElem_toArray, List.getElem_cons_succ, List.getElem_cons_zero, Act.put, List.setIfInBounds_toArray, List.set_cons_zero, List.set_cons_succ]
      refine wpAnyH_take (i := 7) (v := ?_) rfl (by kernel_rfl) (by kernel_rfl) (by kernel_rfl) (fun _ _ _ h => h) (Or.inl ⟨by rfl, ?_⟩) hHeld ?_
      rotate_left
      · (intro wS hSw; (try dsimp only at hSw); (try go_split_ands); go_simp; try with_reducible rfl)
      try simp only [List.getElem_toArray, List.getElem_cons_succ, List.getElem_cons_zero, Act.put, List.setIfInBounds_toArray, List.set_cons_zero, List.set_cons_succ]
      refine wpAnyH_take (i := 8) (v := ?_) rfl (by kernel_rfl) (by kernel_rfl) (by kernel_rfl) (fun _ _ _ h => h) (Or.inl ⟨by rfl, ?_⟩) hHeld ?_
      rotate_left
      · (intro wS hSw; (try dsimp only at hSw); (try go_split_ands); go_simp; try with_reducible rfl)
      try simp only [List.getElem_toArray, List.getElem_cons_succ, List.getElem_cons_zero, Act.put, List.setIfInBounds_toArray, List.set_cons_zero, List.set_cons_succ]
      refine wpAnyH_take (i := 9) (v := ?_) rfl (by kernel_rfl) (by kernel_rfl) (by kernel_rfl) (fun _ _ _ h => h) (Or.inl ⟨by rfl, ?_⟩) hHeld ?_
      rotate_left
      · (intro wS hSw; (try dsimp only at hSw); (try go_split_ands); go_simp; try with_reducible rfl)
      try simp only [List.getElem_toArray, List.getElem_cons_succ, List.getElem_cons_zero, Act.put, List.setIfInBounds_toArray, List.set_cons_zero, List.set_cons_succ]
      refine wpAnyH_take (i := 10) (v := ?_) rfl (by kernel_rfl) (by kernel_rfl) (by kernel_rfl) (fun _ _ _ h => h) (Or.inl ⟨by rfl, ?_⟩) hHeld ?_
      rotate_left
      · (intro wS hSw; (try dsimp only at hSw); (try go_split_ands); go_simp; try with_reducible rfl)
      try simp only [List.getElem_toArray, List.getElem_cons_succ, List.getElem_cons_zero, Act.put, List.setIfInBounds_toArray, List.set_cons_zero, List.set_cons_succ]
      refine wpAnyH_ready (rs := [5]) (by kernel_rfl) (by simp) ?_
      refine AllReadyH.cons rfl (fun K hK => ?_) AllReadyH.nil
      go_simp
      (go_at_call 21; ((with_reducible refine (cv2 _ _ _ (Z16.out.m.keep hHeld.2.2.2.2)).mono ?_); rintro e X ⟨aL, cL, rfl, -, hbX⟩))
      refine hK.out _ _ ?_ (fun hNext => ?_)
      · exact Sr_four Z16.out (bel2 hHeld.2.2.2.2 hbX)
      clear hbX
      clear hK K hHeld
      have hHeld := hNext
      clear hNext
      try simp only [List.getElem_toArray, List.getElem_cons_succ, List.getElem_cons_zero, Act.put, List.setIfInBounds_toArray, List.set_cons_zero, List.set_cons_succ]
      refine wpAnyH_take (i := 6) (v := ?_) rfl (by kernel_rfl) (by kernel_rfl) (by kernel_rfl) (fun _ _ _ h => h) (Or.inl ⟨by rfl, ?_⟩) hHeld ?_
      rotate_left
      · (intro wS hSw; (try dsimp only at hSw); (try go_split_ands); go_simp; try with_reducible rfl)
      try simp only [List.getElem_toArray, List.getElem_cons_succ, List.getElem_cons_zero, Act.put, List.setIfInBounds_toArray, List.set_cons_zero, List.set_cons_succ]
      refine wpAnyH_take (i := 11) (v := ?_) rfl (by kernel_rfl) (by kernel_rfl) (by kernel_rfl) (fun _ _ _ h => h) (Or.inl ⟨by rfl, ?_⟩) hHeld ?_
      rotate_left
      · (intro wS hSw; (try dsimp only at hSw); (try go_split_ands); go_simp; try with_reducible rfl)
      try simp only [List.getElem_toArray, List.getElem_cons_succ, List.getElem_cons_zero, Act.put, List.setIfInBounds_toArray, List.set_cons_zero, List.set_cons_succ]
      refine wpAnyH_take (i := 12) (v := ?_) rfl (by kernel_rfl) (by kernel_rfl) (by kernel_rfl) (fun _ _ _ h => h) (Or.inl ⟨by rfl, ?_⟩) hHeld ?_
      rotate_left
      · (intro wS hSw; (try dsimp only at hSw); (try go_split_ands); go_simp; try with_reducible rfl)
      try simp only [List.getElem_toArray, List.getElem_cons_succ, List.getElem_cons_zero, Act.put, List.setIfInBounds_toArray, List.set_cons_zero, List.set_cons_succ]
      refine wpAnyH_take (i := 13) (v := ?_) rfl (by kernel_rfl) (by kernel_rfl) (by kernel_rfl) (fun _ _ _ h => h) (Or.inl ⟨by rfl, ?_⟩) hHeld ?_
      rotate_left
      · (intro wS hSw; (try dsimp only at hSw); (try go_split_ands); go_simp; try with_reducible rfl)
      try simp only [List.getElem_toArray, List.getElem_cons_succ, List.getElem_cons_zero, Act.put, List.setIfInBounds_toArray, List.set_cons_zero, List.set_cons_succ]
      refine wpAnyH_take (i := 14) (v := ?_) rfl (by kernel_rfl) (by kernel_rfl) (by kernel_rfl) (fun _ _ _ h => h) (Or.inl ⟨by rfl, ?_⟩) hHeld ?_
      rotate_left
      · (intro wS hSw; (try dsimp only at hSw); (try go_split_ands); go_simp; try with_reducible rfl)
      try simp only [List.getElem_toArray, List.getElem_cons_succ, List.getElem_cons_zero, Act.put, List.setIfInBounds_toArray, List.set_cons_zero, List.set_cons_succ]
      refine wpAnyH_take (i := 16) (v := ?_) rfl (by kernel_rfl) (by kernel_rfl) (by kernel_rfl) (fun _ _ _ h => h) (Or.inl ⟨by rfl, ?_⟩) hHeld ?_
      rotate_left
      · (intro wS hSw; (try dsimp only at hSw); (try go_split_ands); go_simp; try with_reducible rfl)
      try simp only [List.getElem_toArray, List.getElem_cons_succ, List.getElem_cons_zero, Act.put, List.setIfInBounds_toArray, List.set_cons_zero, List.set_cons_succ]
      refine wpAnyH_ready (rs := [15]) (by kernel_rfl) (by simp) ?_
      refine AllReadyH.cons rfl (fun K hK => ?_) AllReadyH.nil
      go_simp
      (go_at_call 20; ((with_reducible refine (cal2 _ _ _ (Z16.out.m.keep hHeld.2.2.2.2)).mono ?_); rintro e X ⟨aA, cA, rfl, hRA, hbX⟩))
      refine hK.out _ _ ?_ (fun hNext => ?_)
      · exact Sr_four Z16.out (bel2 hHeld.2.2.2.2 hbX)
      have RA := Lib.hid (hRA.prs rfl)
      clear hRA hbX
      clear hK K hHeld
      have hHeld := hNext
      clear hNext
      try simp only [List.getElem_toArray, List.getElem_cons_succ, List.getElem_cons_zero, Act.put, List.setIfInBounds_toArray, List.set_cons_zero, List.set_cons_succ]
      refine wpAnyH_ready (rs := [17]) (by kernel_rfl) (by simp) ?_
      refine AllReadyH.cons rfl (fun K hK => ?_) AllReadyH.nil
      go_simp
      (go_at_call 20; ((with_reducible refine (cal _ (bel2 Z16.out.s.s.b hHeld.2.2.2.2)).mono ?_); rintro e X ⟨aB, cB, rfl, hRB, hbX⟩))
      refine hK.out _ _ ?_ (fun hNext => ?_)
      · exact Sr_four Z16.out (bel2 hHeld.2.2.2.2 hbX)
      have RB := Lib.hid (hRB.prs rfl)
      replace RA := Lib.hid (RA.out.below hbX)
      clear hRB hbX
      clear hK K hHeld
      have hHeld := hNext
      clear hNext
      try simp only [List.getElem_toArray, List.getElem_cons_succ, List.getElem_cons_zero, Act.put, List.setIfInBounds_toArray, List.set_cons_zero, List.set_cons_succ]
      refine wpAnyH_ready (rs := [18]) (by kernel_rfl) (by simp) ?_
      refine AllReadyH.cons rfl (fun K hK => ?_) AllReadyH.nil
      go_simp
      (go_at_call 22; ((with_reducible refine (csa _ _ _ _ _ RA.out RB.out).mono ?_); rintro e X ⟨rfl, hbX⟩))
      refine hK.out _ _ ?_ (fun hNext => ?_)
      · exact Sr_four Z16.out (bel2 hHeld.2.2.2.2 hbX)
      clear hbX
      clear hK K hHeld
      have hHeld := hNext
      clear hNext
      try simp only [List.getElem_toArray, List.getElem_cons_succ, List.getElem_cons_zero, Act.put, List.setIfInBounds_toArray, List.set_cons_zero, List.set_cons_succ]
      refine wpAnyH_take (i := 19) (v := ?_) rfl (by kernel_rfl) (by kernel_rfl) (by kernel_rfl) (fun _ _ _ h => h) (Or.inl ⟨by rfl, ?_⟩) hHeld ?_
      rotate_left
      · (intro wS hSw; (try dsimp only at hSw); (try go_split_ands); go_simp; try with_reducible rfl)
      try simp only [List.getElem_toArray, List.getElem_cons_succ, List.getElem_cons_zero, Act.put, List.setIfInBounds_toArray, List.set_cons_zero, List.set_cons_succ]
      refine wpAnyH_take (i := 20) (v := ?_) rfl (by kernel_rfl) (by kernel_rfl) (by kernel_rfl) (fun _ _ _ h => h) (Or.inl ⟨by rfl, ?_⟩) hHeld ?_
      rotate_left
      · (intro wS hSw; (try dsimp only at hSw); (try go_split_ands); go_simp; try with_reducible rfl)
      try simp only [List.getElem_toArray, List.getElem_cons_succ, List.getElem_cons_zero, Act.put, List.setIfInBounds_toArray, List.set_cons_zero, List.set_cons_succ]
      refine wpAnyH_ready (rs := [21]) (by kernel_rfl) (by simp) ?_
      refine AllReadyH.cons rfl (fun K hK => ?_) AllReadyH.nil
      go_simp
      (go_at_call 9; ((with_reducible refine (caw _).mono ?_); rintro e X ⟨rfl, hbX⟩))
      refine hK.out _ _ ?_ (fun hNext => ?_)
      · exact Sr_four Z16.out (bel2 hHeld.2.2.2.2 hbX)
      have BF := Lib.hid (bel2 Z16.out.s.s.b (bel2 hHeld.2.2.2.2 hbX))
      clear hbX
      clear hK K hHeld
      have hHeld := hNext
      clear hNext
      try simp only [List.getElem_toArray, List.getElem_cons_succ, List.getElem_cons_zero, Act.put, List.setIfInBounds_toArray, List.set_cons_zero, List.set_cons_succ]
      refine wpAnyH_take (i := 22) (v := ?_) rfl (by kernel_rfl) (by kernel_rfl) (by kernel_rfl) (fun _ _ _ h => h) (Or.inl ⟨by rfl, ?_⟩) hHeld ?_
      rotate_left
      · (intro wS hSw; (try dsimp only at hSw); (try go_split_ands); go_simp; try with_reducible rfl)
      try simp only [List.getElem_toArray, List.getElem_cons_succ, List.getElem_cons_zero, Act.put, List.setIfInBounds_toArray, List.set_cons_zero, List.set_cons_succ]
      refine wpAnyH_take (i := 23) (v := ?_) rfl (by kernel_rfl) (by kernel_rfl) (by kernel_rfl) (fun _ _ _ h => h) (Or.inl ⟨by rfl, ?_⟩) hHeld ?_
      rotate_left
      · (intro wS hSw; (try dsimp only at hSw); (try go_split_ands); go_simp; try with_reducible rfl)
      try simp only [List.getElem_toArray, List.getElem_cons_succ, List.getElem_cons_zero, Act.put, List.setIfInBounds_toArray, List.set_cons_zero, List.set_cons_succ]
      refine wpAnyH_done (by kernel_rfl) ?_ _
      clear hHeld
      go_wp2_with (fail)
      go_ret
      exact ⟨rfl, BF.out⟩

theorem walk (t0 : Int) (a0 : Option Addr) (cap0 : Nat) (N0 : List Nd) (h1 l1 c1 u1 m1 : Int) (a2 : Int) (a3 : Int) (w : World) (w0 : Ns w a0 cap0 N0) (s0 : Mid N0) (w2 : (Lit.int .i64 a2).wf = true) (w3 : (Lit.int .i64 a3).wf = true) :
    Calls Try.prog 7 #[.agg #[.int .i64 t0, .slice a0 N0.length cap0], .agg #[.int .i64 h1, .int .i64 l1, .int .i64 c1, .int .i64 u1, .int .i64 m1], .int .i64 a2, .int .i64 a3] w fun e w' => e = .returned (.bool true) ∧ Below w.heap.size w w' := by
  by_cases hL : Lgt N0
  · rcases Classical.em (∃ s, Tr N0 s t0) with ⟨s, hs⟩ | hs
    · exact walk_yes t0 a0 cap0 N0 h1 l1 c1 u1 m1 a2 a3 w w0 s0 hL s hs
    · exact walk_no t0 a0 cap0 N0 h1 l1 c1 u1 m1 a2 a3 w w0 s0 hL (fun s h => hs ⟨s, h⟩)
  · exact walk_big t0 a0 cap0 N0 h1 l1 c1 u1 m1 a2 a3 w w0 s0 hL

set_option maxRecDepth 100000 in
theorem lifted (os : Os) (started : os.Started) (H : Type) (enc : TypeId × Value → H) :
    ReturnsInHanded {} Try.checked os 7 .any (Rows.adaptBendsSpec.pre6 enc Try.prog Try.f7 Rows.adaptBendsRow.domain false) (Rows.adaptBendsSpec.post enc Try.prog Try.f7 false true false false) := by
  refine returnsInHanded_of_change_sized (C := Try.checked) own started (by kernel_rfl) Try.func7
    (ChangeSpec.witness6 (enc := enc) (C := Try.checked) false ⟨#[], #[.agg #[.int .i64 0, .slice none 0 0], .agg #[.int .i64 0, .int .i64 0, .int .i64 0, .int .i64 0, .int .i64 0], .int .i64 0, .int .i64 0], []⟩ 8 (by kernel_rfl) (by kernel_rfl) (by kernel_rfl) (by kernel_rfl)) ?_
  intro W base args ds gs before hval0 hW hcnd hsz _
  have hval : ∀ (j : Nat) t v, Try.f7.params[j]? = some t → args[j]? = some v → Value.okWide Try.prog W .any base t v := hval0
  have hW' := hW
  obtain ⟨p, q, hA0, hV, rfl, hfz, hnd⟩ := hW
  have hA : DataW.TrodAll enc Try.prog W 0 (fun _ => true) true Try.f7.params.toList args.toList ds p := hA0
  rw [Try.params7] at hA hval
  obtain ⟨v0, vs0, d0, ds0, p0, q0, hargs, rfl, rfl, h0, r0⟩ := trodAll_cons hA
  obtain ⟨v1, vs1, d1, ds1, p1, q1, rfl, rfl, rfl, h1, r1⟩ := trodAll_cons r0
  obtain ⟨v2, vs2, d2, ds2, p2, q2, rfl, rfl, rfl, h2, r2⟩ := trodAll_cons r1
  obtain ⟨v3, vs3, d3, ds3, p3, q3, rfl, rfl, rfl, h3, r3⟩ := trodAll_cons r2
  obtain ⟨rfl, rfl, rfl⟩ := trodAll_nil r3
  obtain rfl : args = #[v0, v1, v2, v3] := by cases args; simp_all
  obtain ⟨rfl, rfl⟩ := trodVars_none hV
  have k0 := h0
  have lt0 : ∀ x ∈ p0, x.block < W.heap.size := by obtain ⟨m, hm⟩ := k0; exact DataW.trod_lt m _ _ _ hm
  obtain ⟨u0, rfl, _⟩ := okWide_struct Try.underlying24 (hval 0 24 v0 rfl rfl)
  obtain ⟨t0_, a0, cap0, N0, e0, w0, s0⟩ := fields_tree (enc := enc) (w := W) (cs := u0.toList) (fuel := h0.choose) (by simpa [Value.cells] using h0.choose_spec) (fun n hn => by simpa using List.all_eq_true.1 hsz n (DataW.weights_mem_each (j := 0) rfl rfl n hn))
  obtain rfl : u0 = #[.int .i64 t0_, .slice a0 N0.length cap0] := by cases u0; simp_all
  have k1 := h1
  have lt1 : ∀ x ∈ p1, x.block < W.heap.size := by obtain ⟨m, hm⟩ := k1; exact DataW.trod_lt m _ _ _ hm
  obtain ⟨u1, rfl, _⟩ := okWide_struct Try.underlying26 (hval 1 26 v1 rfl rfl)
  obtain ⟨h1_, l1_, c1_, u1_, m1_, e1⟩ := fields_pol (enc := enc) (w := W) (cs := u1.toList) (fuel := h1.choose) (by simpa [Value.cells] using h1.choose_spec)
  obtain rfl : u1 = #[.int .i64 h1_, .int .i64 l1_, .int .i64 c1_, .int .i64 u1_, .int .i64 m1_] := by cases u1; simp_all
  have k2 := h2
  have lt2 : ∀ x ∈ p2, x.block < W.heap.size := by obtain ⟨m, hm⟩ := k2; exact DataW.trod_lt m _ _ _ hm
  obtain ⟨a2, rfl, rfl, rfl, w2⟩ := open_int Try.underlying3 (hval 2 3 v2 rfl rfl) h2
  have k3 := h3
  have lt3 : ∀ x ∈ p3, x.block < W.heap.size := by obtain ⟨m, hm⟩ := k3; exact DataW.trod_lt m _ _ _ hm
  obtain ⟨a3, rfl, rfl, rfl, w3⟩ := open_int Try.underlying3 (hval 3 3 v3 rfl rfl) h3
  clear hA0 hval0
  refine (walk t0_ a0 cap0 N0 h1_ l1_ c1_ u1_ m1_ a2 a3 W w0 s0 w2 w3).mono fun e W' ⟨he, bel⟩ => ?_
  subst he
  exact ⟨_, rfl, _, _, _, [], _, [], hW', trodAll_mk1 (shut_bool Try.underlying4 _), (trodAll_cons_mk (Below.trod laidOut (by kernel_rfl) (of_decide_eq_true (by kernel_rfl)) k0 bel lt0) (trodAll_cons_mk (Below.trod laidOut (by kernel_rfl) (of_decide_eq_true (by kernel_rfl)) k1 bel lt1) (trodAll_cons_mk (Below.trod laidOut (by kernel_rfl) (of_decide_eq_true (by kernel_rfl)) k2 bel lt2) (trodAll_cons_mk (Below.trod laidOut (by kernel_rfl) (of_decide_eq_true (by kernel_rfl)) k3 bel lt3) trodAll_mk0)))), rfl, bel.frame _, fun h => by cases h⟩

theorem over : Rows.adaptBendsRow.holds Try.pinned (OpenSpec.ofChange Rows.adaptBendsSpec) :=
  OpenClaim.holds_of_wide 7 Try.f7 rfl rfl rfl rfl rfl rfl rfl ⟨rfl, rfl, rfl, rfl, rfl⟩ rfl rfl rfl rfl rfl (by kernel_rfl) Try.func7 (by kernel_rfl)
    (of_decide_eq_true (by kernel_rfl)) (by unfold Func.isWrapper; first | (rw [if_pos (by decide +kernel)]; kernel_rfl) | (rw [if_neg (by decide +kernel)]; exact ⟨rfl, rfl⟩))
    (fun os started H enc _ => lifted os started H enc)

theorem adaptBendsHolds : Rows.AdaptBendsSaid := over
#print axioms adaptBendsHolds
end Go.Proofs.Yteebceecohhegaa.adaptBends
