/- TreePlain (P14.1): of a tree of at most 450 nodes and 2000 pairs: where Plain says no it tells no nodes, and May says no; else Plain tells the same of its nodes turned round by any number, Same says yes of both, All tells the same pairs, and Root is 0. No condition but that of the form. -/
import Derived.Test.YtlpjbgojijkdjaaRows
import Derived.Test.YtlpjbgojijkdjaaTsG
import Derived.Test.YtlpjbgojijkdjaaTsH
import Derived.Test.YtlpjbgojijkdjaaTrY
import Derived.OwnWalk
import Derived.LoopTactic
import Derived.WalkKit
import Derived.ProofKit
import Derived.OpenShut
import Derived.ChangeOld
import Derived.Below
namespace Go.Proofs.Ytlpjbgojijkdjaa.treePlain
open Go.ChangeShapes Go.WideShapes Go.ChangeAt Go.RowKit
set_option linter.all false

theorem own : ownKnob Try.prog.godebug = none := by kernel_rfl
theorem laidOut : laidOutB Try.prog = true := by kernel_rfl

theorem wrapU64 (a : Int) : IntKind.u64.wrap a = a % 18446744073709551616 := by first | rfl | simp [IntKind.wrap]
/-- int(uint64(a) % uint64(d)). -/
theorem umod (a d : Int) (h : 0 < d) (h2 : d ≤ 9223372036854775807) : ∃ m : Nat, (m : Int) < d ∧ wrap64 ((IntKind.u64.wrap a).tmod d) = m := by
  have h0 : 0 ≤ a % 18446744073709551616 := Int.emod_nonneg _ (by decide)
  have h1 := Int.emod_nonneg (a % 18446744073709551616) (show d ≠ 0 by omega)
  have h3 := Int.emod_lt_of_pos (a % 18446744073709551616) h
  refine ⟨((a % 18446744073709551616) % d).toNat, by omega, ?_⟩
  rw [wrapU64, Int.tmod_eq_emod_of_nonneg h0]
  unfold wrap64
  omega
/-- What holds all along. -/
structure Tp (w : World) (t : Int) (a : Option Addr) (cap : Nat) (N : List Nd) (q5 : Nat) (ao : Option Addr) (cp : Nat) (P : List Nd) (W : World) : Prop where
  g : Bk W w.heap.size [.int .i64 t, .slice a N.length cap]
  p : Bk W q5 [.int .i64 0, .slice ao P.length cp]
  n : Ns W ao cp P
  b : Below w.heap.size w W
theorem Tp.keep {w : World} {t : Int} {a : Option Addr} {cap : Nat} {N : List Nd} {q5 : Nat} {ao : Option Addr} {cp : Nat} {P : List Nd} {W W' : World} (h : Tp w t a cap N q5 ao cp P W) (hb : Below W.heap.size W W') : Tp w t a cap N q5 ao cp P W' := ⟨h.g.keep hb, h.p.keep hb, h.n.keep hb, bel2 h.b hb⟩
/-- The turned nodes, as far as they are made. -/
structure Tu (W : World) (q9 gq : Nat) (k n : Nat) (P : List Nd) (j : Nat) (wr : World) (M : List RN) : Prop where
  b : Below W.heap.size W wr
  u : Bk wr q9 [.int .i64 k, .slice (some ⟨gq, 0, none⟩) n n]
  r : NRow wr (fun _ => False) (.slice (some ⟨gq, 0, none⟩) n n) M
  l : M.length = n
  d : ∀ i x, i < j → P[i]? = some x → ∃ m, M[(i + k) % n]? = some m ∧ m.n = fixn (fun j => (j + k) % n) x
  ne : q9 ≠ gq ∧ W.heap.size ≤ gq ∧ W.heap.size ≤ q9
theorem route_ab {N : List Nd} : ∀ {s : Sh} {t : Int} {lo hi : Option Int}, Hangs N s t lo hi → ∀ j ∈ s.pre, ∀ x, N[j]? = some x → x.r = true → ∃ a b : Nat, x.a = a ∧ x.b = b ∧ a < N.length ∧ b < N.length := by
  intro s
  induction s with
  | lf i =>
    intro t lo hi h j hj x hx hr
    simp [Sh.pre] at hj
    subst hj
    obtain ⟨_, m, hm, hmr, _⟩ := h
    rw [hx] at hm; cases hm
    rw [hr] at hmr; cases hmr
  | rt i l r ihl ihr =>
    intro t lo hi h j hj x hx hr
    obtain ⟨_, m, hm, hmr, _, hl, hrr⟩ := h
    simp only [Sh.pre, List.mem_cons, List.mem_append] at hj
    rcases hj with rfl | hj | hj
    · rw [hx] at hm; cases hm
      exact ⟨_, _, hl.top, hrr.top, hl.lt _ l.top_mem, hrr.lt _ r.top_mem⟩
    · exact ihl hl j hj x hx hr
    · exact ihr hrr j hj x hx hr
theorem only_six (X : World) (g y : Nat) (v0 v1 v2 v3 v4 v5 : Value) : Only (fun i => i = g) X ((((((X.setCell ⟨g, y, none⟩ v0).setCell ⟨g, y + 1, none⟩ v1).setCell ⟨g, y + 2, none⟩ v2).setCell ⟨g, y + 3, none⟩ v3).setCell ⟨g, y + 4, none⟩ v4).setCell ⟨g, y + 5, none⟩ v5) :=
  ((((((Only.refl _ X).setCell (S := fun i => i = g) (p := ⟨g, y, none⟩) (.inl rfl) v0).setCell (S := fun i => i = g) (p := ⟨g, y + 1, none⟩) (.inl rfl) v1).setCell (S := fun i => i = g) (p := ⟨g, y + 2, none⟩) (.inl rfl) v2).setCell (S := fun i => i = g) (p := ⟨g, y + 3, none⟩) (.inl rfl) v3).setCell (S := fun i => i = g) (p := ⟨g, y + 4, none⟩) (.inl rfl) v4).setCell (S := fun i => i = g) (p := ⟨g, y + 5, none⟩) (.inl rfl) v5
/-- One more node is turned. -/
theorem Tu.next {W : World} {q9 gq k n : Nat} {P : List Nd} {j : Nat} {wr : World} {M : List RN} (h : Tu W q9 gq k n P j wr M) (hj : j < n) (hk : k < n) {X X' : World} (hb : Below wr.heap.size wr X) {x : Nd} (hx : P[j]? = some x) {m' : RN} (hm' : m'.n = fixn (fun j => (j + k) % n) x)
    (hO : Only (fun i => i = gq) X X') (hR : NRow X' (fun _ => False) (.slice (some ⟨gq, 0, none⟩) n n) (M.set ((j + k) % n) m')) : Tu W q9 gq k n P (j + 1) X' (M.set ((j + k) % n) m') := by
  obtain ⟨hne, hg, hq⟩ := h.ne
  have bX : Below W.heap.size W X := bel2 h.b hb
  have hy : (j + k) % n < M.length := by rw [h.l]; exact Nat.mod_lt _ (by omega)
  refine ⟨bX.trans (hO.below (B := W.heap.size) (fun i hi => by have : i = gq := hi; omega) bX.size), (h.u.keep hb).only hO (fun e => hne e), hR, by rw [List.length_set]; exact h.l, fun i z hi hz => ?_, h.ne⟩
  rcases Nat.lt_succ_iff_lt_or_eq.1 hi with hi | rfl
  · obtain ⟨m2, h1, h2⟩ := h.d i z hi hz
    refine ⟨m2, ?_, h2⟩
    rw [List.getElem?_set_ne (fun e => ?_)]
    · exact h1
    · have a1 := mod_two (show i < n by omega) hk
      have a2 := mod_two hj hk
      rw [a1, a2] at e
      split at e <;> split at e <;> omega
  · rw [hx] at hz; cases hz
    exact ⟨m', List.getElem?_set_self hy, hm'⟩
theorem Tu.drew {W : World} {q9 gq k n : Nat} {P : List Nd} {j : Nat} {wr : World} {M : List RN} (h : Tu W q9 gq k n P j wr M) : Tu W q9 gq k n P j wr.drew M := ⟨h.b.drew, h.u.drew, h.r.drew, h.l, h.d, h.ne⟩
theorem Tu.six {W : World} {q9 gq k n : Nat} {P : List Nd} {j : Nat} {wr : World} {M : List RN} (h : Tu W q9 gq k n P j wr M) {X : World} (hb : Below wr.heap.size wr X) {y : Nat} {m m' : RN} (hm : M[y]? = some m) (hp : Prs W m'.a m'.c m'.n.p) :
    NRow ((((((X.setCell ⟨gq, y * 6, none⟩ (.bool m'.n.r)).setCell ⟨gq, y * 6 + 1, none⟩ (.int .i64 m'.n.k)).setCell ⟨gq, y * 6 + 2, none⟩ (.int .i64 m'.n.a)).setCell ⟨gq, y * 6 + 3, none⟩ (.int .i64 m'.n.b)).setCell ⟨gq, y * 6 + 4, none⟩ (.slice m'.a m'.n.p.length m'.c)).setCell ⟨gq, y * 6 + 5, none⟩ (.int .i64 m'.n.s)) (fun _ => False) (.slice (some ⟨gq, 0, none⟩) n n) (M.set y m') := by
  obtain ⟨hne, hg, hq⟩ := h.ne
  refine (h.r.keep hb).six hm m' (hp.below (bel2 h.b hb)) (fun hne' b o sp e => ⟨fun h => h, fun e2 => ?_⟩)
  have hp2 := hp
  obtain ⟨q, l, hl⟩ := List.exists_cons_of_ne_nil hne'
  rw [hl] at hp2
  obtain ⟨b', o', e', c0, _⟩ := hp2.2.2.1 0 q rfl
  rw [e] at e'; cases e'
  have := World.block_lt_of_cell? W _ c0
  dsimp only at this
  omega
/-- The four trees that are looked at in the end. -/
structure Q4 (w : World) (t0 : Int) (a0 : Option Addr) (cap0 : Nat) (N0 : List Nd) (q5 : Nat) (ao : Option Addr) (cpp : Nat) (P : List Nd) (q9 gq k : Nat) (U : List Nd) (q12 : Nat) (a8 : Option Addr) (c8 : Nat) (W : World) : Prop where
  tp : Tp w t0 a0 cap0 N0 q5 ao cpp P W
  n0 : Ns W a0 cap0 N0
  u : Bk W q9 [.int .i64 k, .slice (some ⟨gq, 0, none⟩) P.length P.length]
  nu : Ns W (some ⟨gq, 0, none⟩) P.length U
  q : Bk W q12 [.int .i64 0, .slice a8 P.length c8]
  nq : Ns W a8 c8 P
theorem Q4.keep {w : World} {t0 : Int} {a0 : Option Addr} {cap0 : Nat} {N0 : List Nd} {q5 : Nat} {ao : Option Addr} {cpp : Nat} {P : List Nd} {q9 gq k : Nat} {U : List Nd} {q12 : Nat} {a8 : Option Addr} {c8 : Nat} {W W' : World} (h : Q4 w t0 a0 cap0 N0 q5 ao cpp P q9 gq k U q12 a8 c8 W) (hb : Below W.heap.size W W') : Q4 w t0 a0 cap0 N0 q5 ao cpp P q9 gq k U q12 a8 c8 W' :=
  ⟨h.tp.keep hb, h.n0.keep hb, h.u.keep hb, h.nu.keep hb, h.q.keep hb, h.nq.keep hb⟩
theorem Q4.drew {w : World} {t0 : Int} {a0 : Option Addr} {cap0 : Nat} {N0 : List Nd} {q5 : Nat} {ao : Option Addr} {cpp : Nat} {P : List Nd} {q9 gq k : Nat} {U : List Nd} {q12 : Nat} {a8 : Option Addr} {c8 : Nat} {W : World} (h : Q4 w t0 a0 cap0 N0 q5 ao cpp P q9 gq k U q12 a8 c8 W) : Q4 w t0 a0 cap0 N0 q5 ao cpp P q9 gq k U q12 a8 c8 W.drew :=
  h.keep (Below.refl _ _).drew
theorem q4_conj {w : World} {t0 : Int} {a0 : Option Addr} {cap0 : Nat} {N0 : List Nd} {q5 : Nat} {ao : Option Addr} {cpp : Nat} {P : List Nd} {q9 gq k : Nat} {U : List Nd} {q12 : Nat} {a8 : Option Addr} {c8 : Nat} {W : World} (h : Q4 w t0 a0 cap0 N0 q5 ao cpp P q9 gq k U q12 a8 c8 W) :
    W.cell? ⟨w.heap.size, 0, none⟩ = some (.int .i64 t0) ∧ W.cell? ⟨w.heap.size, 1, none⟩ = some (.slice a0 N0.length cap0) ∧ W.cell? ⟨q5, 0, none⟩ = some (.int .i64 0) ∧ W.cell? ⟨q5, 1, none⟩ = some (.slice ao P.length cpp) ∧ W.cell? ⟨q9, 0, none⟩ = some (.int .i64 k) ∧ W.cell? ⟨q9, 1, none⟩ = some (.slice (some ⟨gq, 0, none⟩) P.length P.length) ∧ W.cell? ⟨q12, 0, none⟩ = some (.int .i64 0) ∧ W.cell? ⟨q12, 1, none⟩ = some (.slice a8 P.length c8) ∧ Q4 w t0 a0 cap0 N0 q5 ao cpp P q9 gq k U q12 a8 c8 W :=
  ⟨h.tp.g.at_ 0 _ rfl, h.tp.g.at_ 1 _ rfl, h.tp.p.at_ 0 _ rfl, h.tp.p.at_ 1 _ rfl, h.u.at_ 0 _ rfl, h.u.at_ 1 _ rfl, h.q.at_ 0 _ rfl, h.q.at_ 1 _ rfl, h⟩
attribute [local go_sem] mkN_run
set_option maxRecDepth 100000 in
set_option maxHeartbeats 6400000 in
theorem walk_big (t0 : Int) (a0 : Option Addr) (cap0 : Nat) (N0 : List Nd) (w : World) (w0 : Ns w a0 cap0 N0) (s0 : Mid N0) (a1 : Int) (hL : ¬ Lgt N0) :
    Calls Try.prog 5 #[.agg #[.int .i64 t0, .slice a0 N0.length cap0], .int .i64 a1] w fun e w' => e = .returned (.bool true) ∧ Below w.heap.size w w' := by
  have b1 : Below w.heap.size w (w.alloc (.cells #[.int .i64 t0, .slice a0 N0.length cap0] 24)) := al1 _
  have cl := light_any t0 a0 cap0 N0 _ (w0.keep b1) s0 1 (fun h => absurd h hL) (fun _ => rfl)
  have caw := fun W => awake_any W
  have HB := Lib.hid b1
  unfold trv at cl
  clear b1 w0 s0 hL
  go_enter Try.func5, Try.ntmps5
  go_wp2_with (first
    | (go_at_call 9; ((with_reducible refine cl.mono ?_); clear cl; rintro e W3 ⟨rfl, hb3⟩; have HB3 := Lib.hid (bel2 HB.out hb3); clear hb3))
    | (go_at_call 10; ((with_reducible refine (caw _).mono ?_); clear caw; rintro e W4 ⟨rfl, hb4⟩; have HB4 := Lib.hid (bel2 HB3.out hb4); clear hb4))
    | fail)
  go_ret
  exact ⟨rfl, HB4.out⟩
set_option maxRecDepth 100000 in
set_option maxHeartbeats 6400000 in
theorem walk_no (t0 : Int) (a0 : Option Addr) (cap0 : Nat) (N0 : List Nd) (w : World) (w0 : Ns w a0 cap0 N0) (s0 : Mid N0) (a1 : Int) (hL : Lgt N0) (hT : ∀ s, ¬ Tr N0 s t0) :
    Calls Try.prog 5 #[.agg #[.int .i64 t0, .slice a0 N0.length cap0], .int .i64 a1] w fun e w' => e = .returned (.bool true) ∧ Below w.heap.size w w' := by
  have b1 : Below w.heap.size w (w.alloc (.cells #[.int .i64 t0, .slice a0 N0.length cap0] 24)) := al1 _
  have cl := light_any t0 a0 cap0 N0 _ (w0.keep b1) s0 0 (fun _ => rfl) (fun h => absurd hL h)
  have cm := fun W (hb : Below w.heap.size w W) => tmay_any t0 a0 cap0 N0 W (w0.keep hb) hL.small false ⟨fun h => (by cases h), fun ⟨s, hs⟩ => absurd hs (hT s)⟩
  have cp := fun W (hb : Below w.heap.size w W) => tplain_no t0 a0 cap0 N0 W (w0.keep hb) hL.small hT
  have caw := fun W => awake_any W
  have HB := Lib.hid b1
  have G1 := Lib.hid (Bk.new w #[.int .i64 t0, .slice a0 N0.length cap0] 24)
  unfold trv at cl cm cp
  clear b1 w0 s0 hL hT
  go_enter Try.func5, Try.ntmps5
  go_wp2_with (first
    | (go_at_call 9; ((with_reducible refine cl.mono ?_); clear cl; rintro e W3 ⟨rfl, hb3⟩; have G3 := Lib.hid (G1.out.keep hb3); have HB3 := Lib.hid (bel2 HB.out hb3); have k0 := G3.out.at_ 0 _ rfl; have k1 := G3.out.at_ 1 _ rfl; clear hb3))
    | (go_at_call 11; ((with_reducible refine (cp _ HB3.out).mono ?_); clear cp k0 k1; rintro e W5 ⟨rfl, hb5⟩; have G5 := Lib.hid ((G3.out.keep hb5).past (.cells #[.int .i64 0, .slice none 0 0] 24)); have HB5 := Lib.hid (bel1 (bel2 HB3.out hb5) (.cells #[.int .i64 0, .slice none 0 0] 24)); have k0 := G5.out.at_ 0 _ rfl; have k1 := G5.out.at_ 1 _ rfl; clear hb5))
    | (go_at_call 16; ((with_reducible refine (cm _ HB5.out).mono ?_); clear cm k0 k1; rintro e W7 ⟨rfl, hb7⟩; have HB7 := Lib.hid (bel2 HB5.out hb7); clear hb7))
    | (go_at_call 10; ((with_reducible refine (caw _).mono ?_); clear caw; rintro e W4 ⟨rfl, hb4⟩; have HB4 := Lib.hid (bel2 HB7.out hb4); clear hb4))
    | fail)
  go_ret
  exact ⟨rfl, HB4.out⟩
set_option maxRecDepth 100000 in
set_option maxHeartbeats 12800000 in
theorem walk_yes (t0 : Int) (a0 : Option Addr) (cap0 : Nat) (N0 : List Nd) (w : World) (w0 : Ns w a0 cap0 N0) (s0 : Mid N0) (a1 : Int) (hL : Lgt N0) (s : Sh) (hT : Tr N0 s t0) :
    Calls Try.prog 5 #[.agg #[.int .i64 t0, .slice a0 N0.length cap0], .int .i64 a1] w fun e w' => e = .returned (.bool true) ∧ Below w.heap.size w w' := by
  have b1 : Below w.heap.size w (w.alloc (.cells #[.int .i64 t0, .slice a0 N0.length cap0] 24)) := al1 _
  have hs := hL.small
  have hP : PlO N0 t0 true (lay N0 s 0) := .inl ⟨s, hT, rfl, rfl⟩
  have hsP := hP.small hs
  have hPl : (lay N0 s 0).length = N0.length := by rw [lay_len, hT.all]
  have hpos : 0 < N0.length := by have := s.pre_pos; have := hT.all; omega
  obtain ⟨s2, hT2, hY2, hA2⟩ := plain_tr hT
  have cl := light_any t0 a0 cap0 N0 _ (w0.keep b1) s0 0 (fun _ => rfl) (fun h => absurd hL h)
  have cp := fun W (hb : Below w.heap.size w W) => tplain_yes t0 a0 cap0 N0 W (w0.keep hb) hs s hT
  unfold PlIs at cp
  have caw := fun W => awake_any W
  have HP := Lib.hid hP
  generalize lay N0 s 0 = P at *
  have hn1 : P.length ≤ 450 := by rw [hPl]; exact hL.1
  have hn0 : 0 < P.length := by omega
  have hnz : ((P.length : Int) == 0) = false := by rw [beq_eq_false_iff_ne]; omega
  obtain ⟨k, hk, hum⟩ := umod a1 (P.length : Int) (by omega) (by omega)
  have hkl : k < P.length := by omega
  have hk0 : (0 : Int) ≤ (k : Int) := by omega
  have hkm : (k : Int).tmod (P.length : Int) = (k : Int) := by rw [Int.tmod_eq_emod_of_nonneg hk0]; exact Int.emod_eq_of_lt hk0 hk
  have HB := Lib.hid b1
  have G1 := Lib.hid (Bk.new w #[.int .i64 t0, .slice a0 N0.length cap0] 24)
  have HN := Lib.hid w0
  have HT := Lib.hid (And.intro hT (And.intro hT2 (And.intro hY2 hA2)))
  have HSM := Lib.hid (And.intro hs hsP)
  have HPL := Lib.hid hPl
  unfold trv at cl cp
  clear b1 w0 s0 hT hs hP hsP hPl hL hT2 hY2 hA2 hpos
  go_enter Try.func5, Try.ntmps5
  go_upto_region 4 with (first
    | (go_at_call 9; ((with_reducible refine cl.mono ?_); clear cl; rintro e W3 ⟨rfl, hb3⟩; have G3 := Lib.hid (G1.out.keep hb3); have HB3 := Lib.hid (bel2 HB.out hb3); have k0 := G3.out.at_ 0 _ rfl; have k1 := G3.out.at_ 1 _ rfl; clear hb3 G1 HB))
    | (go_at_call 11; ((with_reducible refine (cp _ HB3.out).mono ?_); clear cp k0 k1; rintro e W5 ⟨ao, cpp, rfl, hn5, hb5⟩; have C5 := Lib.hid (And.intro hn5 hb5); clear hb5 hn5))
    | fail)
  have T6 := Lib.hid (show Tp w t0 a0 cap0 N0 W5.heap.size ao cpp P (W5.alloc (.cells #[.int .i64 0, .slice ao P.length cpp] 24)) from
    ⟨(G3.out.keep C5.out.2).past _, Bk.new W5 #[.int .i64 0, .slice ao P.length cpp] 24, C5.out.1.keep (al1 _), bel1 (bel2 HB3.out C5.out.2) _⟩)
  clear C5 G3 HB3
  obtain ⟨q5, hq5⟩ : ∃ q, W5.heap.size = q := ⟨_, rfl⟩
  rw [hq5] at T6 ⊢
  clear hq5
  generalize (World.alloc W5 _ : World) = W at *
  have p0 := T6.out.p.at_ 0 _ rfl
  have p1 := T6.out.p.at_ 1 _ rfl
  go_upto_region 10 with (fail)
  have hml : P.length ≤ 460 := by omega
  have TA := Lib.hid (show Tu W (W.heap.size + 1) W.heap.size k P.length P 0 ((W.alloc (.cells (mkN P.length) 51)).alloc (.cells #[.int .i64 k, .slice (some ⟨W.heap.size, 0, none⟩) P.length P.length] 24)).drew (List.replicate P.length RN.z) from
    ⟨(bel1 (al1 _) _).drew, by
      have h := (Bk.new (W.alloc (.cells (mkN P.length) 51)) #[.int .i64 k, .slice (some ⟨W.heap.size, 0, none⟩) P.length P.length] 24).drew
      simp only [World.size_alloc] at h; exact h, ((NRow.made W P.length hml (fun _ => False) (fun h => h)).keep (al1 _)).drew, List.length_replicate .., fun i x hi => absurd hi (Nat.not_lt_zero i), by omega, Nat.le_refl _, by omega⟩)
  have TB := Lib.hid (show Tu W W.heap.size (W.heap.size + 1) k P.length P 0 ((W.alloc (.cells #[.int .i64 k, .slice (some ⟨W.heap.size + 1, 0, none⟩) P.length P.length] 24)).alloc (.cells (mkN P.length) 51)).drew (List.replicate P.length RN.z) from
    ⟨(bel1 (al1 _) _).drew, ((Bk.new W #[.int .i64 k, .slice (some ⟨W.heap.size + 1, 0, none⟩) P.length P.length] 24).past _).drew, by
      have h := (NRow.made (W.alloc (.cells #[.int .i64 k, .slice (some ⟨W.heap.size + 1, 0, none⟩) P.length P.length] 24)) P.length hml (fun _ => False) (fun h => h)).drew
      simp only [World.size_alloc] at h; exact h, List.length_replicate .., fun i x hi => absurd hi (Nat.not_lt_zero i), by omega, by omega, Nat.le_refl _⟩)
  have hwk : IntKind.i64.wrap (k : Int) = (k : Int) := IntWalk.i64_in _ (by omega)
  have hPne : ¬ P = [] := fun e => by rw [e] at hn0; exact absurd hn0 (by simp)
  have h5 := T6.out.p.lt
  go_cut [9] from 48 to 56 (fun x wx => ∃ q9 gq, x = .pointer (some ⟨q9, 0, none⟩) ∧ Tu W q9 gq k P.length P 0 wx (List.replicate P.length RN.z))
  case first =>
    go_region
    all_goals go_wp2_with (fail)
    all_goals go_meet
    case rel => exact ⟨_, _, rfl, TA.out⟩
    case rel => exact ⟨_, _, rfl, TB.out⟩
  case rest =>
    obtain ⟨q9, gq, rfl, hTu⟩ := hcut
    have HU0 := Lib.hid hTu
    have q1 := (T6.out.keep hTu.b).p.at_ 1 _ rfl
    clear h5 hPne hwk TA TB hTu p0 p1 hkm hnz
    go_wp2_with (fail)
    go_loopw [60] (fun i wr => ∃ (j : Nat) (M : List RN), j ≤ P.length ∧ i = .int .i64 j ∧ Tu W q9 gq k P.length P j wr M) (fun i _ => P.length - (intOf i).toNat)
    case atStart => exact ⟨0, _, Nat.zero_le _, rfl, HU0.out⟩
    case round =>
      obtain ⟨j, M, hj, rfl, hTu⟩ := hrel
      have HU := Lib.hid hTu
      by_cases hlt : j < P.length
      · obtain ⟨x, hx⟩ : ∃ x, P[j]? = some x := ⟨_, List.getElem?_eq_getElem hlt⟩
        have HX := Lib.hid hx
        have hT6 := T6.out.keep hTu.b
        obtain ⟨b, o, pa, pc, rfl, hx1⟩ := hT6.n.2.2 j x hx
        have HP0 := Lib.hid (show Prs W pa pc x.p from by
          obtain ⟨b', o', pa', pc', e', hx0⟩ := T6.out.n.2.2 j x hx
          cases e'
          have e1 := hx0.c4
          have e2 := hx1.c4
          have e3 := (hTu.b.cell (World.block_lt_of_cell? W _ e1)).trans e1
          rw [e3] at e2
          simp only [Option.some.injEq, Value.slice.injEq] at e2
          obtain ⟨rfl, -, rfl⟩ := e2
          exact hx0.ps)
        obtain ⟨tm1, tm2, tm3⟩ := tmod_at (show P.length ≤ 460 by omega) hlt hkl
        have hwm : IntKind.i64.wrap ((j : Int) + (k : Int)) = (j : Int) + (k : Int) := IntWalk.i64_in _ (by omega)
        have htm : ((j : Int) + (k : Int)).tmod (P.length : Int) = (((j + k) % P.length : Nat) : Int) := by rw [← tm2]; rfl
        obtain ⟨m, hm⟩ : ∃ m, M[(j + k) % P.length]? = some m := ⟨_, List.getElem?_eq_getElem (by rw [hTu.l]; exact tm3)⟩
        have HM := Lib.hid hm
        have hPne : ¬ P = [] := fun e => by rw [e] at hn0; exact absurd hn0 (by simp)
        have hj0 : (0 : Int) ≤ (j : Int) := by omega
        have hjl : (j : Int) < (P.length : Int) := by omega
        obtain ⟨e0, e1, e2, e3, e4, e5, -⟩ := hx1
        obtain ⟨r, kk, l, bb, p, st⟩ := x
        dsimp only at e0 e1 e2 e3 e4 e5 HP0
        clear tm1 tm2 hx hT6
        cases r
        · have Y := Lib.hid (show Below wr.heap.size wr (wr.alloc (.cells #[.bool false, .int .i64 kk, .int .i64 l, .int .i64 bb, .slice pa p.length pc, .int .i64 st] 51)) from al1 _)
          have hu1 := (hTu.u.keep Y.out).at_ 1 _ rfl
          obtain ⟨g', eg, -, hna, hfz⟩ := (hTu.r.keep Y.out).at hm
          cases eg
          obtain ⟨c0, c1, c2, c3, c4, c5, -⟩ := hna
          have FIN := Lib.hid ((HU.out.next hlt hkl Y.out HX.out (m' := ⟨⟨false, kk, l, bb, p, st⟩, pa, pc⟩) (fixn_lf rfl).symm (only_six _ gq _ _ _ _ _ _ _) (HU.out.six Y.out HM.out HP0.out)).drew)
          generalize hyy : (j + k) % P.length = y at *
          have f0 := hfz (y * 6)
          have f1 := hfz (y * 6 + 1)
          have f2 := hfz (y * 6 + 2)
          have f3 := hfz (y * 6 + 3)
          have f4 := hfz (y * 6 + 4)
          have f5 := hfz (y * 6 + 5)
          have hy0 : (0 : Int) ≤ (y : Int) := by omega
          have hyl : (y : Int) < (P.length : Int) := by omega
          clear hfz hm hTu
          go_upto_region 16 with (fail)
          go_region
          all_goals go_wp2_with (fail)
          all_goals go_roundw
          case rel => exact ⟨j + 1, _, by omega, by go_num, FIN.out⟩
          case measure => simp [intOf]; omega
        · obtain ⟨a, b2, hla, hlb, ha, hb⟩ := route_ab HT.out.2.1.hg j (HT.out.2.1.mem hlt) _ HX.out rfl
          dsimp only at hla hlb
          subst hla; subst hlb
          have hwa : IntKind.i64.wrap ((a : Int) + (k : Int)) = (a : Int) + (k : Int) := IntWalk.i64_in _ (by omega)
          have hwb : IntKind.i64.wrap ((b2 : Int) + (k : Int)) = (b2 : Int) + (k : Int) := IntWalk.i64_in _ (by omega)
          have hta : ((a : Int) + (k : Int)).tmod (P.length : Int) = (((a + k) % P.length : Nat) : Int) := by rw [← (tmod_at (show P.length ≤ 460 by omega) ha hkl).2.1]; rfl
          have htb : ((b2 : Int) + (k : Int)).tmod (P.length : Int) = (((b2 + k) % P.length : Nat) : Int) := by rw [← (tmod_at (show P.length ≤ 460 by omega) hb hkl).2.1]; rfl
          have Y := Lib.hid (show Below wr.heap.size wr (wr.alloc (.cells #[.bool true, .int .i64 kk, .int .i64 (((a + k) % P.length : Nat) : Int), .int .i64 (((b2 + k) % P.length : Nat) : Int), .slice pa p.length pc, .int .i64 st] 51)) from al1 _)
          have hu1 := (hTu.u.keep Y.out).at_ 1 _ rfl
          obtain ⟨g', eg, -, hna, hfz⟩ := (hTu.r.keep Y.out).at hm
          cases eg
          obtain ⟨c0, c1, c2, c3, c4, c5, -⟩ := hna
          have FIN := Lib.hid ((HU.out.next hlt hkl Y.out HX.out (m' := ⟨⟨true, kk, (((a + k) % P.length : Nat) : Int), (((b2 + k) % P.length : Nat) : Int), p, st⟩, pa, pc⟩) (by rw [fixn_rt rfl]; simp) (only_six _ gq _ _ _ _ _ _ _) (HU.out.six Y.out HM.out HP0.out)).drew)
          generalize hyy : (j + k) % P.length = y at *
          generalize (a + k) % P.length = ya at *
          generalize (b2 + k) % P.length = yb at *
          have f0 := hfz (y * 6)
          have f1 := hfz (y * 6 + 1)
          have f2 := hfz (y * 6 + 2)
          have f3 := hfz (y * 6 + 3)
          have f4 := hfz (y * 6 + 4)
          have f5 := hfz (y * 6 + 5)
          have hy0 : (0 : Int) ≤ (y : Int) := by omega
          have hyl : (y : Int) < (P.length : Int) := by omega
          clear hfz hm hTu
          go_upto_region 15 with (fail)
          go_region
          all_goals go_upto_region 16 with (fail)
          all_goals go_region
          all_goals go_wp2_with (fail)
          all_goals go_roundw
          case rel => exact ⟨j + 1, _, by omega, by go_num, FIN.out.drew⟩
          case measure => simp [intOf]; omega
      · obtain rfl : j = P.length := by omega
        have hUl : (M.map (fun m => m.n)).length = P.length := by simp [hTu.l]
        obtain ⟨s3, hT3, hY3, hA3⟩ := turned_tr (U := M.map (fun m => m.n)) HT.out.2.1 hkl hUl (fun i x hx => by
          obtain ⟨m, h1, h2⟩ := hTu.d i x (List.getElem?_eq_some_iff.1 hx).1 hx
          rw [List.getElem?_map, h1, ← h2]; rfl)
        have hNU := hTu.r.ns.2
        have hTT := T6.out.keep hTu.b
        obtain ⟨U, hU⟩ : ∃ U, M.map (fun m => m.n) = U := ⟨_, rfl⟩
        rw [hU] at hNU hT3 hY3 hA3 hUl
        rw [HT.out.2.2.1] at hY3
        rw [HT.out.2.2.2] at hA3
        have hu0 := hTu.u.at_ 0 _ rfl
        have hu1 := hTu.u.at_ 1 _ rfl
        have HU3 := Lib.hid (And.intro hTu.u (And.intro hNU (And.intro hT3 (And.intro hY3 hA3))))
        have HUl := Lib.hid hUl
        have HTT := Lib.hid hTT
        clear hTu hNU hT3 hY3 hA3 hUl hTT
        have hsU : Small U := small_of_lay HU3.out.2.2.1 (by rw [HU3.out.2.2.2.1]; exact HSM.out.2)
        have cpu := fun W (h : Ns W (some ⟨gq, 0, none⟩) P.length U) => tplain_yes k (some ⟨gq, 0, none⟩) P.length U W h hsU s3 HU3.out.2.2.1
        unfold PlIs at cpu
        rw [HU3.out.2.2.2.1] at cpu
        unfold trv at cpu
        rw [HUl.out] at cpu
        have HSU := Lib.hid hsU
        clear hsU
        go_upto_region 19 with (go_at_call 11; ((with_reducible refine (cpu _ HU3.out.2.1).mono ?_); clear cpu; rintro e W8 ⟨a8, c8, rfl, hn8, hb8⟩; have H8 := Lib.hid (And.intro hn8 hb8); clear hn8 hb8))
        have A := Lib.hid (show Q4 w t0 a0 cap0 N0 q5 ao cpp P q9 gq k U W8.heap.size a8 c8 (W8.alloc (.cells #[.int .i64 0, .slice a8 P.length c8] 24)) from
          ⟨HTT.out.keep (bel1 H8.out.2 _), HN.out.keep (bel2 HTT.out.b (bel1 H8.out.2 _)), HU3.out.1.keep (bel1 H8.out.2 _), HU3.out.2.1.keep (bel1 H8.out.2 _), Bk.new W8 #[.int .i64 0, .slice a8 P.length c8] 24, H8.out.1.keep (al1 _)⟩)
        have hPU : PlO U (k : Int) true P := .inl ⟨s3, HU3.out.2.2.1, rfl, HU3.out.2.2.2.1.symm⟩
        have c1 := fun W (h : Q4 w t0 a0 cap0 N0 q5 ao cpp P q9 gq k U W8.heap.size a8 c8 W) => sraw_any 0 0 ao a8 cpp c8 P P W h.tp.n h.nq (Nat.le_trans HSM.out.2.1 (by decide)) (Nat.le_trans HSM.out.2.1 (by decide)) true ⟨fun _ => ⟨rfl, rfl⟩, fun _ => rfl⟩
        have c2 := fun W (h : Q4 w t0 a0 cap0 N0 q5 ao cpp P q9 gq k U W8.heap.size a8 c8 W) => tsame_any t0 k a0 (some ⟨gq, 0, none⟩) cap0 P.length N0 U W h.n0 h.nu HSM.out.1 HSU.out true true P P HP.out hPU true ⟨fun _ => ⟨rfl, rfl, rfl⟩, fun _ => rfl⟩
        have c3 := fun W (h : Q4 w t0 a0 cap0 N0 q5 ao cpp P q9 gq k U W8.heap.size a8 c8 W) => tall_gen t0 a0 cap0 N0 W h.n0 HSM.out.1 s.lvs (lvO_lt (.inl ⟨s, HT.out.1, rfl⟩)) (fun W h => tleaves_yes t0 a0 cap0 N0 W h HSM.out.1 s HT.out.1)
        have c4 := fun W (h : Q4 w t0 a0 cap0 N0 q5 ao cpp P q9 gq k U W8.heap.size a8 c8 W) => tall_gen k (some ⟨gq, 0, none⟩) P.length U W h.nu HSU.out s3.lvs (lvO_lt (.inl ⟨s3, HU3.out.2.2.1, rfl⟩)) (fun W h => tleaves_yes k (some ⟨gq, 0, none⟩) P.length U W h HSU.out s3 HU3.out.2.2.1)
        rw [HU3.out.2.2.2.2] at c4
        obtain ⟨L, hL⟩ : ∃ L, allP N0 s.lvs = L := ⟨_, rfl⟩
        rw [hL] at c3 c4
        have c5 := fun W (aA aB : Option Addr) (cA cB : Nat) (h : Prs W aA cA L) (h2 : Prs W aB cB L) => samep_any aA aB cA cB L L W h h2 true (by simp)
        obtain ⟨q12, hq12⟩ : ∃ q, W8.heap.size = q := ⟨_, rfl⟩
        rw [hq12] at A c1 c2 c3 c4
        have hq12' := Lib.hid hq12
        rw [hq12'.out]
        clear hq12 hq12' H8 hL hPU
        unfold trv at c1 c2 c3 c4
        rw [HUl.out] at c2 c4
        unfold RowIs at c3 c4
        clear HTT HN HU3 HUl HSU HSM HP HT hn0 hn1 hk hkl hum hu0 hu1
        generalize (World.alloc W8 _ : World) = W9 at *
        --REG19
        refine wp_region_held_drew (S := (fun W => W.cell? ⟨w.heap.size, 0, none⟩ = some (.int .i64 t0) ∧ W.cell? ⟨w.heap.size, 1, none⟩ = some (.slice a0 N0.length cap0) ∧ W.cell? ⟨q5, 0, none⟩ = some (.int .i64 0) ∧ W.cell? ⟨q5, 1, none⟩ = some (.slice ao P.length cpp) ∧ W.cell? ⟨q9, 0, none⟩ = some (.int .i64 k) ∧ W.cell? ⟨q9, 1, none⟩ = some (.slice (some ⟨gq, 0, none⟩) P.length P.length) ∧ W.cell? ⟨q12, 0, none⟩ = some (.int .i64 0) ∧ W.cell? ⟨q12, 1, none⟩ = some (.slice a8 P.length c8) ∧ Q4 w t0 a0 cap0 N0 q5 ao cpp P q9 gq k U q12 a8 c8 W)) (by kernel_rfl) (by first | exact q4_conj A.out | exact q4_conj A.out.drew) (fun hHeld => ?_)
        refine wpAnyH_take (i := 0) (v := ?_) rfl (by kernel_rfl) (by kernel_rfl) (by kernel_rfl) (fun _ _ _ h => h) (Or.inl ⟨by rfl, ?_⟩) hHeld ?_
        rotate_left
        · (intro wS hSw; (try dsimp only at hSw); (try go_split_ands); go_simp; try with_reducible rfl)
        try simp only [List.getElem_toArray, List.getElem_cons_succ, List.getElem_cons_zero, Act.put, List.setIfInBounds_toArray, List.set_cons_zero, List.set_cons_succ]
        refine wpAnyH_take (i := 1) (v := ?_) rfl (by kernel_rfl) (by kernel_rfl) (by kernel_rfl) (fun _ _ _ h => h) (Or.inl ⟨by rfl, ?_⟩) hHeld ?_
        rotate_left
        · (intro wS hSw; (try dsimp only at hSw); (try go_split_ands); go_simp; try with_reducible rfl)
        try simp only [List.getElem_toArray, List.getElem_cons_succ, List.getElem_cons_zero, Act.put, List.setIfInBounds_toArray, List.set_cons_zero, List.set_cons_succ]
        refine wpAnyH_take (i := 2) (v := ?_) rfl (by kernel_rfl) (by kernel_rfl) (by kernel_rfl) (fun _ _ _ h => h) (Or.inl ⟨by rfl, ?_⟩) hHeld ?_
        rotate_left
        · (intro wS hSw; (try dsimp only at hSw); (try go_split_ands); go_simp; try with_reducible rfl)
        try simp only [List.getElem_toArray, List.getElem_cons_succ, List.getElem_cons_zero, Act.put, List.setIfInBounds_toArray, List.set_cons_zero, List.set_cons_succ]
        refine wpAnyH_take (i := 3) (v := ?_) rfl (by kernel_rfl) (by kernel_rfl) (by kernel_rfl) (fun _ _ _ h => h) (Or.inl ⟨by rfl, ?_⟩) hHeld ?_
        rotate_left
        · (intro wS hSw; (try dsimp only at hSw); (try go_split_ands); go_simp; try with_reducible rfl)
        try simp only [List.getElem_toArray, List.getElem_cons_succ, List.getElem_cons_zero, Act.put, List.setIfInBounds_toArray, List.set_cons_zero, List.set_cons_succ]
        refine wpAnyH_ready (rs := [4]) (by kernel_rfl) (by simp) ?_
        refine AllReadyH.cons rfl (fun K hK => ?_) AllReadyH.nil
        go_simp
        (go_at_call 15; ((with_reducible refine (c1 _ hHeld.2.2.2.2.2.2.2.2).mono ?_); rintro e X ⟨rfl, hX⟩))
        refine hK.out _ _ ?_ (fun hNext => ?_)
        · exact q4_conj (hHeld.2.2.2.2.2.2.2.2.keep hX)
        clear hK K hHeld
        have hHeld := hNext
        clear hNext
        try simp only [List.getElem_toArray, List.getElem_cons_succ, List.getElem_cons_zero, Act.put, List.setIfInBounds_toArray, List.set_cons_zero, List.set_cons_succ]
        refine wpAnyH_take (i := 5) (v := ?_) rfl (by kernel_rfl) (by kernel_rfl) (by kernel_rfl) (fun _ _ _ h => h) (Or.inl ⟨by rfl, ?_⟩) hHeld ?_
        rotate_left
        · (intro wS hSw; (try dsimp only at hSw); (try go_split_ands); go_simp; try with_reducible rfl)
        try simp only [List.getElem_toArray, List.getElem_cons_succ, List.getElem_cons_zero, Act.put, List.setIfInBounds_toArray, List.set_cons_zero, List.set_cons_succ]
        refine wpAnyH_take (i := 6) (v := ?_) rfl (by kernel_rfl) (by kernel_rfl) (by kernel_rfl) (fun _ _ _ h => h) (Or.inl ⟨by rfl, ?_⟩) hHeld ?_
        rotate_left
        · (intro wS hSw; (try dsimp only at hSw); (try go_split_ands); go_simp; try with_reducible rfl)
        try simp only [List.getElem_toArray, List.getElem_cons_succ, List.getElem_cons_zero, Act.put, List.setIfInBounds_toArray, List.set_cons_zero, List.set_cons_succ]
        refine wpAnyH_take (i := 7) (v := ?_) rfl (by kernel_rfl) (by kernel_rfl) (by kernel_rfl) (fun _ _ _ h => h) (Or.inl ⟨by rfl, ?_⟩) hHeld ?_
        rotate_left
        · (intro wS hSw; (try dsimp only at hSw); (try go_split_ands); go_simp; try with_reducible rfl)
        try simp only [List.getElem_toArray, List.getElem_cons_succ, List.getElem_cons_zero, Act.put, List.setIfInBounds_toArray, List.set_cons_zero, List.set_cons_succ]
        refine wpAnyH_take (i := 8) (v := ?_) rfl (by kernel_rfl) (by kernel_rfl) (by kernel_rfl) (fun _ _ _ h => h) (Or.inl ⟨by rfl, ?_⟩) hHeld ?_
        rotate_left
        · (intro wS hSw; (try dsimp only at hSw); (try go_split_ands); go_simp; try with_reducible rfl)
        try simp only [List.getElem_toArray, List.getElem_cons_succ, List.getElem_cons_zero, Act.put, List.setIfInBounds_toArray, List.set_cons_zero, List.set_cons_succ]
        refine wpAnyH_ready (rs := [9]) (by kernel_rfl) (by simp) ?_
        refine AllReadyH.cons rfl (fun K hK => ?_) AllReadyH.nil
        go_simp
        (go_at_call 17; ((with_reducible refine (c2 _ hHeld.2.2.2.2.2.2.2.2).mono ?_); rintro e X ⟨rfl, hX⟩))
        refine hK.out _ _ ?_ (fun hNext => ?_)
        · exact q4_conj (hHeld.2.2.2.2.2.2.2.2.keep hX)
        clear hK K hHeld
        have hHeld := hNext
        clear hNext
        try simp only [List.getElem_toArray, List.getElem_cons_succ, List.getElem_cons_zero, Act.put, List.setIfInBounds_toArray, List.set_cons_zero, List.set_cons_succ]
        refine wpAnyH_take (i := 10) (v := ?_) rfl (by kernel_rfl) (by kernel_rfl) (by kernel_rfl) (fun _ _ _ h => h) (Or.inl ⟨by rfl, ?_⟩) hHeld ?_
        rotate_left
        · (intro wS hSw; (try dsimp only at hSw); (try go_split_ands); go_simp; try with_reducible rfl)
        try simp only [List.getElem_toArray, List.getElem_cons_succ, List.getElem_cons_zero, Act.put, List.setIfInBounds_toArray, List.set_cons_zero, List.set_cons_succ]
        refine wpAnyH_take (i := 11) (v := ?_) rfl (by kernel_rfl) (by kernel_rfl) (by kernel_rfl) (fun _ _ _ h => h) (Or.inl ⟨by rfl, ?_⟩) hHeld ?_
        rotate_left
        · (intro wS hSw; (try dsimp only at hSw); (try go_split_ands); go_simp; try with_reducible rfl)
        try simp only [List.getElem_toArray, List.getElem_cons_succ, List.getElem_cons_zero, Act.put, List.setIfInBounds_toArray, List.set_cons_zero, List.set_cons_succ]
        refine wpAnyH_take (i := 12) (v := ?_) rfl (by kernel_rfl) (by kernel_rfl) (by kernel_rfl) (fun _ _ _ h => h) (Or.inl ⟨by rfl, ?_⟩) hHeld ?_
        rotate_left
        · (intro wS hSw; (try dsimp only at hSw); (try go_split_ands); go_simp; try with_reducible rfl)
        try simp only [List.getElem_toArray, List.getElem_cons_succ, List.getElem_cons_zero, Act.put, List.setIfInBounds_toArray, List.set_cons_zero, List.set_cons_succ]
        refine wpAnyH_take (i := 14) (v := ?_) rfl (by kernel_rfl) (by kernel_rfl) (by kernel_rfl) (fun _ _ _ h => h) (Or.inl ⟨by rfl, ?_⟩) hHeld ?_
        rotate_left
        · (intro wS hSw; (try dsimp only at hSw); (try go_split_ands); go_simp; try with_reducible rfl)
        try simp only [List.getElem_toArray, List.getElem_cons_succ, List.getElem_cons_zero, Act.put, List.setIfInBounds_toArray, List.set_cons_zero, List.set_cons_succ]
        refine wpAnyH_ready (rs := [13]) (by kernel_rfl) (by simp) ?_
        refine AllReadyH.cons rfl (fun K hK => ?_) AllReadyH.nil
        go_simp
        (go_at_call 23; ((with_reducible refine (c3 _ hHeld.2.2.2.2.2.2.2.2).mono ?_); rintro e X ⟨aA, cA, rfl, hRA, hX⟩))
        refine hK.out _ _ ?_ (fun hNext => ?_)
        · exact q4_conj (hHeld.2.2.2.2.2.2.2.2.keep hX)
        have RA := Lib.hid (hRA.prs rfl)
        clear hRA
        clear hK K hHeld hX
        have hHeld := hNext
        clear hNext
        try simp only [List.getElem_toArray, List.getElem_cons_succ, List.getElem_cons_zero, Act.put, List.setIfInBounds_toArray, List.set_cons_zero, List.set_cons_succ]
        refine wpAnyH_ready (rs := [15]) (by kernel_rfl) (by simp) ?_
        refine AllReadyH.cons rfl (fun K hK => ?_) AllReadyH.nil
        go_simp
        (go_at_call 23; ((with_reducible refine (c4 _ hHeld.2.2.2.2.2.2.2.2).mono ?_); rintro e X ⟨aB, cB, rfl, hRB, hX⟩))
        refine hK.out _ _ ?_ (fun hNext => ?_)
        · exact q4_conj (hHeld.2.2.2.2.2.2.2.2.keep hX)
        have RB := Lib.hid (hRB.prs rfl)
        replace RA := Lib.hid (RA.out.below hX)
        clear hRB
        clear hK K hHeld hX
        have hHeld := hNext
        clear hNext
        try simp only [List.getElem_toArray, List.getElem_cons_succ, List.getElem_cons_zero, Act.put, List.setIfInBounds_toArray, List.set_cons_zero, List.set_cons_succ]
        refine wpAnyH_ready (rs := [16]) (by kernel_rfl) (by simp) ?_
        refine AllReadyH.cons rfl (fun K hK => ?_) AllReadyH.nil
        go_simp
        (go_at_call 22; ((with_reducible refine (c5 _ _ _ _ _ RA.out RB.out).mono ?_); rintro e X ⟨rfl, hX⟩))
        refine hK.out _ _ ?_ (fun hNext => ?_)
        · exact q4_conj (hHeld.2.2.2.2.2.2.2.2.keep hX)
        clear hK K hHeld
        have hHeld := hNext
        clear hNext
        try simp only [List.getElem_toArray, List.getElem_cons_succ, List.getElem_cons_zero, Act.put, List.setIfInBounds_toArray, List.set_cons_zero, List.set_cons_succ]
        refine wpAnyH_take (i := 17) (v := ?_) rfl (by kernel_rfl) (by kernel_rfl) (by kernel_rfl) (fun _ _ _ h => h) (Or.inl ⟨by rfl, ?_⟩) hHeld ?_
        rotate_left
        · (intro wS hSw; (try dsimp only at hSw); (try go_split_ands); go_simp; try with_reducible rfl)
        try simp only [List.getElem_toArray, List.getElem_cons_succ, List.getElem_cons_zero, Act.put, List.setIfInBounds_toArray, List.set_cons_zero, List.set_cons_succ]
        refine wpAnyH_take (i := 18) (v := ?_) rfl (by kernel_rfl) (by kernel_rfl) (by kernel_rfl) (fun _ _ _ h => h) (Or.inl ⟨by rfl, ?_⟩) hHeld ?_
        rotate_left
        · (intro wS hSw; (try dsimp only at hSw); (try go_split_ands); go_simp; try with_reducible rfl)
        try simp only [List.getElem_toArray, List.getElem_cons_succ, List.getElem_cons_zero, Act.put, List.setIfInBounds_toArray, List.set_cons_zero, List.set_cons_succ]
        refine wpAnyH_take (i := 19) (v := ?_) rfl (by kernel_rfl) (by kernel_rfl) (by kernel_rfl) (fun _ _ _ h => h) (Or.inl ⟨by rfl, ?_⟩) hHeld ?_
        rotate_left
        · (intro wS hSw; (try dsimp only at hSw); (try go_split_ands); go_simp; try with_reducible rfl)
        try simp only [List.getElem_toArray, List.getElem_cons_succ, List.getElem_cons_zero, Act.put, List.setIfInBounds_toArray, List.set_cons_zero, List.set_cons_succ]
        refine wpAnyH_take (i := 20) (v := ?_) rfl (by kernel_rfl) (by kernel_rfl) (by kernel_rfl) (fun _ _ _ h => h) (Or.inl ⟨by rfl, ?_⟩) hHeld ?_
        rotate_left
        · (intro wS hSw; (try dsimp only at hSw); (try go_split_ands); go_simp; try with_reducible rfl)
        try simp only [List.getElem_toArray, List.getElem_cons_succ, List.getElem_cons_zero, Act.put, List.setIfInBounds_toArray, List.set_cons_zero, List.set_cons_succ]
        refine wpAnyH_take (i := 21) (v := ?_) rfl (by kernel_rfl) (by kernel_rfl) (by kernel_rfl) (fun _ _ _ h => h) (Or.inl ⟨by rfl, ?_⟩) hHeld ?_
        rotate_left
        · (intro wS hSw; (try dsimp only at hSw); (try go_split_ands); go_simp; try with_reducible rfl)
        try simp only [List.getElem_toArray, List.getElem_cons_succ, List.getElem_cons_zero, Act.put, List.setIfInBounds_toArray, List.set_cons_zero, List.set_cons_succ]
        refine wpAnyH_take (i := 22) (v := ?_) rfl (by kernel_rfl) (by kernel_rfl) (by kernel_rfl) (fun _ _ _ h => h) (Or.inl ⟨by rfl, ?_⟩) hHeld ?_
        rotate_left
        · (intro wS hSw; (try dsimp only at hSw); (try go_split_ands); go_simp; try with_reducible rfl)
        try simp only [List.getElem_toArray, List.getElem_cons_succ, List.getElem_cons_zero, Act.put, List.setIfInBounds_toArray, List.set_cons_zero, List.set_cons_succ]
        refine wpAnyH_take (i := 23) (v := ?_) rfl (by kernel_rfl) (by kernel_rfl) (by kernel_rfl) (fun _ _ _ h => h) (Or.inl ⟨by rfl, ?_⟩) hHeld ?_
        rotate_left
        · (intro wS hSw; (try dsimp only at hSw); (try go_split_ands); go_simp; try with_reducible rfl)
        try simp only [List.getElem_toArray, List.getElem_cons_succ, List.getElem_cons_zero, Act.put, List.setIfInBounds_toArray, List.set_cons_zero, List.set_cons_succ]
        refine wpAnyH_ready (rs := [24]) (by kernel_rfl) (by simp) ?_
        refine AllReadyH.cons rfl (fun K hK => ?_) AllReadyH.nil
        go_simp
        (go_at_call 10; ((with_reducible refine (caw _).mono ?_); rintro e X ⟨rfl, hX⟩))
        refine hK.out _ _ ?_ (fun hNext => ?_)
        · exact q4_conj (hHeld.2.2.2.2.2.2.2.2.keep hX)
        clear hK K hHeld
        have hHeld := hNext
        clear hNext
        try simp only [List.getElem_toArray, List.getElem_cons_succ, List.getElem_cons_zero, Act.put, List.setIfInBounds_toArray, List.set_cons_zero, List.set_cons_succ]
        refine wpAnyH_take (i := 25) (v := ?_) rfl (by kernel_rfl) (by kernel_rfl) (by kernel_rfl) (fun _ _ _ h => h) (Or.inl ⟨by rfl, ?_⟩) hHeld ?_
        rotate_left
        · (intro wS hSw; (try dsimp only at hSw); (try go_split_ands); go_simp; try with_reducible rfl)
        try simp only [List.getElem_toArray, List.getElem_cons_succ, List.getElem_cons_zero, Act.put, List.setIfInBounds_toArray, List.set_cons_zero, List.set_cons_succ]
        refine wpAnyH_take (i := 26) (v := ?_) rfl (by kernel_rfl) (by kernel_rfl) (by kernel_rfl) (fun _ _ _ h => h) (Or.inl ⟨by rfl, ?_⟩) hHeld ?_
        rotate_left
        · (intro wS hSw; (try dsimp only at hSw); (try go_split_ands); go_simp; try with_reducible rfl)
        try simp only [List.getElem_toArray, List.getElem_cons_succ, List.getElem_cons_zero, Act.put, List.setIfInBounds_toArray, List.set_cons_zero, List.set_cons_succ]
        refine wpAnyH_done (by kernel_rfl) ?_ _
        go_wp2_with (fail)
        go_ret
        exact ⟨rfl, hHeld.2.2.2.2.2.2.2.2.tp.b⟩

theorem walk (t0 : Int) (a0 : Option Addr) (cap0 : Nat) (N0 : List Nd) (a1 : Int) (w : World) (w0 : Ns w a0 cap0 N0) (s0 : Mid N0) (w1 : (Lit.int .i64 a1).wf = true) :
    Calls Try.prog 5 #[.agg #[.int .i64 t0, .slice a0 N0.length cap0], .int .i64 a1] w fun e w' => e = .returned (.bool true) ∧ Below w.heap.size w w' := by
  by_cases hL : Lgt N0
  · rcases Classical.em (∃ s, Tr N0 s t0) with ⟨s, hs⟩ | hs
    · exact walk_yes t0 a0 cap0 N0 w w0 s0 a1 hL s hs
    · exact walk_no t0 a0 cap0 N0 w w0 s0 a1 hL (fun s h => hs ⟨s, h⟩)
  · exact walk_big t0 a0 cap0 N0 w w0 s0 a1 hL

set_option maxRecDepth 100000 in
theorem lifted (os : Os) (started : os.Started) (H : Type) (enc : TypeId × Value → H) :
    ReturnsInHanded {} Try.checked os 5 .any (Rows.treePlainSpec.pre6 enc Try.prog Try.f5 Rows.treePlainRow.domain false) (Rows.treePlainSpec.post enc Try.prog Try.f5 false true false false) := by
  refine returnsInHanded_of_change_sized (C := Try.checked) own started (by kernel_rfl) Try.func5
    (ChangeSpec.witness6 (enc := enc) (C := Try.checked) false ⟨#[], #[.agg #[.int .i64 0, .slice none 0 0], .int .i64 0], []⟩ 8 (by kernel_rfl) (by kernel_rfl) (by kernel_rfl) (by kernel_rfl)) ?_
  intro W base args ds gs before hval0 hW hcnd hsz _
  have hval : ∀ (j : Nat) t v, Try.f5.params[j]? = some t → args[j]? = some v → Value.okWide Try.prog W .any base t v := hval0
  have hW' := hW
  obtain ⟨p, q, hA0, hV, rfl, hfz, hnd⟩ := hW
  have hA : DataW.TrodAll enc Try.prog W 0 (fun _ => true) true Try.f5.params.toList args.toList ds p := hA0
  rw [Try.params5] at hA hval
  obtain ⟨v0, vs0, d0, ds0, p0, q0, hargs, rfl, rfl, h0, r0⟩ := trodAll_cons hA
  obtain ⟨v1, vs1, d1, ds1, p1, q1, rfl, rfl, rfl, h1, r1⟩ := trodAll_cons r0
  obtain ⟨rfl, rfl, rfl⟩ := trodAll_nil r1
  obtain rfl : args = #[v0, v1] := by cases args; simp_all
  obtain ⟨rfl, rfl⟩ := trodVars_none hV
  have k0 := h0
  have lt0 : ∀ x ∈ p0, x.block < W.heap.size := by obtain ⟨m, hm⟩ := k0; exact DataW.trod_lt m _ _ _ hm
  obtain ⟨u0, rfl, _⟩ := okWide_struct Try.underlying24 (hval 0 24 v0 rfl rfl)
  obtain ⟨t0_, a0, cap0, N0, e0, w0, s0⟩ := fields_tree (enc := enc) (w := W) (cs := u0.toList) (fuel := h0.choose) (by simpa [Value.cells] using h0.choose_spec) (fun n hn => by simpa using List.all_eq_true.1 hsz n (DataW.weights_mem_each (j := 0) rfl rfl n hn))
  obtain rfl : u0 = #[.int .i64 t0_, .slice a0 N0.length cap0] := by cases u0; simp_all
  have k1 := h1
  have lt1 : ∀ x ∈ p1, x.block < W.heap.size := by obtain ⟨m, hm⟩ := k1; exact DataW.trod_lt m _ _ _ hm
  obtain ⟨a1, rfl, rfl, rfl, w1⟩ := open_int Try.underlying3 (hval 1 3 v1 rfl rfl) h1
  clear hA0 hval0
  refine (walk t0_ a0 cap0 N0 a1 W w0 s0 w1).mono fun e W' ⟨he, bel⟩ => ?_
  subst he
  exact ⟨_, rfl, _, _, _, [], _, [], hW', trodAll_mk1 (shut_bool Try.underlying4 _), (trodAll_cons_mk (Below.trod laidOut (by kernel_rfl) (of_decide_eq_true (by kernel_rfl)) k0 bel lt0) (trodAll_cons_mk (Below.trod laidOut (by kernel_rfl) (of_decide_eq_true (by kernel_rfl)) k1 bel lt1) trodAll_mk0)), rfl, bel.frame _, fun h => by cases h⟩

theorem over : Rows.treePlainRow.holds Try.pinned (OpenSpec.ofChange Rows.treePlainSpec) :=
  OpenClaim.holds_of_wide 5 Try.f5 rfl rfl rfl rfl rfl rfl rfl ⟨rfl, rfl, rfl, rfl, rfl⟩ rfl rfl rfl rfl rfl (by kernel_rfl) Try.func5 (by kernel_rfl)
    (of_decide_eq_true (by kernel_rfl)) (by unfold Func.isWrapper; first | (rw [if_pos (by decide +kernel)]; kernel_rfl) | (rw [if_neg (by decide +kernel)]; exact ⟨rfl, rfl⟩))
    (fun os started H enc _ => lifted os started H enc)

theorem treePlainHolds : Rows.TreePlainSaid := over
#print axioms treePlainHolds
end Go.Proofs.Ytlpjbgojijkdjaa.treePlain
