/- osierref18.MayPast exactly. No condition: lemmas. -/
import Derived.Test.YtijepfabkalcoaaPaB
import Derived.Deep.RegionHeld3
import Derived.Deep.CutRange
import Derived.Deep.CutBlock
import Derived.Deep.RegionLaw
namespace Go.Proofs.Ytijepfabkalcoaa
open Go.RowKit
set_option linter.all false
set_option maxRecDepth 20000


/-- The loop of osierref18.MayPast. -/
structure RM (w0 : World) (N : List EvD) (n : Nat) (s : Mt) (W : World) : Prop where
  m : mtc N n = some s
  on : ∀ t : Nat, t < 6 → W.cell? ⟨w0.heap.size, t, none⟩ = some (.bool (decide (0 < s.x (t : Int))))
  f1 : ∀ j, W.frozen? ⟨w0.heap.size, j, none⟩ = false
  ops : ∀ t : Nat, t < 6 → ∃ o : OpD, W.cell? ⟨w0.heap.size + 1, t * 4, none⟩ = some (.int .i64 o.c) ∧ W.cell? ⟨w0.heap.size + 1, t * 4 + 1, none⟩ = some (.int .i64 o.k) ∧ W.cell? ⟨w0.heap.size + 1, t * 4 + 2, none⟩ = some (.int .i64 o.h) ∧ W.cell? ⟨w0.heap.size + 1, t * 4 + 3, none⟩ = some (.int .i64 o.v) ∧ (0 < s.x (t : Int) → o = (s.c (s.x (t : Int))).o)
  f2 : ∀ j, W.frozen? ⟨w0.heap.size + 1, j, none⟩ = false
  lt : w0.heap.size + 1 < W.heap.size
  be : Below w0.heap.size w0 W
theorem RM.keep {w0 W W' : World} {N : List EvD} {n : Nat} {s : Mt} (h : RM w0 N n s W) (hb : Below W.heap.size W W') : RM w0 N n s W' :=
  ⟨h.m, fun t ht => pkc hb (h.on t ht), fun j => (hb.frozen (p := ⟨w0.heap.size, j, none⟩) (by have := h.lt; show w0.heap.size < _; omega)).trans (h.f1 j), fun t ht => by
    obtain ⟨o, a, b, c, d, e⟩ := h.ops t ht
    exact ⟨o, pkc hb a, pkc hb b, pkc hb c, pkc hb d, e⟩, fun j => (hb.frozen (p := ⟨w0.heap.size + 1, j, none⟩) (by have := h.lt; show w0.heap.size + 1 < _; omega)).trans (h.f2 j), Nat.lt_of_lt_of_le h.lt hb.size, pb2 h.be hb⟩
/-- The five cells that a round writes. -/
def W5 (W : World) (g t : Nat) (b : Bool) (o : OpD) : World :=
  ((((W.setCell ⟨g, t, none⟩ (.bool b)).setCell ⟨g + 1, t * 4, none⟩ (.int .i64 o.c)).setCell ⟨g + 1, t * 4 + 1, none⟩ (.int .i64 o.k)).setCell ⟨g + 1, t * 4 + 2, none⟩ (.int .i64 o.h)).setCell ⟨g + 1, t * 4 + 3, none⟩ (.int .i64 o.v)
theorem RM.put {w0 W : World} {N : List EvD} {n : Nat} {s s' : Mt} (h : RM w0 N n s W) (t : Nat) (ht : t < 6) (b : Bool) (o : OpD) (hm : mtc N (n + 1) = some s')
    (hx : ∀ u : Nat, u < 6 → u ≠ t → s'.x (u : Int) = s.x (u : Int) ∧ (0 < s.x (u : Int) → s'.c (s.x (u : Int)) = s.c (s.x (u : Int)))) (hb : b = decide (0 < s'.x (t : Int))) (ho : 0 < s'.x (t : Int) → o = (s'.c (s'.x (t : Int))).o) :
    RM w0 N (n + 1) s' (W5 W w0.heap.size t b o) := by
  have one : ∀ {W2 : World} (g j : Nat) (u : Value), Below w0.heap.size w0 W2 → w0.heap.size ≤ g → Below w0.heap.size w0 (W2.setCell ⟨g, j, none⟩ u) := fun g j u hb hg => Below.setCell hb hg _
  have ne : ∀ {W2 : World} {b j b' k : Nat} {u v : Value}, W2.cell? ⟨b, j, none⟩ = some v → (b' ≠ b ∨ k ≠ j) → (W2.setCell ⟨b', k, none⟩ u).cell? ⟨b, j, none⟩ = some v := fun h hne => psetO h hne
  refine ⟨hm, fun u hu => ?_, fun j => by unfold W5; simp only [World.frozen?_setCell]; exact h.f1 j, fun u hu => ?_, fun j => by unfold W5; simp only [World.frozen?_setCell]; exact h.f2 j, by have := h.lt; unfold W5; simpa [World.setCell] using this, ?_⟩
  · unfold W5
    have h0 := h.on u hu
    refine ne (ne (ne (ne ?_ (.inl (by omega))) (.inl (by omega))) (.inl (by omega))) (.inl (by omega))
    by_cases e : t = u
    · subst e; rw [← hb]; exact psetS h0
    · rw [(hx u hu (fun x => e x.symm)).1]; exact ne h0 (.inr e)
  · unfold W5
    obtain ⟨o', c0, c1, c2, c3, c4⟩ := h.ops u hu
    have d0 := ne (b' := w0.heap.size) (k := t) (u := .bool b) c0 (.inl (by omega))
    have d1 := ne (b' := w0.heap.size) (k := t) (u := .bool b) c1 (.inl (by omega))
    have d2 := ne (b' := w0.heap.size) (k := t) (u := .bool b) c2 (.inl (by omega))
    have d3 := ne (b' := w0.heap.size) (k := t) (u := .bool b) c3 (.inl (by omega))
    by_cases e : t = u
    · subst e
      refine ⟨o, ne (ne (ne (psetS d0) (.inr (by omega))) (.inr (by omega))) (.inr (by omega)), ne (ne (psetS (ne d1 (.inr (by omega)))) (.inr (by omega))) (.inr (by omega)), ne (psetS (ne (ne d2 (.inr (by omega))) (.inr (by omega)))) (.inr (by omega)), psetS (ne (ne (ne d3 (.inr (by omega))) (.inr (by omega))) (.inr (by omega))), ho⟩
    · obtain ⟨x1, x2⟩ := hx u hu (fun x => e x.symm)
      refine ⟨o', ne (ne (ne (ne d0 (.inr (by omega))) (.inr (by omega))) (.inr (by omega))) (.inr (by omega)), ne (ne (ne (ne d1 (.inr (by omega))) (.inr (by omega))) (.inr (by omega))) (.inr (by omega)), ne (ne (ne (ne d2 (.inr (by omega))) (.inr (by omega))) (.inr (by omega))) (.inr (by omega)), ne (ne (ne (ne d3 (.inr (by omega))) (.inr (by omega))) (.inr (by omega))) (.inr (by omega)), fun h0 => ?_⟩
      rw [x1] at h0 ⊢
      rw [x2 h0]; exact c4 h0
  · unfold W5
    exact one _ _ _ (one _ _ _ (one _ _ _ (one _ _ _ (one _ _ _ h.be (Nat.le_refl _)) (by omega)) (by omega)) (by omega)) (by omega)
theorem okT_nat {u : Nat} (h : u < 6) : okT (u : Int) := by unfold okT; omega
theorem RM.beg {w0 W : World} {N : List EvD} {n : Nat} {s : Mt} (h : RM w0 N n s W) (t : Nat) (ht : t < 6) (e : EvD) (he : e.t = (t : Int)) (hm : mtc N (n + 1) = some (s.beg n e)) : RM w0 N (n + 1) (s.beg n e) (W5 W w0.heap.size t true e.o) := by
  have I := minv N n s h.m
  have hxt : (s.beg n e).x (t : Int) = s.l.length + 1 := by unfold Mt.beg; rw [he]; exact x_set_same I.len (okT_nat ht) _ _
  refine h.put t ht true e.o hm (fun u hu hne => ⟨?_, fun h0 => ?_⟩) (by rw [hxt]; simp) (fun _ => ?_)
  · unfold Mt.beg; rw [he]; exact x_set_other (okT_nat ht) (okT_nat hu) (by omega) _ _
  · rcases I.wt u (okT_nat hu) with ⟨a, _⟩ | ⟨i, c, h1, h2, _⟩
    · omega
    · rw [h1, c_at h2]
      refine c_at ?_
      unfold Mt.beg
      simp only
      rw [List.getElem?_append_left (List.getElem?_eq_some_iff.1 h2).1]; exact h2
  · rw [hxt]
    have : (s.beg n e).c (s.l.length + 1) = ⟨e.t, (n : Int), -1, e.o, zAd⟩ := c_at (by unfold Mt.beg; simp)
    rw [this]
theorem RM.ret {w0 W : World} {N : List EvD} {n : Nat} {s : Mt} (h : RM w0 N n s W) (t : Nat) (ht : t < 6) (e : EvD) (he : e.t = (t : Int)) (h0 : 0 < s.x (t : Int)) (hm : mtc N (n + 1) = some (s.ret n e)) : RM w0 N (n + 1) (s.ret n e) (W5 W w0.heap.size t false e.o) := by
  have I := minv N n s h.m
  have hxt : (s.ret n e).x (t : Int) = 0 := by unfold Mt.ret; rw [he]; exact x_set_same I.len (okT_nat ht) _ _
  refine h.put t ht false e.o hm (fun u hu hne => ⟨?_, fun h1 => ?_⟩) (by rw [hxt]; simp) (fun x => by rw [hxt] at x; omega)
  · unfold Mt.ret; rw [he]; exact x_set_other (okT_nat ht) (okT_nat hu) (by omega) _ _
  · rcases I.wt u (okT_nat hu) with ⟨a, _⟩ | ⟨i, c, h2, h3, h4, _⟩
    · omega
    · rcases I.wt t (okT_nat ht) with ⟨a, _⟩ | ⟨j, d, g2, g3, g4, _⟩
      · omega
      · rw [h2, c_at h3]
        refine c_at ?_
        unfold Mt.ret
        rw [he, g2]
        simp only
        have : ¬ j = i := fun e' => by subst e'; rw [h3] at g3; cases g3; omega
        rw [Nat.add_sub_cancel, List.getElem?_set_ne this]; exact h3

theorem rm_start (w : World) (N : List EvD) : RM w N 0 Mt.z ((w.alloc (.cells #[.bool false, .bool false, .bool false, .bool false, .bool false, .bool false] 100)).alloc (.cells #[.int .i64 0, .int .i64 0, .int .i64 0, .int .i64 0, .int .i64 0, .int .i64 0, .int .i64 0, .int .i64 0, .int .i64 0, .int .i64 0, .int .i64 0, .int .i64 0, .int .i64 0, .int .i64 0, .int .i64 0, .int .i64 0, .int .i64 0, .int .i64 0, .int .i64 0, .int .i64 0, .int .i64 0, .int .i64 0, .int .i64 0, .int .i64 0] 101)) := by
  have h1 := Bq.past (Bq.new w #[.bool false, .bool false, .bool false, .bool false, .bool false, .bool false] 100) (.cells #[.int .i64 0, .int .i64 0, .int .i64 0, .int .i64 0, .int .i64 0, .int .i64 0, .int .i64 0, .int .i64 0, .int .i64 0, .int .i64 0, .int .i64 0, .int .i64 0, .int .i64 0, .int .i64 0, .int .i64 0, .int .i64 0, .int .i64 0, .int .i64 0, .int .i64 0, .int .i64 0, .int .i64 0, .int .i64 0, .int .i64 0, .int .i64 0] 101)
  have h2 := Bq.new (w.alloc (.cells #[.bool false, .bool false, .bool false, .bool false, .bool false, .bool false] 100)) #[.int .i64 0, .int .i64 0, .int .i64 0, .int .i64 0, .int .i64 0, .int .i64 0, .int .i64 0, .int .i64 0, .int .i64 0, .int .i64 0, .int .i64 0, .int .i64 0, .int .i64 0, .int .i64 0, .int .i64 0, .int .i64 0, .int .i64 0, .int .i64 0, .int .i64 0, .int .i64 0, .int .i64 0, .int .i64 0, .int .i64 0, .int .i64 0] 101
  have e : (w.alloc (.cells #[.bool false, .bool false, .bool false, .bool false, .bool false, .bool false] 100)).heap.size = w.heap.size + 1 := by simp
  rw [e] at h2
  refine ⟨rfl, fun t ht => ?_, h1.fr, fun t ht => ⟨zOp, ?_, ?_, ?_, ?_, fun h0 => ?_⟩, h2.fr, h2.lt, pb1 (pal _) _⟩
  · have hx : Mt.z.x (t : Int) = 0 := by
      unfold Mt.x Mt.z; rw [Int.toNat_natCast]
      match t, ht with
      | 0, _ => rfl
      | 1, _ => rfl
      | 2, _ => rfl
      | 3, _ => rfl
      | 4, _ => rfl
      | 5, _ => rfl
    rw [hx]
    exact h1.at_ t _ (by
      match t, ht with
      | 0, _ => rfl
      | 1, _ => rfl
      | 2, _ => rfl
      | 3, _ => rfl
      | 4, _ => rfl
      | 5, _ => rfl)
  · exact h2.at_ (t * 4) _ (by
      match t, ht with
      | 0, _ => rfl
      | 1, _ => rfl
      | 2, _ => rfl
      | 3, _ => rfl
      | 4, _ => rfl
      | 5, _ => rfl)
  · exact h2.at_ (t * 4 + 1) _ (by
      match t, ht with
      | 0, _ => rfl
      | 1, _ => rfl
      | 2, _ => rfl
      | 3, _ => rfl
      | 4, _ => rfl
      | 5, _ => rfl)
  · exact h2.at_ (t * 4 + 2) _ (by
      match t, ht with
      | 0, _ => rfl
      | 1, _ => rfl
      | 2, _ => rfl
      | 3, _ => rfl
      | 4, _ => rfl
      | 5, _ => rfl)
  · exact h2.at_ (t * 4 + 3) _ (by
      match t, ht with
      | 0, _ => rfl
      | 1, _ => rfl
      | 2, _ => rfl
      | 3, _ => rfl
      | 4, _ => rfl
      | 5, _ => rfl)
  · exfalso
    have hx : Mt.z.x (t : Int) = 0 := by
      unfold Mt.x Mt.z; rw [Int.toNat_natCast]
      match t, ht with
      | 0, _ => rfl
      | 1, _ => rfl
      | 2, _ => rfl
      | 3, _ => rfl
      | 4, _ => rfl
      | 5, _ => rfl
    rw [hx] at h0; omega
set_option maxRecDepth 100000 in
set_option maxHeartbeats 12800000 in
theorem rmaypast_any (a : Option Addr) (cap : Nat) (N : List EvD) (w : World) (hN : Es w a cap N) (hl : N.length ≤ 300) :
    Calls Try.prog 22 #[.slice a N.length cap] w fun e w' => e = .returned (.bool (mtch N).isSome) ∧ Below w.heap.size w w' := by
  have HN := Lib.hid hN
  have hc1 := hN.1
  have hc2 := hN.2.1
  unfold maxLen at hc2
  have HR0 := Lib.hid (rm_start w N)
  clear hN
  go_enter Try.func22, Try.ntmps22
  go_wp2_with (fail)
  go_loopw [9] (fun i wr => ∃ (n : Nat) (s : Mt), n ≤ N.length ∧ i = .int .i64 n ∧ RM w N n s wr) (fun i _ => N.length - (intOf i).toNat)
  case atStart => exact ⟨0, Mt.z, Nat.zero_le _, rfl, HR0.out⟩
  case round =>
    obtain ⟨n, s, hn, rfl, hML⟩ := hrel
    by_cases hlt : n < N.length
    rotate_left
    · obtain rfl : n = N.length := by omega
      have HML := Lib.hid hML
      clear hML
      go_wp2_with (fail)
      go_ret
      have e : mtch N = some s := HML.out.m
      exact ⟨by rw [e]; rfl, HML.out.be⟩
    obtain ⟨x, hx⟩ : ∃ x, N[n]? = some x := ⟨_, List.getElem?_eq_getElem hlt⟩
    obtain ⟨b, o, pa, pc, rfl, hx0⟩ := HN.out.2.2 n x hx
    have hx1 := hx0.keep hML.be
    clear hx0
    have hgx : N.getD n zEv = x := by rw [List.getD_eq_getElem?_getD, hx]; rfl
    have hn0 : (0 : Int) ≤ (n : Int) := by omega
    have hnl : (n : Int) < (N.length : Int) := by omega
    obtain ⟨e0, e1, e2, e3, e4, e5, e6, e7, e8, e9, e10, e11⟩ := hx1.ex
    have hps := hx1.ps
    by_cases hT : okT x.t
    rotate_left
    · have hno : mtch N = none := mt_none (by rw [mtc_succ, hML.m]; simp only [Option.bind_some]; unfold stp; rw [hgx, if_neg hT]) hlt
      have HNO := Lib.hid hno
      have HML := Lib.hid hML
      obtain ⟨t, r, ⟨oc, ok, oh, ov⟩, ⟨ae, ao, ak, av, an, ap⟩⟩ := x
      dsimp only at e0 e1 e2 e3 e4 e5 e6 e7 e8 e9 e10 e11 hT
      unfold okT at hT
      clear hx hx1 hgx hps hno hML
      by_cases ht0 : t < 0
      · clear hT
        go_wp2_with (fail)
        go_quiet (fail)
        go_wp2_with (fail)
        go_ret
        exact ⟨by rw [HNO.out]; rfl, below_drewN (pb2 HML.out.be (pal _)) _⟩
      · have ht6 : 6 ≤ t := by omega
        have ht0' : 0 ≤ t := by omega
        have hdd : decide (t < 0) = false := decide_eq_false ht0
        clear hT
        go_wp2_with (fail)
        go_quiet (fail)
        go_wp2_with (fail)
        go_ret
        exact ⟨by rw [HNO.out]; rfl, below_drewN (pb2 HML.out.be (pal _)) _⟩
    obtain ⟨t, r, ⟨oc, ok, oh, ov⟩, ⟨ae, ao, ak, av, an, ap⟩⟩ := x
    dsimp only at e0 e1 e2 e3 e4 e5 e6 e7 e8 e9 e10 e11 hT hps
    obtain ⟨tn, rfl⟩ : ∃ k : Nat, t = (k : Int) := ⟨t.toNat, by unfold okT at hT; omega⟩
    have htn : tn < 6 := by unfold okT at hT; omega
    have ht0 : (0 : Int) ≤ (tn : Int) := by omega
    have ht6 : (tn : Int) < 6 := by omega
    have ht6' : ¬ (6 : Int) ≤ (tn : Int) := by omega
    have hd1 : decide ((tn : Int) < 0) = false := decide_eq_false (by omega)
    have hd2 : decide ((6 : Int) ≤ (tn : Int)) = false := decide_eq_false (by omega)
    have hstp : mtc N (n + 1) = stp s n ⟨(tn : Int), r, ⟨oc, ok, oh, ov⟩, ⟨ae, ao, ak, av, an, ap⟩⟩ := by rw [mtc_succ, hML.m]; simp only [Option.bind_some]; rw [hgx]
    have HML := Lib.hid (hML.keep (pal (.cells #[.int .i64 (tn : Int), .bool r, .int .i64 oc, .int .i64 ok, .int .i64 oh, .int .i64 ov, .int .i64 ae, .bool ao, .int .i64 ak, .int .i64 av, .int .i64 an, .slice pa ap.length pc] 62)))
    have HEB := Lib.hid (Bq.new wr #[.int .i64 (tn : Int), .bool r, .int .i64 oc, .int .i64 ok, .int .i64 oh, .int .i64 ov, .int .i64 ae, .bool ao, .int .i64 ak, .int .i64 av, .int .i64 an, .slice pa ap.length pc] 62)
    have HPS := Lib.hid (hps.below (pal (w := wr) (.cells #[.int .i64 (tn : Int), .bool r, .int .i64 oc, .int .i64 ok, .int .i64 oh, .int .i64 ov, .int .i64 ae, .bool ao, .int .i64 ak, .int .i64 av, .int .i64 an, .slice pa ap.length pc] 62)))
    have HSTP := Lib.hid hstp
    have HT := Lib.hid hT
    have HLT := Lib.hid hlt
    have HLW := Lib.hid hML.lt
    clear hx hx1 hgx hps hstp hML hT
    go_wp2_with (fail)
    have q0 := HEB.out.at_ 0 _ rfl
    have q1 := HEB.out.at_ 1 _ rfl
    generalize wr.alloc (.cells #[.int .i64 (tn : Int), .bool r, .int .i64 oc, .int .i64 ok, .int .i64 oh, .int .i64 ov, .int .i64 ae, .bool ao, .int .i64 ak, .int .i64 av, .int .i64 an, .slice pa ap.length pc] 62) = W2 at *
    clear e0 e1 e2 e3 e4 e5 e6 e7 e8 e9 e10 e11
    have z0 := HML.out.on tn htn
    by_cases hX0 : 0 < s.x (tn : Int)
    · -- the thread waits
      rw [decide_eq_true hX0] at z0
      cases r
      · -- a call
        have HNO := Lib.hid (mt_none (HSTP.out.trans (stp_no (fun x => by cases x.1) (fun x => by have h1 := x.2.1; dsimp only at h1; omega))) HLT.out)
        go_quiet (fail)
        go_wp2_with (fail)
        go_ret
        exact ⟨by rw [HNO.out]; rfl, below_drewN HML.out.be _⟩
      · -- a return
        go_quiet (fail)
        go_wp2_with (fail)
        have hk := below_drewN (Below.refl W2.heap.size W2) nq
        have HML2 := Lib.hid (HML.out.keep hk)
        have HEB2 := Lib.hid (HEB.out.keep hk)
        clear hk HML HEB HPS z0 q0 q1
        generalize W2.drewN nq = w3 at *
        have q0 := HEB2.out.at_ 0 _ rfl
        have q1 := HEB2.out.at_ 1 _ rfl
        have q2 := HEB2.out.at_ 2 _ rfl
        have q3 := HEB2.out.at_ 3 _ rfl
        have q4 := HEB2.out.at_ 4 _ rfl
        have q5 := HEB2.out.at_ 5 _ rfl
        obtain ⟨⟨dc, dk, dh, dv⟩, z0, z1, z2, z3, hop⟩ := HML2.out.ops tn htn
        have HOP := Lib.hid (hop hX0)
        have HX0 := Lib.hid hX0
        dsimp only at z0 z1 z2 z3
        clear hop hX0
        by_cases hq1 : dc = oc
        rotate_left
        · have hqq : (oc == dc) = false := by simpa using fun e => hq1 e.symm
          have hq2 : ¬ oc = dc := fun e => hq1 e.symm
          have HNO := Lib.hid (mt_none (HSTP.out.trans (stp_no (show ¬ s.rets ⟨(tn : Int), true, ⟨oc, ok, oh, ov⟩, ⟨ae, ao, ak, av, an, ap⟩⟩ from fun x => by have h1 := x.2.2; dsimp only at h1; rw [← HOP.out] at h1; cases h1; exact hq1 rfl) (fun x => by cases x.1))) HLT.out)
          clear hq1
          go_quiet (fail)
          go_wp2_with (fail)
          go_ret
          exact ⟨by rw [HNO.out]; rfl, below_drewN HML2.out.be _⟩
        subst hq1
        by_cases hq1 : dk = ok
        rotate_left
        · have hqq : (ok == dk) = false := by simpa using fun e => hq1 e.symm
          have hq2 : ¬ ok = dk := fun e => hq1 e.symm
          have HNO := Lib.hid (mt_none (HSTP.out.trans (stp_no (show ¬ s.rets ⟨(tn : Int), true, ⟨dc, ok, oh, ov⟩, ⟨ae, ao, ak, av, an, ap⟩⟩ from fun x => by have h1 := x.2.2; dsimp only at h1; rw [← HOP.out] at h1; cases h1; exact hq1 rfl) (fun x => by cases x.1))) HLT.out)
          clear hq1
          go_quiet (fail)
          go_wp2_with (fail)
          go_ret
          exact ⟨by rw [HNO.out]; rfl, below_drewN HML2.out.be _⟩
        subst hq1
        by_cases hq1 : dh = oh
        rotate_left
        · have hqq : (oh == dh) = false := by simpa using fun e => hq1 e.symm
          have hq2 : ¬ oh = dh := fun e => hq1 e.symm
          have HNO := Lib.hid (mt_none (HSTP.out.trans (stp_no (show ¬ s.rets ⟨(tn : Int), true, ⟨dc, dk, oh, ov⟩, ⟨ae, ao, ak, av, an, ap⟩⟩ from fun x => by have h1 := x.2.2; dsimp only at h1; rw [← HOP.out] at h1; cases h1; exact hq1 rfl) (fun x => by cases x.1))) HLT.out)
          clear hq1
          go_quiet (fail)
          go_wp2_with (fail)
          go_ret
          exact ⟨by rw [HNO.out]; rfl, below_drewN HML2.out.be _⟩
        subst hq1
        by_cases hq1 : dv = ov
        rotate_left
        · have hqq : (ov == dv) = false := by simpa using fun e => hq1 e.symm
          have hq2 : ¬ ov = dv := fun e => hq1 e.symm
          have HNO := Lib.hid (mt_none (HSTP.out.trans (stp_no (show ¬ s.rets ⟨(tn : Int), true, ⟨dc, dk, dh, ov⟩, ⟨ae, ao, ak, av, an, ap⟩⟩ from fun x => by have h1 := x.2.2; dsimp only at h1; rw [← HOP.out] at h1; cases h1; exact hq1 rfl) (fun x => by cases x.1))) HLT.out)
          clear hq1
          go_quiet (fail)
          go_wp2_with (fail)
          go_ret
          exact ⟨by rw [HNO.out]; rfl, below_drewN HML2.out.be _⟩
        subst hq1
        have HYR := Lib.hid (HSTP.out.trans (stp_ret HT.out (show s.rets ⟨(tn : Int), true, ⟨dc, dk, dh, dv⟩, ⟨ae, ao, ak, av, an, ap⟩⟩ from ⟨rfl, HX0.out, HOP.out.symm⟩)))
        have z4 := HML2.out.on tn htn
        have zf := HML2.out.f1 tn
        have zg := HML2.out.f2
        have zg0 := zg (tn * 4)
        have zg1 := zg (tn * 4 + 1)
        have zg2 := zg (tn * 4 + 2)
        have zg3 := zg (tn * 4 + 3)
        clear zg
        go_quiet (fail)
        go_wp2_with (fail)
        have hz1 : ¬ w.heap.size = wr.heap.size := by have := HLW.out; omega
        have hz2 : ¬ w.heap.size + 1 = wr.heap.size := by have := HLW.out; omega
        have hz3 : ¬ wr.heap.size = w.heap.size := by have := HLW.out; omega
        have hz4 : ¬ wr.heap.size = w.heap.size + 1 := by have := HLW.out; omega
        have hk := below_drewN (Below.refl w3.heap.size w3) nq
        have HML4 := Lib.hid (HML2.out.keep hk)
        have HEB4 := Lib.hid (HEB2.out.keep hk)
        clear hk HML2 HEB2 z0 z1 z2 z3 z4 zf zg0 zg1 zg2 zg3 q0 q1 q2 q3 q4 q5
        generalize w3.drewN nq = w4 at *
        have q0 := HEB4.out.at_ 0 _ rfl
        have q1 := HEB4.out.at_ 1 _ rfl
        have q2 := HEB4.out.at_ 2 _ rfl
        have q3 := HEB4.out.at_ 3 _ rfl
        have q4 := HEB4.out.at_ 4 _ rfl
        have q5 := HEB4.out.at_ 5 _ rfl
        obtain ⟨⟨xc, xk, xh, xv⟩, z0, z1, z2, z3, -⟩ := HML4.out.ops tn htn
        dsimp only at z0 z1 z2 z3
        have z4 := HML4.out.on tn htn
        have zf := HML4.out.f1 tn
        have zg := HML4.out.f2
        have zg0 := zg (tn * 4)
        have zg1 := zg (tn * 4 + 1)
        have zg2 := zg (tn * 4 + 2)
        have zg3 := zg (tn * 4 + 3)
        clear zg HEB4
        go_region
        have HF := Lib.hid (HML4.out.ret tn htn _ rfl HX0.out HYR.out)
        unfold W5 at HF
        dsimp only at HF
        clear z0 z1 z2 z3 z4 zf zg0 zg1 zg2 zg3 q0 q1 q2 q3 q4 q5
        go_wp2_with (fail)
        go_roundw
        case rel => exact ⟨n + 1, _, by have := HLT.out; omega, by go_num, HF.out.keep ((Below.refl _ _).drew)⟩
        case measure => have := HLT.out; simp [intOf]; omega
    · rw [decide_eq_false hX0] at z0
      cases r
      · -- a call
        go_quiet (fail)
        go_wp2_with (fail)
        have hk := below_drewN (Below.refl W2.heap.size W2) nq
        have HML2 := Lib.hid (HML.out.keep hk)
        have HEB2 := Lib.hid (HEB.out.keep hk)
        have HPS2 := Lib.hid (HPS.out.below hk)
        have HX0 := Lib.hid (show s.x (tn : Int) = 0 by omega)
        clear hk HML HEB HPS z0 q0 q1 hX0
        generalize W2.drewN nq = w3 at *
        have q0 := HEB2.out.at_ 0 _ rfl
        have q1 := HEB2.out.at_ 1 _ rfl
        have q2 := HEB2.out.at_ 2 _ rfl
        have q3 := HEB2.out.at_ 3 _ rfl
        have q4 := HEB2.out.at_ 4 _ rfl
        have q5 := HEB2.out.at_ 5 _ rfl
        have q6 := HEB2.out.at_ 6 _ rfl
        have q7 := HEB2.out.at_ 7 _ rfl
        have q8 := HEB2.out.at_ 8 _ rfl
        have q9 := HEB2.out.at_ 9 _ rfl
        have q10 := HEB2.out.at_ 10 _ rfl
        have q11 := HEB2.out.at_ 11 _ rfl
        have HNR := Lib.hid (show ¬ s.rets ⟨(tn : Int), false, ⟨oc, ok, oh, ov⟩, ⟨ae, ao, ak, av, an, ap⟩⟩ from fun x => by cases x.1)
        by_cases h1 : okOp oc
        rotate_left
        · have cm := fun W => rmayop_any oc ok oh ov W false (decide_eq_false h1)
          have HNO := Lib.hid (mt_none (HSTP.out.trans (stp_no HNR.out (fun x => h1 x.2.2.1))) HLT.out)
          clear h1 HT HSTP
          refine wp_region_held_drew (S := fun W => W.cell? ⟨wr.heap.size, 1, none⟩ = some (.bool false) ∧ W.cell? ⟨wr.heap.size, 2, none⟩ = some (.int .i64 oc) ∧ W.cell? ⟨wr.heap.size, 3, none⟩ = some (.int .i64 ok) ∧ W.cell? ⟨wr.heap.size, 4, none⟩ = some (.int .i64 oh) ∧ W.cell? ⟨wr.heap.size, 5, none⟩ = some (.int .i64 ov) ∧ W.cell? ⟨wr.heap.size, 6, none⟩ = some (.int .i64 ae) ∧ W.cell? ⟨wr.heap.size, 7, none⟩ = some (.bool ao) ∧ W.cell? ⟨wr.heap.size, 8, none⟩ = some (.int .i64 ak) ∧ W.cell? ⟨wr.heap.size, 9, none⟩ = some (.int .i64 av) ∧ W.cell? ⟨wr.heap.size, 10, none⟩ = some (.int .i64 an) ∧ W.cell? ⟨wr.heap.size, 11, none⟩ = some (.slice pa ap.length pc) ∧ Below w3.heap.size w3 W) (by kernel_rfl) (by first | exact ⟨q1, q2, q3, q4, q5, q6, q7, q8, q9, q10, q11, Below.refl _ _⟩ | exact ⟨q1, q2, q3, q4, q5, q6, q7, q8, q9, q10, q11, (Below.refl _ _).drew⟩) (fun hHeld => ?_)
          refine wpAnyH_take (i := 0) (v := ?_) rfl (by kernel_rfl) (by kernel_rfl) (by kernel_rfl) (fun _ _ _ h => h) (Or.inl ⟨by rfl, ?_⟩) hHeld ?_
          rotate_left
          · (intro wS hSw; (try dsimp only at hSw); (try go_split_ands); go_simp; try with_reducible rfl)
          try simp only [List.getElem_toArray, List.getElem_cons_succ, List.getElem_cons_zero, Act.put, List.setIfInBounds_toArray, List.set_cons_zero, List.set_cons_succ]
          refine wpAnyH_take (i := 1) (v := ?_) rfl (by kernel_rfl) (by kernel_rfl) (by kernel_rfl) (fun _ _ _ h => h) (Or.inl ⟨by rfl, ?_⟩) hHeld ?_
          rotate_left
          · (intro wS hSw; (try dsimp only at hSw); (try go_split_ands); go_simp; try with_reducible rfl)
          try simp only [List.getElem_toArray, List.getElem_cons_succ, List.getElem_cons_zero, Act.put, List.setIfInBounds_toArray, List.set_cons_zero, List.set_cons_succ]
          refine wpAnyH_take (i := 2) (v := ?_) rfl (by kernel_rfl) (by kernel_rfl) (by kernel_rfl) (fun _ _ _ h => h) (Or.inl ⟨by rfl, ?_⟩) hHeld ?_
          rotate_left
          · (intro wS hSw; (try dsimp only at hSw); (try go_split_ands); go_simp; try with_reducible rfl)
          try simp only [List.getElem_toArray, List.getElem_cons_succ, List.getElem_cons_zero, Act.put, List.setIfInBounds_toArray, List.set_cons_zero, List.set_cons_succ]
          refine wpAnyH_take (i := 3) (v := ?_) rfl (by kernel_rfl) (by kernel_rfl) (by kernel_rfl) (fun _ _ _ h => h) (Or.inl ⟨by rfl, ?_⟩) hHeld ?_
          rotate_left
          · (intro wS hSw; (try dsimp only at hSw); (try go_split_ands); go_simp; try with_reducible rfl)
          try simp only [List.getElem_toArray, List.getElem_cons_succ, List.getElem_cons_zero, Act.put, List.setIfInBounds_toArray, List.set_cons_zero, List.set_cons_succ]
          refine wpAnyH_take (i := 4) (v := ?_) rfl (by kernel_rfl) (by kernel_rfl) (by kernel_rfl) (fun _ _ _ h => h) (Or.inl ⟨by rfl, ?_⟩) hHeld ?_
          rotate_left
          · (intro wS hSw; (try dsimp only at hSw); (try go_split_ands); go_simp; try with_reducible rfl)
          try simp only [List.getElem_toArray, List.getElem_cons_succ, List.getElem_cons_zero, Act.put, List.setIfInBounds_toArray, List.set_cons_zero, List.set_cons_succ]
          refine wpAnyH_take (i := 5) (v := ?_) rfl (by kernel_rfl) (by kernel_rfl) (by kernel_rfl) (fun _ _ _ h => h) (Or.inl ⟨by rfl, ?_⟩) hHeld ?_
          rotate_left
          · (intro wS hSw; (try dsimp only at hSw); (try go_split_ands); go_simp; try with_reducible rfl)
          try simp only [List.getElem_toArray, List.getElem_cons_succ, List.getElem_cons_zero, Act.put, List.setIfInBounds_toArray, List.set_cons_zero, List.set_cons_succ]
          refine wpAnyH_ready (rs := [6]) (by kernel_rfl) (by simp) ?_
          refine AllReadyH.cons rfl (fun K hK => ?_) AllReadyH.nil
          go_simp
          (go_at_call 13; ((with_reducible refine (cm _).mono ?_); rintro e Y ⟨rfl, hbY⟩))
          refine hK.out _ _ ?_ (fun hNext => ?_)
          · exact ⟨pkc hbY hHeld.1, pkc hbY hHeld.2.1, pkc hbY hHeld.2.2.1, pkc hbY hHeld.2.2.2.1, pkc hbY hHeld.2.2.2.2.1, pkc hbY hHeld.2.2.2.2.2.1, pkc hbY hHeld.2.2.2.2.2.2.1, pkc hbY hHeld.2.2.2.2.2.2.2.1, pkc hbY hHeld.2.2.2.2.2.2.2.2.1, pkc hbY hHeld.2.2.2.2.2.2.2.2.2.1, pkc hbY hHeld.2.2.2.2.2.2.2.2.2.2.1, pb2 hHeld.2.2.2.2.2.2.2.2.2.2.2 hbY⟩
          clear hbY
          clear hK K hHeld
          have hHeld := hNext
          clear hNext
          try simp only [List.getElem_toArray, List.getElem_cons_succ, List.getElem_cons_zero, Act.put, List.setIfInBounds_toArray, List.set_cons_zero, List.set_cons_succ]
          refine wpAnyH_take (i := 7) (v := ?_) rfl (by kernel_rfl) (by kernel_rfl) (by kernel_rfl) (fun _ _ _ h => h) (Or.inl ⟨by rfl, ?_⟩) hHeld ?_
          rotate_left
          · (intro wS hSw; (try dsimp only at hSw); (try go_split_ands); go_simp; try with_reducible rfl)
          try simp only [List.getElem_toArray, List.getElem_cons_succ, List.getElem_cons_zero, Act.put, List.setIfInBounds_toArray, List.set_cons_zero, List.set_cons_succ]
          refine wpAnyH_take (i := 8) (v := ?_) rfl (by kernel_rfl) (by kernel_rfl) (by kernel_rfl) (fun _ _ _ h => h) (Or.inl ⟨by rfl, ?_⟩) hHeld ?_
          rotate_left
          · (intro wS hSw; (try dsimp only at hSw); (try go_split_ands); go_simp; try with_reducible rfl)
          try simp only [List.getElem_toArray, List.getElem_cons_succ, List.getElem_cons_zero, Act.put, List.setIfInBounds_toArray, List.set_cons_zero, List.set_cons_succ]
          refine wpAnyH_take (i := 9) (v := undef) rfl (by kernel_rfl) (by kernel_rfl) (by kernel_rfl) (fun _ _ _ h => h) (Or.inr ⟨by rfl, rfl⟩) hHeld ?_
          try simp only [List.getElem_toArray, List.getElem_cons_succ, List.getElem_cons_zero, Act.put, List.setIfInBounds_toArray, List.set_cons_zero, List.set_cons_succ]
          refine wpAnyH_take (i := 10) (v := undef) rfl (by kernel_rfl) (by kernel_rfl) (by kernel_rfl) (fun _ _ _ h => h) (Or.inr ⟨by rfl, rfl⟩) hHeld ?_
          try simp only [List.getElem_toArray, List.getElem_cons_succ, List.getElem_cons_zero, Act.put, List.setIfInBounds_toArray, List.set_cons_zero, List.set_cons_succ]
          refine wpAnyH_take (i := 11) (v := undef) rfl (by kernel_rfl) (by kernel_rfl) (by kernel_rfl) (fun _ _ _ h => h) (Or.inr ⟨by rfl, rfl⟩) hHeld ?_
          try simp only [List.getElem_toArray, List.getElem_cons_succ, List.getElem_cons_zero, Act.put, List.setIfInBounds_toArray, List.set_cons_zero, List.set_cons_succ]
          refine wpAnyH_take (i := 12) (v := undef) rfl (by kernel_rfl) (by kernel_rfl) (by kernel_rfl) (fun _ _ _ h => h) (Or.inr ⟨by rfl, rfl⟩) hHeld ?_
          try simp only [List.getElem_toArray, List.getElem_cons_succ, List.getElem_cons_zero, Act.put, List.setIfInBounds_toArray, List.set_cons_zero, List.set_cons_succ]
          refine wpAnyH_take (i := 13) (v := ?_) rfl (by kernel_rfl) (by kernel_rfl) (by kernel_rfl) (fun _ _ _ h => h) (Or.inl ⟨by rfl, ?_⟩) hHeld ?_
          rotate_left
          · (intro wS hSw; (try dsimp only at hSw); (try go_split_ands); go_simp; try with_reducible rfl)
          try simp only [List.getElem_toArray, List.getElem_cons_succ, List.getElem_cons_zero, Act.put, List.setIfInBounds_toArray, List.set_cons_zero, List.set_cons_succ]
          refine wpAnyH_take (i := 14) (v := ?_) rfl (by kernel_rfl) (by kernel_rfl) (by kernel_rfl) (fun _ _ _ h => h) (Or.inl ⟨by rfl, ?_⟩) hHeld ?_
          rotate_left
          · (intro wS hSw; (try dsimp only at hSw); (try go_split_ands); go_simp; try with_reducible rfl)
          try simp only [List.getElem_toArray, List.getElem_cons_succ, List.getElem_cons_zero, Act.put, List.setIfInBounds_toArray, List.set_cons_zero, List.set_cons_succ]
          refine wpAnyH_take (i := 15) (v := ?_) rfl (by kernel_rfl) (by kernel_rfl) (by kernel_rfl) (fun _ _ _ h => h) (Or.inl ⟨by rfl, ?_⟩) hHeld ?_
          rotate_left
          · (intro wS hSw; (try dsimp only at hSw); (try go_split_ands); go_simp; try with_reducible rfl)
          try simp only [List.getElem_toArray, List.getElem_cons_succ, List.getElem_cons_zero, Act.put, List.setIfInBounds_toArray, List.set_cons_zero, List.set_cons_succ]
          refine wpAnyH_take (i := 16) (v := undef) rfl (by kernel_rfl) (by kernel_rfl) (by kernel_rfl) (fun _ _ _ h => h) (Or.inr ⟨by rfl, rfl⟩) hHeld ?_
          try simp only [List.getElem_toArray, List.getElem_cons_succ, List.getElem_cons_zero, Act.put, List.setIfInBounds_toArray, List.set_cons_zero, List.set_cons_succ]
          refine wpAnyH_take (i := 17) (v := undef) rfl (by kernel_rfl) (by kernel_rfl) (by kernel_rfl) (fun _ _ _ h => h) (Or.inr ⟨by rfl, rfl⟩) hHeld ?_
          try simp only [List.getElem_toArray, List.getElem_cons_succ, List.getElem_cons_zero, Act.put, List.setIfInBounds_toArray, List.set_cons_zero, List.set_cons_succ]
          refine wpAnyH_take (i := 18) (v := undef) rfl (by kernel_rfl) (by kernel_rfl) (by kernel_rfl) (fun _ _ _ h => h) (Or.inr ⟨by rfl, rfl⟩) hHeld ?_
          try simp only [List.getElem_toArray, List.getElem_cons_succ, List.getElem_cons_zero, Act.put, List.setIfInBounds_toArray, List.set_cons_zero, List.set_cons_succ]
          refine wpAnyH_take (i := 19) (v := undef) rfl (by kernel_rfl) (by kernel_rfl) (by kernel_rfl) (fun _ _ _ h => h) (Or.inr ⟨by rfl, rfl⟩) hHeld ?_
          try simp only [List.getElem_toArray, List.getElem_cons_succ, List.getElem_cons_zero, Act.put, List.setIfInBounds_toArray, List.set_cons_zero, List.set_cons_succ]
          refine wpAnyH_take (i := 20) (v := undef) rfl (by kernel_rfl) (by kernel_rfl) (by kernel_rfl) (fun _ _ _ h => h) (Or.inr ⟨by rfl, rfl⟩) hHeld ?_
          try simp only [List.getElem_toArray, List.getElem_cons_succ, List.getElem_cons_zero, Act.put, List.setIfInBounds_toArray, List.set_cons_zero, List.set_cons_succ]
          refine wpAnyH_take (i := 21) (v := undef) rfl (by kernel_rfl) (by kernel_rfl) (by kernel_rfl) (fun _ _ _ h => h) (Or.inr ⟨by rfl, rfl⟩) hHeld ?_
          try simp only [List.getElem_toArray, List.getElem_cons_succ, List.getElem_cons_zero, Act.put, List.setIfInBounds_toArray, List.set_cons_zero, List.set_cons_succ]
          refine wpAnyH_take (i := 22) (v := undef) rfl (by kernel_rfl) (by kernel_rfl) (by kernel_rfl) (fun _ _ _ h => h) (Or.inr ⟨by rfl, rfl⟩) hHeld ?_
          try simp only [List.getElem_toArray, List.getElem_cons_succ, List.getElem_cons_zero, Act.put, List.setIfInBounds_toArray, List.set_cons_zero, List.set_cons_succ]
          refine wpAnyH_take (i := 23) (v := undef) rfl (by kernel_rfl) (by kernel_rfl) (by kernel_rfl) (fun _ _ _ h => h) (Or.inr ⟨by rfl, rfl⟩) hHeld ?_
          try simp only [List.getElem_toArray, List.getElem_cons_succ, List.getElem_cons_zero, Act.put, List.setIfInBounds_toArray, List.set_cons_zero, List.set_cons_succ]
          refine wpAnyH_take (i := 24) (v := undef) rfl (by kernel_rfl) (by kernel_rfl) (by kernel_rfl) (fun _ _ _ h => h) (Or.inr ⟨by rfl, rfl⟩) hHeld ?_
          try simp only [List.getElem_toArray, List.getElem_cons_succ, List.getElem_cons_zero, Act.put, List.setIfInBounds_toArray, List.set_cons_zero, List.set_cons_succ]
          refine wpAnyH_take (i := 25) (v := undef) rfl (by kernel_rfl) (by kernel_rfl) (by kernel_rfl) (fun _ _ _ h => h) (Or.inr ⟨by rfl, rfl⟩) hHeld ?_
          try simp only [List.getElem_toArray, List.getElem_cons_succ, List.getElem_cons_zero, Act.put, List.setIfInBounds_toArray, List.set_cons_zero, List.set_cons_succ]
          refine wpAnyH_take (i := 26) (v := undef) rfl (by kernel_rfl) (by kernel_rfl) (by kernel_rfl) (fun _ _ _ h => h) (Or.inr ⟨by rfl, rfl⟩) hHeld ?_
          try simp only [List.getElem_toArray, List.getElem_cons_succ, List.getElem_cons_zero, Act.put, List.setIfInBounds_toArray, List.set_cons_zero, List.set_cons_succ]
          refine wpAnyH_take (i := 27) (v := ?_) rfl (by kernel_rfl) (by kernel_rfl) (by kernel_rfl) (fun _ _ _ h => h) (Or.inl ⟨by rfl, ?_⟩) hHeld ?_
          rotate_left
          · (intro wS hSw; (try dsimp only at hSw); (try go_split_ands); go_simp; try with_reducible rfl)
          try simp only [List.getElem_toArray, List.getElem_cons_succ, List.getElem_cons_zero, Act.put, List.setIfInBounds_toArray, List.set_cons_zero, List.set_cons_succ]
          refine wpAnyH_done (by kernel_rfl) ?_ _
          go_wp2_with (fail)
          go_ret
          exact ⟨by rw [HNO.out]; rfl, pb2 HML2.out.be hHeld.2.2.2.2.2.2.2.2.2.2.2⟩
        have cm := fun W => rmayop_any oc ok oh ov W true (decide_eq_true h1)
        have HH1 := Lib.hid h1
        clear h1
        by_cases h2 : (⟨ae, ao, ak, av, an, ap⟩ : Ad) = zAd
        rotate_left
        · have cz := fun W h => zero_any ⟨ae, ao, ak, av, an, ap⟩ pa pc W h false (decide_eq_false h2)
          have HNO := Lib.hid (mt_none (HSTP.out.trans (stp_no HNR.out (fun x => h2 x.2.2.2))) HLT.out)
          unfold Ad.val at cz
          dsimp only at cz
          clear h2 HT HSTP
          refine wp_region_held_drew (S := fun W => W.cell? ⟨wr.heap.size, 1, none⟩ = some (.bool false) ∧ W.cell? ⟨wr.heap.size, 2, none⟩ = some (.int .i64 oc) ∧ W.cell? ⟨wr.heap.size, 3, none⟩ = some (.int .i64 ok) ∧ W.cell? ⟨wr.heap.size, 4, none⟩ = some (.int .i64 oh) ∧ W.cell? ⟨wr.heap.size, 5, none⟩ = some (.int .i64 ov) ∧ W.cell? ⟨wr.heap.size, 6, none⟩ = some (.int .i64 ae) ∧ W.cell? ⟨wr.heap.size, 7, none⟩ = some (.bool ao) ∧ W.cell? ⟨wr.heap.size, 8, none⟩ = some (.int .i64 ak) ∧ W.cell? ⟨wr.heap.size, 9, none⟩ = some (.int .i64 av) ∧ W.cell? ⟨wr.heap.size, 10, none⟩ = some (.int .i64 an) ∧ W.cell? ⟨wr.heap.size, 11, none⟩ = some (.slice pa ap.length pc) ∧ Below w3.heap.size w3 W) (by kernel_rfl) (by first | exact ⟨q1, q2, q3, q4, q5, q6, q7, q8, q9, q10, q11, Below.refl _ _⟩ | exact ⟨q1, q2, q3, q4, q5, q6, q7, q8, q9, q10, q11, (Below.refl _ _).drew⟩) (fun hHeld => ?_)
          refine wpAnyH_take (i := 0) (v := ?_) rfl (by kernel_rfl) (by kernel_rfl) (by kernel_rfl) (fun _ _ _ h => h) (Or.inl ⟨by rfl, ?_⟩) hHeld ?_
          rotate_left
          · (intro wS hSw; (try dsimp only at hSw); (try go_split_ands); go_simp; try with_reducible rfl)
          try simp only [List.getElem_toArray, List.getElem_cons_succ, List.getElem_cons_zero, Act.put, List.setIfInBounds_toArray, List.set_cons_zero, List.set_cons_succ]
          refine wpAnyH_take (i := 1) (v := ?_) rfl (by kernel_rfl) (by kernel_rfl) (by kernel_rfl) (fun _ _ _ h => h) (Or.inl ⟨by rfl, ?_⟩) hHeld ?_
          rotate_left
          · (intro wS hSw; (try dsimp only at hSw); (try go_split_ands); go_simp; try with_reducible rfl)
          try simp only [List.getElem_toArray, List.getElem_cons_succ, List.getElem_cons_zero, Act.put, List.setIfInBounds_toArray, List.set_cons_zero, List.set_cons_succ]
          refine wpAnyH_take (i := 2) (v := ?_) rfl (by kernel_rfl) (by kernel_rfl) (by kernel_rfl) (fun _ _ _ h => h) (Or.inl ⟨by rfl, ?_⟩) hHeld ?_
          rotate_left
          · (intro wS hSw; (try dsimp only at hSw); (try go_split_ands); go_simp; try with_reducible rfl)
          try simp only [List.getElem_toArray, List.getElem_cons_succ, List.getElem_cons_zero, Act.put, List.setIfInBounds_toArray, List.set_cons_zero, List.set_cons_succ]
          refine wpAnyH_take (i := 3) (v := ?_) rfl (by kernel_rfl) (by kernel_rfl) (by kernel_rfl) (fun _ _ _ h => h) (Or.inl ⟨by rfl, ?_⟩) hHeld ?_
          rotate_left
          · (intro wS hSw; (try dsimp only at hSw); (try go_split_ands); go_simp; try with_reducible rfl)
          try simp only [List.getElem_toArray, List.getElem_cons_succ, List.getElem_cons_zero, Act.put, List.setIfInBounds_toArray, List.set_cons_zero, List.set_cons_succ]
          refine wpAnyH_take (i := 4) (v := ?_) rfl (by kernel_rfl) (by kernel_rfl) (by kernel_rfl) (fun _ _ _ h => h) (Or.inl ⟨by rfl, ?_⟩) hHeld ?_
          rotate_left
          · (intro wS hSw; (try dsimp only at hSw); (try go_split_ands); go_simp; try with_reducible rfl)
          try simp only [List.getElem_toArray, List.getElem_cons_succ, List.getElem_cons_zero, Act.put, List.setIfInBounds_toArray, List.set_cons_zero, List.set_cons_succ]
          refine wpAnyH_take (i := 5) (v := ?_) rfl (by kernel_rfl) (by kernel_rfl) (by kernel_rfl) (fun _ _ _ h => h) (Or.inl ⟨by rfl, ?_⟩) hHeld ?_
          rotate_left
          · (intro wS hSw; (try dsimp only at hSw); (try go_split_ands); go_simp; try with_reducible rfl)
          try simp only [List.getElem_toArray, List.getElem_cons_succ, List.getElem_cons_zero, Act.put, List.setIfInBounds_toArray, List.set_cons_zero, List.set_cons_succ]
          refine wpAnyH_ready (rs := [6]) (by kernel_rfl) (by simp) ?_
          refine AllReadyH.cons rfl (fun K hK => ?_) AllReadyH.nil
          go_simp
          (go_at_call 13; ((with_reducible refine (cm _).mono ?_); rintro e Y ⟨rfl, hbY⟩))
          refine hK.out _ _ ?_ (fun hNext => ?_)
          · exact ⟨pkc hbY hHeld.1, pkc hbY hHeld.2.1, pkc hbY hHeld.2.2.1, pkc hbY hHeld.2.2.2.1, pkc hbY hHeld.2.2.2.2.1, pkc hbY hHeld.2.2.2.2.2.1, pkc hbY hHeld.2.2.2.2.2.2.1, pkc hbY hHeld.2.2.2.2.2.2.2.1, pkc hbY hHeld.2.2.2.2.2.2.2.2.1, pkc hbY hHeld.2.2.2.2.2.2.2.2.2.1, pkc hbY hHeld.2.2.2.2.2.2.2.2.2.2.1, pb2 hHeld.2.2.2.2.2.2.2.2.2.2.2 hbY⟩
          clear hbY
          clear hK K hHeld
          have hHeld := hNext
          clear hNext
          try simp only [List.getElem_toArray, List.getElem_cons_succ, List.getElem_cons_zero, Act.put, List.setIfInBounds_toArray, List.set_cons_zero, List.set_cons_succ]
          refine wpAnyH_take (i := 7) (v := ?_) rfl (by kernel_rfl) (by kernel_rfl) (by kernel_rfl) (fun _ _ _ h => h) (Or.inl ⟨by rfl, ?_⟩) hHeld ?_
          rotate_left
          · (intro wS hSw; (try dsimp only at hSw); (try go_split_ands); go_simp; try with_reducible rfl)
          try simp only [List.getElem_toArray, List.getElem_cons_succ, List.getElem_cons_zero, Act.put, List.setIfInBounds_toArray, List.set_cons_zero, List.set_cons_succ]
          refine wpAnyH_take (i := 8) (v := ?_) rfl (by kernel_rfl) (by kernel_rfl) (by kernel_rfl) (fun _ _ _ h => h) (Or.inl ⟨by rfl, ?_⟩) hHeld ?_
          rotate_left
          · (intro wS hSw; (try dsimp only at hSw); (try go_split_ands); go_simp; try with_reducible rfl)
          try simp only [List.getElem_toArray, List.getElem_cons_succ, List.getElem_cons_zero, Act.put, List.setIfInBounds_toArray, List.set_cons_zero, List.set_cons_succ]
          refine wpAnyH_take (i := 9) (v := ?_) rfl (by kernel_rfl) (by kernel_rfl) (by kernel_rfl) (fun _ _ _ h => h) (Or.inl ⟨by rfl, ?_⟩) hHeld ?_
          rotate_left
          · (intro wS hSw; (try dsimp only at hSw); (try go_split_ands); go_simp; try with_reducible rfl)
          try simp only [List.getElem_toArray, List.getElem_cons_succ, List.getElem_cons_zero, Act.put, List.setIfInBounds_toArray, List.set_cons_zero, List.set_cons_succ]
          refine wpAnyH_take (i := 10) (v := ?_) rfl (by kernel_rfl) (by kernel_rfl) (by kernel_rfl) (fun _ _ _ h => h) (Or.inl ⟨by rfl, ?_⟩) hHeld ?_
          rotate_left
          · (intro wS hSw; (try dsimp only at hSw); (try go_split_ands); go_simp; try with_reducible rfl)
          try simp only [List.getElem_toArray, List.getElem_cons_succ, List.getElem_cons_zero, Act.put, List.setIfInBounds_toArray, List.set_cons_zero, List.set_cons_succ]
          refine wpAnyH_ready (rs := [11]) (by kernel_rfl) (by simp) ?_
          refine AllReadyH.cons rfl (fun K hK => ?_) AllReadyH.nil
          go_simp
          (go_at_call 49; ((with_reducible refine (cz _ (HPS2.out.below hHeld.2.2.2.2.2.2.2.2.2.2.2)).mono ?_); rintro e Y2 ⟨rfl, hbY⟩))
          refine hK.out _ _ ?_ (fun hNext => ?_)
          · exact ⟨pkc hbY hHeld.1, pkc hbY hHeld.2.1, pkc hbY hHeld.2.2.1, pkc hbY hHeld.2.2.2.1, pkc hbY hHeld.2.2.2.2.1, pkc hbY hHeld.2.2.2.2.2.1, pkc hbY hHeld.2.2.2.2.2.2.1, pkc hbY hHeld.2.2.2.2.2.2.2.1, pkc hbY hHeld.2.2.2.2.2.2.2.2.1, pkc hbY hHeld.2.2.2.2.2.2.2.2.2.1, pkc hbY hHeld.2.2.2.2.2.2.2.2.2.2.1, pb2 hHeld.2.2.2.2.2.2.2.2.2.2.2 hbY⟩
          clear hbY
          clear hK K hHeld
          have hHeld := hNext
          clear hNext
          try simp only [List.getElem_toArray, List.getElem_cons_succ, List.getElem_cons_zero, Act.put, List.setIfInBounds_toArray, List.set_cons_zero, List.set_cons_succ]
          refine wpAnyH_take (i := 12) (v := ?_) rfl (by kernel_rfl) (by kernel_rfl) (by kernel_rfl) (fun _ _ _ h => h) (Or.inl ⟨by rfl, ?_⟩) hHeld ?_
          rotate_left
          · (intro wS hSw; (try dsimp only at hSw); (try go_split_ands); go_simp; try with_reducible rfl)
          try simp only [List.getElem_toArray, List.getElem_cons_succ, List.getElem_cons_zero, Act.put, List.setIfInBounds_toArray, List.set_cons_zero, List.set_cons_succ]
          refine wpAnyH_take (i := 13) (v := ?_) rfl (by kernel_rfl) (by kernel_rfl) (by kernel_rfl) (fun _ _ _ h => h) (Or.inl ⟨by rfl, ?_⟩) hHeld ?_
          rotate_left
          · (intro wS hSw; (try dsimp only at hSw); (try go_split_ands); go_simp; try with_reducible rfl)
          try simp only [List.getElem_toArray, List.getElem_cons_succ, List.getElem_cons_zero, Act.put, List.setIfInBounds_toArray, List.set_cons_zero, List.set_cons_succ]
          refine wpAnyH_take (i := 14) (v := ?_) rfl (by kernel_rfl) (by kernel_rfl) (by kernel_rfl) (fun _ _ _ h => h) (Or.inl ⟨by rfl, ?_⟩) hHeld ?_
          rotate_left
          · (intro wS hSw; (try dsimp only at hSw); (try go_split_ands); go_simp; try with_reducible rfl)
          try simp only [List.getElem_toArray, List.getElem_cons_succ, List.getElem_cons_zero, Act.put, List.setIfInBounds_toArray, List.set_cons_zero, List.set_cons_succ]
          refine wpAnyH_take (i := 15) (v := ?_) rfl (by kernel_rfl) (by kernel_rfl) (by kernel_rfl) (fun _ _ _ h => h) (Or.inl ⟨by rfl, ?_⟩) hHeld ?_
          rotate_left
          · (intro wS hSw; (try dsimp only at hSw); (try go_split_ands); go_simp; try with_reducible rfl)
          try simp only [List.getElem_toArray, List.getElem_cons_succ, List.getElem_cons_zero, Act.put, List.setIfInBounds_toArray, List.set_cons_zero, List.set_cons_succ]
          refine wpAnyH_take (i := 16) (v := undef) rfl (by kernel_rfl) (by kernel_rfl) (by kernel_rfl) (fun _ _ _ h => h) (Or.inr ⟨by rfl, rfl⟩) hHeld ?_
          try simp only [List.getElem_toArray, List.getElem_cons_succ, List.getElem_cons_zero, Act.put, List.setIfInBounds_toArray, List.set_cons_zero, List.set_cons_succ]
          refine wpAnyH_take (i := 17) (v := undef) rfl (by kernel_rfl) (by kernel_rfl) (by kernel_rfl) (fun _ _ _ h => h) (Or.inr ⟨by rfl, rfl⟩) hHeld ?_
          try simp only [List.getElem_toArray, List.getElem_cons_succ, List.getElem_cons_zero, Act.put, List.setIfInBounds_toArray, List.set_cons_zero, List.set_cons_succ]
          refine wpAnyH_take (i := 18) (v := undef) rfl (by kernel_rfl) (by kernel_rfl) (by kernel_rfl) (fun _ _ _ h => h) (Or.inr ⟨by rfl, rfl⟩) hHeld ?_
          try simp only [List.getElem_toArray, List.getElem_cons_succ, List.getElem_cons_zero, Act.put, List.setIfInBounds_toArray, List.set_cons_zero, List.set_cons_succ]
          refine wpAnyH_take (i := 19) (v := undef) rfl (by kernel_rfl) (by kernel_rfl) (by kernel_rfl) (fun _ _ _ h => h) (Or.inr ⟨by rfl, rfl⟩) hHeld ?_
          try simp only [List.getElem_toArray, List.getElem_cons_succ, List.getElem_cons_zero, Act.put, List.setIfInBounds_toArray, List.set_cons_zero, List.set_cons_succ]
          refine wpAnyH_take (i := 20) (v := undef) rfl (by kernel_rfl) (by kernel_rfl) (by kernel_rfl) (fun _ _ _ h => h) (Or.inr ⟨by rfl, rfl⟩) hHeld ?_
          try simp only [List.getElem_toArray, List.getElem_cons_succ, List.getElem_cons_zero, Act.put, List.setIfInBounds_toArray, List.set_cons_zero, List.set_cons_succ]
          refine wpAnyH_take (i := 21) (v := undef) rfl (by kernel_rfl) (by kernel_rfl) (by kernel_rfl) (fun _ _ _ h => h) (Or.inr ⟨by rfl, rfl⟩) hHeld ?_
          try simp only [List.getElem_toArray, List.getElem_cons_succ, List.getElem_cons_zero, Act.put, List.setIfInBounds_toArray, List.set_cons_zero, List.set_cons_succ]
          refine wpAnyH_take (i := 22) (v := undef) rfl (by kernel_rfl) (by kernel_rfl) (by kernel_rfl) (fun _ _ _ h => h) (Or.inr ⟨by rfl, rfl⟩) hHeld ?_
          try simp only [List.getElem_toArray, List.getElem_cons_succ, List.getElem_cons_zero, Act.put, List.setIfInBounds_toArray, List.set_cons_zero, List.set_cons_succ]
          refine wpAnyH_take (i := 23) (v := undef) rfl (by kernel_rfl) (by kernel_rfl) (by kernel_rfl) (fun _ _ _ h => h) (Or.inr ⟨by rfl, rfl⟩) hHeld ?_
          try simp only [List.getElem_toArray, List.getElem_cons_succ, List.getElem_cons_zero, Act.put, List.setIfInBounds_toArray, List.set_cons_zero, List.set_cons_succ]
          refine wpAnyH_take (i := 24) (v := undef) rfl (by kernel_rfl) (by kernel_rfl) (by kernel_rfl) (fun _ _ _ h => h) (Or.inr ⟨by rfl, rfl⟩) hHeld ?_
          try simp only [List.getElem_toArray, List.getElem_cons_succ, List.getElem_cons_zero, Act.put, List.setIfInBounds_toArray, List.set_cons_zero, List.set_cons_succ]
          refine wpAnyH_take (i := 25) (v := undef) rfl (by kernel_rfl) (by kernel_rfl) (by kernel_rfl) (fun _ _ _ h => h) (Or.inr ⟨by rfl, rfl⟩) hHeld ?_
          try simp only [List.getElem_toArray, List.getElem_cons_succ, List.getElem_cons_zero, Act.put, List.setIfInBounds_toArray, List.set_cons_zero, List.set_cons_succ]
          refine wpAnyH_take (i := 26) (v := undef) rfl (by kernel_rfl) (by kernel_rfl) (by kernel_rfl) (fun _ _ _ h => h) (Or.inr ⟨by rfl, rfl⟩) hHeld ?_
          try simp only [List.getElem_toArray, List.getElem_cons_succ, List.getElem_cons_zero, Act.put, List.setIfInBounds_toArray, List.set_cons_zero, List.set_cons_succ]
          refine wpAnyH_take (i := 27) (v := ?_) rfl (by kernel_rfl) (by kernel_rfl) (by kernel_rfl) (fun _ _ _ h => h) (Or.inl ⟨by rfl, ?_⟩) hHeld ?_
          rotate_left
          · (intro wS hSw; (try dsimp only at hSw); (try go_split_ands); go_simp; try with_reducible rfl)
          try simp only [List.getElem_toArray, List.getElem_cons_succ, List.getElem_cons_zero, Act.put, List.setIfInBounds_toArray, List.set_cons_zero, List.set_cons_succ]
          refine wpAnyH_done (by kernel_rfl) ?_ _
          go_wp2_with (fail)
          go_ret
          exact ⟨by rw [HNO.out]; rfl, pb2 HML2.out.be hHeld.2.2.2.2.2.2.2.2.2.2.2⟩
        have cz := fun W h => zero_any ⟨ae, ao, ak, av, an, ap⟩ pa pc W h true (decide_eq_true h2)
        unfold Ad.val at cz
        dsimp only at cz
        have HYB := Lib.hid (HSTP.out.trans (stp_beg HT.out (show s.begs ⟨(tn : Int), false, ⟨oc, ok, oh, ov⟩, ⟨ae, ao, ak, av, an, ap⟩⟩ from ⟨rfl, HX0.out, HH1.out, h2⟩)))
        clear h2 HT HSTP
        refine wp_region_held_drew (S := fun W => W.cell? ⟨wr.heap.size, 1, none⟩ = some (.bool false) ∧ W.cell? ⟨wr.heap.size, 2, none⟩ = some (.int .i64 oc) ∧ W.cell? ⟨wr.heap.size, 3, none⟩ = some (.int .i64 ok) ∧ W.cell? ⟨wr.heap.size, 4, none⟩ = some (.int .i64 oh) ∧ W.cell? ⟨wr.heap.size, 5, none⟩ = some (.int .i64 ov) ∧ W.cell? ⟨wr.heap.size, 6, none⟩ = some (.int .i64 ae) ∧ W.cell? ⟨wr.heap.size, 7, none⟩ = some (.bool ao) ∧ W.cell? ⟨wr.heap.size, 8, none⟩ = some (.int .i64 ak) ∧ W.cell? ⟨wr.heap.size, 9, none⟩ = some (.int .i64 av) ∧ W.cell? ⟨wr.heap.size, 10, none⟩ = some (.int .i64 an) ∧ W.cell? ⟨wr.heap.size, 11, none⟩ = some (.slice pa ap.length pc) ∧ Below w3.heap.size w3 W) (by kernel_rfl) (by first | exact ⟨q1, q2, q3, q4, q5, q6, q7, q8, q9, q10, q11, Below.refl _ _⟩ | exact ⟨q1, q2, q3, q4, q5, q6, q7, q8, q9, q10, q11, (Below.refl _ _).drew⟩) (fun hHeld => ?_)
        refine wpAnyH_take (i := 0) (v := ?_) rfl (by kernel_rfl) (by kernel_rfl) (by kernel_rfl) (fun _ _ _ h => h) (Or.inl ⟨by rfl, ?_⟩) hHeld ?_
        rotate_left
        · (intro wS hSw; (try dsimp only at hSw); (try go_split_ands); go_simp; try with_reducible rfl)
        try simp only [List.getElem_toArray, List.getElem_cons_succ, List.getElem_cons_zero, Act.put, List.setIfInBounds_toArray, List.set_cons_zero, List.set_cons_succ]
        refine wpAnyH_take (i := 1) (v := ?_) rfl (by kernel_rfl) (by kernel_rfl) (by kernel_rfl) (fun _ _ _ h => h) (Or.inl ⟨by rfl, ?_⟩) hHeld ?_
        rotate_left
        · (intro wS hSw; (try dsimp only at hSw); (try go_split_ands); go_simp; try with_reducible rfl)
        try simp only [List.getElem_toArray, List.getElem_cons_succ, List.getElem_cons_zero, Act.put, List.setIfInBounds_toArray, List.set_cons_zero, List.set_cons_succ]
        refine wpAnyH_take (i := 2) (v := ?_) rfl (by kernel_rfl) (by kernel_rfl) (by kernel_rfl) (fun _ _ _ h => h) (Or.inl ⟨by rfl, ?_⟩) hHeld ?_
        rotate_left
        · (intro wS hSw; (try dsimp only at hSw); (try go_split_ands); go_simp; try with_reducible rfl)
        try simp only [List.getElem_toArray, List.getElem_cons_succ, List.getElem_cons_zero, Act.put, List.setIfInBounds_toArray, List.set_cons_zero, List.set_cons_succ]
        refine wpAnyH_take (i := 3) (v := ?_) rfl (by kernel_rfl) (by kernel_rfl) (by kernel_rfl) (fun _ _ _ h => h) (Or.inl ⟨by rfl, ?_⟩) hHeld ?_
        rotate_left
        · (intro wS hSw; (try dsimp only at hSw); (try go_split_ands); go_simp; try with_reducible rfl)
        try simp only [List.getElem_toArray, List.getElem_cons_succ, List.getElem_cons_zero, Act.put, List.setIfInBounds_toArray, List.set_cons_zero, List.set_cons_succ]
        refine wpAnyH_take (i := 4) (v := ?_) rfl (by kernel_rfl) (by kernel_rfl) (by kernel_rfl) (fun _ _ _ h => h) (Or.inl ⟨by rfl, ?_⟩) hHeld ?_
        rotate_left
        · (intro wS hSw; (try dsimp only at hSw); (try go_split_ands); go_simp; try with_reducible rfl)
        try simp only [List.getElem_toArray, List.getElem_cons_succ, List.getElem_cons_zero, Act.put, List.setIfInBounds_toArray, List.set_cons_zero, List.set_cons_succ]
        refine wpAnyH_take (i := 5) (v := ?_) rfl (by kernel_rfl) (by kernel_rfl) (by kernel_rfl) (fun _ _ _ h => h) (Or.inl ⟨by rfl, ?_⟩) hHeld ?_
        rotate_left
        · (intro wS hSw; (try dsimp only at hSw); (try go_split_ands); go_simp; try with_reducible rfl)
        try simp only [List.getElem_toArray, List.getElem_cons_succ, List.getElem_cons_zero, Act.put, List.setIfInBounds_toArray, List.set_cons_zero, List.set_cons_succ]
        refine wpAnyH_ready (rs := [6]) (by kernel_rfl) (by simp) ?_
        refine AllReadyH.cons rfl (fun K hK => ?_) AllReadyH.nil
        go_simp
        (go_at_call 13; ((with_reducible refine (cm _).mono ?_); rintro e Y ⟨rfl, hbY⟩))
        refine hK.out _ _ ?_ (fun hNext => ?_)
        · exact ⟨pkc hbY hHeld.1, pkc hbY hHeld.2.1, pkc hbY hHeld.2.2.1, pkc hbY hHeld.2.2.2.1, pkc hbY hHeld.2.2.2.2.1, pkc hbY hHeld.2.2.2.2.2.1, pkc hbY hHeld.2.2.2.2.2.2.1, pkc hbY hHeld.2.2.2.2.2.2.2.1, pkc hbY hHeld.2.2.2.2.2.2.2.2.1, pkc hbY hHeld.2.2.2.2.2.2.2.2.2.1, pkc hbY hHeld.2.2.2.2.2.2.2.2.2.2.1, pb2 hHeld.2.2.2.2.2.2.2.2.2.2.2 hbY⟩
        clear hbY
        clear hK K hHeld
        have hHeld := hNext
        clear hNext
        try simp only [List.getElem_toArray, List.getElem_cons_succ, List.getElem_cons_zero, Act.put, List.setIfInBounds_toArray, List.set_cons_zero, List.set_cons_succ]
        refine wpAnyH_take (i := 7) (v := ?_) rfl (by kernel_rfl) (by kernel_rfl) (by kernel_rfl) (fun _ _ _ h => h) (Or.inl ⟨by rfl, ?_⟩) hHeld ?_
        rotate_left
        · (intro wS hSw; (try dsimp only at hSw); (try go_split_ands); go_simp; try with_reducible rfl)
        try simp only [List.getElem_toArray, List.getElem_cons_succ, List.getElem_cons_zero, Act.put, List.setIfInBounds_toArray, List.set_cons_zero, List.set_cons_succ]
        refine wpAnyH_take (i := 8) (v := ?_) rfl (by kernel_rfl) (by kernel_rfl) (by kernel_rfl) (fun _ _ _ h => h) (Or.inl ⟨by rfl, ?_⟩) hHeld ?_
        rotate_left
        · (intro wS hSw; (try dsimp only at hSw); (try go_split_ands); go_simp; try with_reducible rfl)
        try simp only [List.getElem_toArray, List.getElem_cons_succ, List.getElem_cons_zero, Act.put, List.setIfInBounds_toArray, List.set_cons_zero, List.set_cons_succ]
        refine wpAnyH_take (i := 9) (v := ?_) rfl (by kernel_rfl) (by kernel_rfl) (by kernel_rfl) (fun _ _ _ h => h) (Or.inl ⟨by rfl, ?_⟩) hHeld ?_
        rotate_left
        · (intro wS hSw; (try dsimp only at hSw); (try go_split_ands); go_simp; try with_reducible rfl)
        try simp only [List.getElem_toArray, List.getElem_cons_succ, List.getElem_cons_zero, Act.put, List.setIfInBounds_toArray, List.set_cons_zero, List.set_cons_succ]
        refine wpAnyH_take (i := 10) (v := ?_) rfl (by kernel_rfl) (by kernel_rfl) (by kernel_rfl) (fun _ _ _ h => h) (Or.inl ⟨by rfl, ?_⟩) hHeld ?_
        rotate_left
        · (intro wS hSw; (try dsimp only at hSw); (try go_split_ands); go_simp; try with_reducible rfl)
        try simp only [List.getElem_toArray, List.getElem_cons_succ, List.getElem_cons_zero, Act.put, List.setIfInBounds_toArray, List.set_cons_zero, List.set_cons_succ]
        refine wpAnyH_ready (rs := [11]) (by kernel_rfl) (by simp) ?_
        refine AllReadyH.cons rfl (fun K hK => ?_) AllReadyH.nil
        go_simp
        (go_at_call 49; ((with_reducible refine (cz _ (HPS2.out.below hHeld.2.2.2.2.2.2.2.2.2.2.2)).mono ?_); rintro e Y2 ⟨rfl, hbY⟩))
        refine hK.out _ _ ?_ (fun hNext => ?_)
        · exact ⟨pkc hbY hHeld.1, pkc hbY hHeld.2.1, pkc hbY hHeld.2.2.1, pkc hbY hHeld.2.2.2.1, pkc hbY hHeld.2.2.2.2.1, pkc hbY hHeld.2.2.2.2.2.1, pkc hbY hHeld.2.2.2.2.2.2.1, pkc hbY hHeld.2.2.2.2.2.2.2.1, pkc hbY hHeld.2.2.2.2.2.2.2.2.1, pkc hbY hHeld.2.2.2.2.2.2.2.2.2.1, pkc hbY hHeld.2.2.2.2.2.2.2.2.2.2.1, pb2 hHeld.2.2.2.2.2.2.2.2.2.2.2 hbY⟩
        clear hbY
        clear hK K hHeld
        have hHeld := hNext
        clear hNext
        try simp only [List.getElem_toArray, List.getElem_cons_succ, List.getElem_cons_zero, Act.put, List.setIfInBounds_toArray, List.set_cons_zero, List.set_cons_succ]
        refine wpAnyH_take (i := 12) (v := ?_) rfl (by kernel_rfl) (by kernel_rfl) (by kernel_rfl) (fun _ _ _ h => h) (Or.inl ⟨by rfl, ?_⟩) hHeld ?_
        rotate_left
        · (intro wS hSw; (try dsimp only at hSw); (try go_split_ands); go_simp; try with_reducible rfl)
        try simp only [List.getElem_toArray, List.getElem_cons_succ, List.getElem_cons_zero, Act.put, List.setIfInBounds_toArray, List.set_cons_zero, List.set_cons_succ]
        refine wpAnyH_take (i := 13) (v := ?_) rfl (by kernel_rfl) (by kernel_rfl) (by kernel_rfl) (fun _ _ _ h => h) (Or.inl ⟨by rfl, ?_⟩) hHeld ?_
        rotate_left
        · (intro wS hSw; (try dsimp only at hSw); (try go_split_ands); go_simp; try with_reducible rfl)
        try simp only [List.getElem_toArray, List.getElem_cons_succ, List.getElem_cons_zero, Act.put, List.setIfInBounds_toArray, List.set_cons_zero, List.set_cons_succ]
        refine wpAnyH_take (i := 14) (v := ?_) rfl (by kernel_rfl) (by kernel_rfl) (by kernel_rfl) (fun _ _ _ h => h) (Or.inl ⟨by rfl, ?_⟩) hHeld ?_
        rotate_left
        · (intro wS hSw; (try dsimp only at hSw); (try go_split_ands); go_simp; try with_reducible rfl)
        try simp only [List.getElem_toArray, List.getElem_cons_succ, List.getElem_cons_zero, Act.put, List.setIfInBounds_toArray, List.set_cons_zero, List.set_cons_succ]
        refine wpAnyH_take (i := 15) (v := ?_) rfl (by kernel_rfl) (by kernel_rfl) (by kernel_rfl) (fun _ _ _ h => h) (Or.inl ⟨by rfl, ?_⟩) hHeld ?_
        rotate_left
        · (intro wS hSw; (try dsimp only at hSw); (try go_split_ands); go_simp; try with_reducible rfl)
        try simp only [List.getElem_toArray, List.getElem_cons_succ, List.getElem_cons_zero, Act.put, List.setIfInBounds_toArray, List.set_cons_zero, List.set_cons_succ]
        refine wpAnyH_take (i := 16) (v := ?_) rfl (by kernel_rfl) (by kernel_rfl) (by kernel_rfl) (fun _ _ _ h => h) (Or.inl ⟨by rfl, ?_⟩) hHeld ?_
        rotate_left
        · (intro wS hSw; (try dsimp only at hSw); (try go_split_ands); go_simp; try with_reducible rfl)
        try simp only [List.getElem_toArray, List.getElem_cons_succ, List.getElem_cons_zero, Act.put, List.setIfInBounds_toArray, List.set_cons_zero, List.set_cons_succ]
        refine wpAnyH_take (i := 17) (v := ?_) rfl (by kernel_rfl) (by kernel_rfl) (by kernel_rfl) (fun _ _ _ h => h) (Or.inl ⟨by rfl, ?_⟩) hHeld ?_
        rotate_left
        · (intro wS hSw; (try dsimp only at hSw); (try go_split_ands); go_simp; try with_reducible rfl)
        try simp only [List.getElem_toArray, List.getElem_cons_succ, List.getElem_cons_zero, Act.put, List.setIfInBounds_toArray, List.set_cons_zero, List.set_cons_succ]
        refine wpAnyH_take (i := 18) (v := ?_) rfl (by kernel_rfl) (by kernel_rfl) (by kernel_rfl) (fun _ _ _ h => h) (Or.inl ⟨by rfl, ?_⟩) hHeld ?_
        rotate_left
        · (intro wS hSw; (try dsimp only at hSw); (try go_split_ands); go_simp; try with_reducible rfl)
        try simp only [List.getElem_toArray, List.getElem_cons_succ, List.getElem_cons_zero, Act.put, List.setIfInBounds_toArray, List.set_cons_zero, List.set_cons_succ]
        refine wpAnyH_take (i := 19) (v := undef) rfl (by kernel_rfl) (by kernel_rfl) (by kernel_rfl) (fun _ _ _ h => h) (Or.inr ⟨by rfl, rfl⟩) hHeld ?_
        try simp only [List.getElem_toArray, List.getElem_cons_succ, List.getElem_cons_zero, Act.put, List.setIfInBounds_toArray, List.set_cons_zero, List.set_cons_succ]
        refine wpAnyH_take (i := 20) (v := undef) rfl (by kernel_rfl) (by kernel_rfl) (by kernel_rfl) (fun _ _ _ h => h) (Or.inr ⟨by rfl, rfl⟩) hHeld ?_
        try simp only [List.getElem_toArray, List.getElem_cons_succ, List.getElem_cons_zero, Act.put, List.setIfInBounds_toArray, List.set_cons_zero, List.set_cons_succ]
        refine wpAnyH_take (i := 21) (v := undef) rfl (by kernel_rfl) (by kernel_rfl) (by kernel_rfl) (fun _ _ _ h => h) (Or.inr ⟨by rfl, rfl⟩) hHeld ?_
        try simp only [List.getElem_toArray, List.getElem_cons_succ, List.getElem_cons_zero, Act.put, List.setIfInBounds_toArray, List.set_cons_zero, List.set_cons_succ]
        refine wpAnyH_take (i := 22) (v := undef) rfl (by kernel_rfl) (by kernel_rfl) (by kernel_rfl) (fun _ _ _ h => h) (Or.inr ⟨by rfl, rfl⟩) hHeld ?_
        try simp only [List.getElem_toArray, List.getElem_cons_succ, List.getElem_cons_zero, Act.put, List.setIfInBounds_toArray, List.set_cons_zero, List.set_cons_succ]
        refine wpAnyH_take (i := 23) (v := undef) rfl (by kernel_rfl) (by kernel_rfl) (by kernel_rfl) (fun _ _ _ h => h) (Or.inr ⟨by rfl, rfl⟩) hHeld ?_
        try simp only [List.getElem_toArray, List.getElem_cons_succ, List.getElem_cons_zero, Act.put, List.setIfInBounds_toArray, List.set_cons_zero, List.set_cons_succ]
        refine wpAnyH_take (i := 24) (v := undef) rfl (by kernel_rfl) (by kernel_rfl) (by kernel_rfl) (fun _ _ _ h => h) (Or.inr ⟨by rfl, rfl⟩) hHeld ?_
        try simp only [List.getElem_toArray, List.getElem_cons_succ, List.getElem_cons_zero, Act.put, List.setIfInBounds_toArray, List.set_cons_zero, List.set_cons_succ]
        refine wpAnyH_take (i := 25) (v := undef) rfl (by kernel_rfl) (by kernel_rfl) (by kernel_rfl) (fun _ _ _ h => h) (Or.inr ⟨by rfl, rfl⟩) hHeld ?_
        try simp only [List.getElem_toArray, List.getElem_cons_succ, List.getElem_cons_zero, Act.put, List.setIfInBounds_toArray, List.set_cons_zero, List.set_cons_succ]
        refine wpAnyH_take (i := 26) (v := ?_) rfl (by kernel_rfl) (by kernel_rfl) (by kernel_rfl) (fun _ _ _ h => h) (Or.inl ⟨by rfl, ?_⟩) hHeld ?_
        rotate_left
        · (intro wS hSw; (try dsimp only at hSw); (try go_split_ands); go_simp; try with_reducible rfl)
        try simp only [List.getElem_toArray, List.getElem_cons_succ, List.getElem_cons_zero, Act.put, List.setIfInBounds_toArray, List.set_cons_zero, List.set_cons_succ]
        refine wpAnyH_take (i := 27) (v := ?_) rfl (by kernel_rfl) (by kernel_rfl) (by kernel_rfl) (fun _ _ _ h => h) (Or.inl ⟨by rfl, ?_⟩) hHeld ?_
        rotate_left
        · (intro wS hSw; (try dsimp only at hSw); (try go_split_ands); go_simp; try with_reducible rfl)
        try simp only [List.getElem_toArray, List.getElem_cons_succ, List.getElem_cons_zero, Act.put, List.setIfInBounds_toArray, List.set_cons_zero, List.set_cons_succ]
        refine wpAnyH_done (by kernel_rfl) ?_ _
        go_wp2_with (fail)

        have hz1 : ¬ w.heap.size = wr.heap.size := by have := HLW.out; omega
        have hz2 : ¬ w.heap.size + 1 = wr.heap.size := by have := HLW.out; omega
        have hz3 : ¬ wr.heap.size = w.heap.size := by have := HLW.out; omega
        have hz4 : ¬ wr.heap.size = w.heap.size + 1 := by have := HLW.out; omega
        have hk := hHeld.2.2.2.2.2.2.2.2.2.2.2
        have HML4 := Lib.hid (HML2.out.keep hk)
        have HEB4 := Lib.hid (HEB2.out.keep hk)
        clear hk hHeld HML2 HEB2 HPS2 HNR q0 q1 q2 q3 q4 q5 q6 q7 q8 q9 q10 q11
        rename_i w4
        have q0 := HEB4.out.at_ 0 _ rfl
        have q1 := HEB4.out.at_ 1 _ rfl
        have q2 := HEB4.out.at_ 2 _ rfl
        have q3 := HEB4.out.at_ 3 _ rfl
        have q4 := HEB4.out.at_ 4 _ rfl
        have q5 := HEB4.out.at_ 5 _ rfl
        obtain ⟨⟨xc, xk, xh, xv⟩, z0, z1, z2, z3, -⟩ := HML4.out.ops tn htn
        dsimp only at z0 z1 z2 z3
        have z4 := HML4.out.on tn htn
        have zf := HML4.out.f1 tn
        have zg := HML4.out.f2
        have zg0 := zg (tn * 4)
        have zg1 := zg (tn * 4 + 1)
        have zg2 := zg (tn * 4 + 2)
        have zg3 := zg (tn * 4 + 3)
        clear zg HEB4
        go_region
        have HF := Lib.hid (HML4.out.beg tn htn _ rfl HYB.out)
        unfold W5 at HF
        dsimp only at HF
        clear z0 z1 z2 z3 z4 zf zg0 zg1 zg2 zg3 q0 q1 q2 q3 q4 q5
        go_wp2_with (fail)
        go_roundw
        case rel => exact ⟨n + 1, _, by have := HLT.out; omega, by go_num, HF.out.keep ((Below.refl _ _).drew)⟩
        case measure => have := HLT.out; simp [intOf]; omega
      · -- a return
        have HNO := Lib.hid (mt_none (HSTP.out.trans (stp_no (fun x => hX0 x.2.1) (fun x => by cases x.1))) HLT.out)
        go_quiet (fail)
        go_wp2_with (fail)
        go_ret
        exact ⟨by rw [HNO.out]; rfl, below_drewN HML.out.be _⟩
end Go.Proofs.Ytijepfabkalcoaa
