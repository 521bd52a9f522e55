/- SoloOne (P17.3, T2, T3): two trees of the same pairs, of whatever shapes (at most 450 nodes and 2000 pairs), under whatever policies, tell the same to any operations (60 at most), and hold the same pairs; those of one map; both may be. No condition but that of the form. -/
import Derived.Test.YtpdliokpbnpppaaGreatRows
import Derived.Test.YtpdliokpbnpppaaGreatSlU
import Derived.Test.YtpdliokpbnpppaaGreatAeK
import Derived.Test.YtpdliokpbnpppaaGreatLrD
import Derived.Test.YtpdliokpbnpppaaGreatLfO
import Derived.Test.YtpdliokpbnpppaaGreatPoG
import Derived.Test.YtpdliokpbnpppaaGreatTsF
import Derived.OwnWalk
import Derived.LoopTactic
import Derived.WalkKit
import Derived.ProofKit
import Derived.OpenShut
import Derived.ChangeOld
import Derived.Below
namespace Go.Proofs.YtpdliokpbnpppaaGreat.soloOne
open Go.ChangeShapes Go.WideShapes Go.ChangeAt Go.RowKit
open List renaming getElem_toArray → lAq, getElem_cons_succ → lBq, getElem_cons_zero → lCq, setIfInBounds_toArray → lDq, set_cons_zero → lEq, set_cons_succ → lFq
set_option linter.all false
theorem own : ownKnob Tryz.prog.godebug = none := by kernel_rfl
theorem laidOut : laidOutB Tryz.prog = true := by kernel_rfl
/-- Two trees and two policies in their boxes. -/
structure LB (w : World) (h2 l2 c2 u2 m2 h3 l3 c3 u3 m3 : Int) (t : Int) (a : Option Addr) (n c : Nat) (u : Int) (b : Option Addr) (m d : Nat) (W : World) : Prop where
  x : Tq W w.heap.size t a n c
  y : Tq W (w.heap.size + 1) u b m d
  p : Bk W (w.heap.size + 1 + 1) [.int .i64 h2, .int .i64 l2, .int .i64 c2, .int .i64 u2, .int .i64 m2]
  q : Bk W (w.heap.size + 1 + 1 + 1) [.int .i64 h3, .int .i64 l3, .int .i64 c3, .int .i64 u3, .int .i64 m3]
  b : Below w.heap.size w W
section
variable {w W W' : World} {h2 l2 c2 u2 m2 h3 l3 c3 u3 m3 : Int} {t : Int} {a : Option Addr} {n c : Nat} {u : Int} {b : Option Addr} {m d : Nat}
theorem lb_keep (H : LB w h2 l2 c2 u2 m2 h3 l3 c3 u3 m3 t a n c u b m d W) (hb : Below W.heap.size W W') : LB w h2 l2 c2 u2 m2 h3 l3 c3 u3 m3 t a n c u b m d W' := ⟨H.x.keep hb, H.y.keep hb, H.p.keep hb, H.q.keep hb, bel2 H.b hb⟩
theorem lb_new (w : World) (h2 l2 c2 u2 m2 h3 l3 c3 u3 m3 : Int) (t : Int) (a : Option Addr) (n c : Nat) (u : Int) (b : Option Addr) (m d : Nat) : LB w h2 l2 c2 u2 m2 h3 l3 c3 u3 m3 t a n c u b m d ((((w.alloc (.cells #[.int .i64 t, .slice a n c] 24)).alloc (.cells #[.int .i64 u, .slice b m d] 24)).alloc (.cells #[.int .i64 h2, .int .i64 l2, .int .i64 c2, .int .i64 u2, .int .i64 m2] 26)).alloc (.cells #[.int .i64 h3, .int .i64 l3, .int .i64 c3, .int .i64 u3, .int .i64 m3] 26)) := by
  refine ⟨(((Tq.new w _ _ _ _).keep (al1 _)).keep (al1 _)).keep (al1 _), ?_, ?_, ?_, bel1 (bel1 (bel1 (al1 _) _) _) _⟩
  · have h := ((Tq.new (w.alloc (.cells #[.int .i64 t, .slice a n c] 24)) u b m d).keep (al1 (.cells #[.int .i64 h2, .int .i64 l2, .int .i64 c2, .int .i64 u2, .int .i64 m2] 26))).keep (al1 (.cells #[.int .i64 h3, .int .i64 l3, .int .i64 c3, .int .i64 u3, .int .i64 m3] 26))
    simp only [World.size_alloc] at h; exact h
  · have h := (Bk.new ((w.alloc (.cells #[.int .i64 t, .slice a n c] 24)).alloc (.cells #[.int .i64 u, .slice b m d] 24)) #[.int .i64 h2, .int .i64 l2, .int .i64 c2, .int .i64 u2, .int .i64 m2] 26).past (.cells #[.int .i64 h3, .int .i64 l3, .int .i64 c3, .int .i64 u3, .int .i64 m3] 26)
    simp only [World.size_alloc] at h; exact h
  · have h := Bk.new (((w.alloc (.cells #[.int .i64 t, .slice a n c] 24)).alloc (.cells #[.int .i64 u, .slice b m d] 24)).alloc (.cells #[.int .i64 h2, .int .i64 l2, .int .i64 c2, .int .i64 u2, .int .i64 m2] 26)) #[.int .i64 h3, .int .i64 l3, .int .i64 c3, .int .i64 u3, .int .i64 m3] 26
    simp only [World.size_alloc] at h; exact h
/-- The second tree's box is written. -/
theorem lb_put (H : LB w h2 l2 c2 u2 m2 h3 l3 c3 u3 m3 t a n c u b m d W) (u' : Int) (b' : Option Addr) (m' d' : Nat) : LB w h2 l2 c2 u2 m2 h3 l3 c3 u3 m3 t a n c u' b' m' d' ((W.setCell ⟨w.heap.size + 1, 0, none⟩ (.int .i64 u')).setCell ⟨w.heap.size + 1, 1, none⟩ (.slice b' m' d')) := by
  have hO : Only (fun j => j = w.heap.size + 1) W ((W.setCell ⟨w.heap.size + 1, 0, none⟩ (.int .i64 u')).setCell ⟨w.heap.size + 1, 1, none⟩ (.slice b' m' d')) := ((Only.refl _ W).setCell (S := fun j => j = w.heap.size + 1) (p := ⟨w.heap.size + 1, 0, none⟩) (.inl rfl) _).setCell (S := fun j => j = w.heap.size + 1) (p := ⟨w.heap.size + 1, 1, none⟩) (.inl rfl) _
  exact ⟨H.x.only hO (fun e => by have : w.heap.size = w.heap.size + 1 := e; omega), H.y.set2 _ _ _ _, (H.p.other _ (by omega)).other _ (by omega), (H.q.other _ (by omega)).other _ (by omega), ret_below H.b (by omega) _ _⟩
theorem lb_put0 (H : LB w h2 l2 c2 u2 m2 h3 l3 c3 u3 m3 t a n c u b m d W) (t' : Int) (a' : Option Addr) (n' c' : Nat) : LB w h2 l2 c2 u2 m2 h3 l3 c3 u3 m3 t' a' n' c' u b m d ((W.setCell ⟨w.heap.size, 0, none⟩ (.int .i64 t')).setCell ⟨w.heap.size, 1, none⟩ (.slice a' n' c')) := by
  have hO : Only (fun j => j = w.heap.size) W ((W.setCell ⟨w.heap.size, 0, none⟩ (.int .i64 t')).setCell ⟨w.heap.size, 1, none⟩ (.slice a' n' c')) := ((Only.refl _ W).setCell (S := fun j => j = w.heap.size) (p := ⟨w.heap.size, 0, none⟩) (.inl rfl) _).setCell (S := fun j => j = w.heap.size) (p := ⟨w.heap.size, 1, none⟩) (.inl rfl) _
  exact ⟨H.x.set2 _ _ _ _, H.y.only hO (fun e => by have : w.heap.size + 1 = w.heap.size := e; omega), (H.p.other _ (by omega)).other _ (by omega), (H.q.other _ (by omega)).other _ (by omega), ret_below H.b (by omega) _ _⟩
end
/-- A tree of the loop. -/
structure Go1 (L : List Pr) (B : Nat) (t : Int) (N : List Nd) (s : Sh) : Prop where
  t : Tr N s t
  a : allP N s.lvs = L
  l : N.length ≤ B
theorem Go1.small {L : List Pr} {B : Nat} {t : Int} {N : List Nd} {s : Sh} (h : Go1 L B t N s) (hl : L.length ≤ 1000000) : Small N := tr_small h.t (by rw [h.a]; omega) h.t.le
/-- A world of the loop. -/
structure LW (w : World) (h2 l2 c2 u2 m2 h3 l3 c3 u3 m3 : Int) (L : List Pr) (wr : World) (t : Int) (a : Option Addr) (c : Nat) (N : List Nd) (u : Int) (b : Option Addr) (d : Nat) (M : List Nd) (al : Option Addr) (cl : Nat) : Prop where
  k : LB w h2 l2 c2 u2 m2 h3 l3 c3 u3 m3 t a N.length c u b M.length d wr
  n : Ns wr a c N
  m : Ns wr b d M
  l : Prs wr al cl L
set_option maxRecDepth 100000 in
set_option maxHeartbeats 12800000 in
theorem walk_big (t0 : Int) (a0 : Option Addr) (cap0 : Nat) (N0 : List Nd) (t1 : Int) (a1 : Option Addr) (cap1 : Nat) (N1 : List Nd) (h2 l2 c2 u2 m2 h3 l3 c3 u3 m3 : Int) (a4 : Option Addr) (cap4 : Nat) (z4 : List OpD) (w : World) (w0 : Ns w a0 cap0 N0) (s0 : Mid N0) (w1 : Ns w a1 cap1 N1) (s1 : Mid N1) (w4 : Ops w a4 cap4 z4) (e0 e1 : Int) (HE0 : (Lgt N0 → e0 = 0) ∧ (¬ Lgt N0 → e0 = 1)) (HE1 : (Lgt N1 → e1 = 0) ∧ (¬ Lgt N1 → e1 = 1)) (hs : decide (0 < IntKind.i64.wrap (e0 + e1)) = true) :
    Calls Tryz.prog 4 #[.agg #[.int .i64 t0, .slice a0 N0.length cap0], .agg #[.int .i64 t1, .slice a1 N1.length cap1], .agg #[.int .i64 h2, .int .i64 l2, .int .i64 c2, .int .i64 u2, .int .i64 m2], .agg #[.int .i64 h3, .int .i64 l3, .int .i64 c3, .int .i64 u3, .int .i64 m3], .slice a4 z4.length cap4] w fun e w' => e = .returned (.bool true) ∧ Below w.heap.size w w' := by
  have K1 := Lib.hid (lb_new w h2 l2 c2 u2 m2 h3 l3 c3 u3 m3 t0 a0 N0.length cap0 t1 a1 N1.length cap1)
  have caw := fun W => sawake_any W
  have cl0 := fun W (hb : Below w.heap.size w W) => light_any t0 a0 cap0 N0 W (w0.keep hb) s0 e0 HE0.1 HE0.2
  have cl1 := fun W (hb : Below w.heap.size w W) => light_any t1 a1 cap1 N1 W (w1.keep hb) s1 e1 HE1.1 HE1.2
  unfold trv at cl0 cl1
  clear w0 s0 w1 s1 w4 HE0 HE1
  go_enter Tryz.func4, Tryz.ntmps4
  go_upto_region 1 with (fail)
  refine wp_region_held_drew (S := (fun W => W.cell? ⟨w.heap.size, 0, none⟩ = some (.int .i64 t0) ∧ W.cell? ⟨w.heap.size, 1, none⟩ = some (.slice a0 N0.length cap0) ∧ W.cell? ⟨w.heap.size + 1, 0, none⟩ = some (.int .i64 t1) ∧ W.cell? ⟨w.heap.size + 1, 1, none⟩ = some (.slice a1 N1.length cap1) ∧ LB w h2 l2 c2 u2 m2 h3 l3 c3 u3 m3 t0 a0 N0.length cap0 t1 a1 N1.length cap1 W)) (by kernel_rfl) (by first | exact ⟨K1.out.x.c0, K1.out.x.c1, K1.out.y.c0, K1.out.y.c1, K1.out⟩ | exact ⟨(lb_keep K1.out (Below.refl _ _).drew).x.c0, (lb_keep K1.out (Below.refl _ _).drew).x.c1, (lb_keep K1.out (Below.refl _ _).drew).y.c0, (lb_keep K1.out (Below.refl _ _).drew).y.c1, (lb_keep K1.out (Below.refl _ _).drew)⟩) (fun hHeld => ?_)
  refine tk 0 ?_ rfl (by kernel_rfl) (fun _ _ _ h => h) ⟨by rfl, ?_⟩ hHeld ?_; rotate_left
  · (intro wS hSw; (try dsimp only at hSw); (try go_split_ands); go_simp; try with_reducible rfl)
  try simp only [lAq,lBq,lCq,Act.put,lDq,lEq,lFq]
  refine tk 2 ?_ rfl (by kernel_rfl) (fun _ _ _ h => h) ⟨by rfl, ?_⟩ hHeld ?_; rotate_left
  · (intro wS hSw; (try dsimp only at hSw); (try go_split_ands); go_simp; try with_reducible rfl)
  try simp only [lAq,lBq,lCq,Act.put,lDq,lEq,lFq]
  refine wpAnyH_ready (rs := [1]) (by kernel_rfl) (by simp) ?_
  refine AllReadyH.cons rfl (fun K hK => ?_) AllReadyH.nil
  go_simp
  (go_at_call 5; ((with_reducible refine (cl0 _ hHeld.2.2.2.2.b).mono ?_); rintro e X ⟨rfl, hX⟩))
  refine hK.out _ _ ?_ (fun hNext => ?_)
  · exact ⟨(lb_keep hHeld.2.2.2.2 hX).x.c0, (lb_keep hHeld.2.2.2.2 hX).x.c1, (lb_keep hHeld.2.2.2.2 hX).y.c0, (lb_keep hHeld.2.2.2.2 hX).y.c1, (lb_keep hHeld.2.2.2.2 hX)⟩
  have K2 := Lib.hid (lb_keep hHeld.2.2.2.2 hX)
  clear hX
  clear hK K hHeld
  have hHeld := hNext
  clear hNext
  try simp only [lAq,lBq,lCq,Act.put,lDq,lEq,lFq]
  refine wpAnyH_ready (rs := [3]) (by kernel_rfl) (by simp) ?_
  refine AllReadyH.cons rfl (fun K hK => ?_) AllReadyH.nil
  go_simp
  (go_at_call 5; ((with_reducible refine (cl1 _ hHeld.2.2.2.2.b).mono ?_); rintro e X ⟨rfl, hX⟩))
  refine hK.out _ _ ?_ (fun hNext => ?_)
  · exact ⟨(lb_keep hHeld.2.2.2.2 hX).x.c0, (lb_keep hHeld.2.2.2.2 hX).x.c1, (lb_keep hHeld.2.2.2.2 hX).y.c0, (lb_keep hHeld.2.2.2.2 hX).y.c1, (lb_keep hHeld.2.2.2.2 hX)⟩
  have K2 := Lib.hid (lb_keep hHeld.2.2.2.2 hX)
  clear hX
  clear hK K hHeld
  have hHeld := hNext
  clear hNext
  try simp only [lAq,lBq,lCq,Act.put,lDq,lEq,lFq]
  refine tk 4 ?_ rfl (by kernel_rfl) (fun _ _ _ h => h) ⟨by rfl, ?_⟩ hHeld ?_; rotate_left
  · (intro wS hSw; (try dsimp only at hSw); (try go_split_ands); go_simp; try with_reducible rfl)
  try simp only [lAq,lBq,lCq,Act.put,lDq,lEq,lFq]
  refine tk 5 ?_ rfl (by kernel_rfl) (fun _ _ _ h => h) ⟨by rfl, ?_⟩ hHeld ?_; rotate_left
  · (intro wS hSw; (try dsimp only at hSw); (try go_split_ands); go_simp; try with_reducible rfl)
  try simp only [lAq,lBq,lCq,Act.put,lDq,lEq,lFq]
  refine tk 6 ?_ rfl (by kernel_rfl) (fun _ _ _ h => h) ⟨by rfl, ?_⟩ hHeld ?_; rotate_left
  · (intro wS hSw; (try dsimp only at hSw); (try go_split_ands); go_simp; try with_reducible rfl)
  try simp only [lAq,lBq,lCq,Act.put,lDq,lEq,lFq]
  refine wpAnyH_take (i := 7) (v := undef) rfl (by kernel_rfl) (by kernel_rfl) (by kernel_rfl) (fun _ _ _ h => h) (Or.inr ⟨by rfl, rfl⟩) hHeld ?_
  try simp only [lAq,lBq,lCq,Act.put,lDq,lEq,lFq]
  refine wpAnyH_take (i := 8) (v := undef) rfl (by kernel_rfl) (by kernel_rfl) (by kernel_rfl) (fun _ _ _ h => h) (Or.inr ⟨by rfl, rfl⟩) hHeld ?_
  try simp only [lAq,lBq,lCq,Act.put,lDq,lEq,lFq]
  refine wpAnyH_take (i := 9) (v := undef) rfl (by kernel_rfl) (by kernel_rfl) (by kernel_rfl) (fun _ _ _ h => h) (Or.inr ⟨by rfl, rfl⟩) hHeld ?_
  try simp only [lAq,lBq,lCq,Act.put,lDq,lEq,lFq]
  refine tk 10 ?_ rfl (by kernel_rfl) (fun _ _ _ h => h) ⟨by rfl, ?_⟩ hHeld ?_; rotate_left
  · (intro wS hSw; (try dsimp only at hSw); (try go_split_ands); go_simp; try with_reducible rfl)
  try simp only [lAq,lBq,lCq,Act.put,lDq,lEq,lFq]
  refine tk 11 ?_ rfl (by kernel_rfl) (fun _ _ _ h => h) ⟨by rfl, ?_⟩ hHeld ?_; rotate_left
  · (intro wS hSw; (try dsimp only at hSw); (try go_split_ands); go_simp; try with_reducible rfl)
  try simp only [lAq,lBq,lCq,Act.put,lDq,lEq,lFq]
  refine wpAnyH_take (i := 12) (v := undef) rfl (by kernel_rfl) (by kernel_rfl) (by kernel_rfl) (fun _ _ _ h => h) (Or.inr ⟨by rfl, rfl⟩) hHeld ?_
  try simp only [lAq,lBq,lCq,Act.put,lDq,lEq,lFq]
  refine wpAnyH_take (i := 13) (v := undef) rfl (by kernel_rfl) (by kernel_rfl) (by kernel_rfl) (fun _ _ _ h => h) (Or.inr ⟨by rfl, rfl⟩) hHeld ?_
  try simp only [lAq,lBq,lCq,Act.put,lDq,lEq,lFq]
  refine wpAnyH_take (i := 14) (v := undef) rfl (by kernel_rfl) (by kernel_rfl) (by kernel_rfl) (fun _ _ _ h => h) (Or.inr ⟨by rfl, rfl⟩) hHeld ?_
  try simp only [lAq,lBq,lCq,Act.put,lDq,lEq,lFq]
  refine wpAnyH_take (i := 15) (v := undef) rfl (by kernel_rfl) (by kernel_rfl) (by kernel_rfl) (fun _ _ _ h => h) (Or.inr ⟨by rfl, rfl⟩) hHeld ?_
  try simp only [lAq,lBq,lCq,Act.put,lDq,lEq,lFq]
  refine tk 16 ?_ rfl (by kernel_rfl) (fun _ _ _ h => h) ⟨by rfl, ?_⟩ hHeld ?_; rotate_left
  · (intro wS hSw; (try dsimp only at hSw); (try go_split_ands); go_simp; try with_reducible rfl)
  try simp only [lAq,lBq,lCq,Act.put,lDq,lEq,lFq]
  refine wpAnyH_done (by kernel_rfl) ?_ _
  clear hHeld
  go_wp2_with (go_at_call 6; ((with_reducible refine (caw _).mono ?_); clear caw; rintro e WA ⟨rfl, hbA⟩; have HA := Lib.hid (bel2 K2.out.b hbA); clear hbA))
  go_ret
  exact ⟨rfl, HA.out⟩
set_option maxRecDepth 100000 in
set_option maxHeartbeats 12800000 in
theorem walk_long (t0 : Int) (a0 : Option Addr) (cap0 : Nat) (N0 : List Nd) (t1 : Int) (a1 : Option Addr) (cap1 : Nat) (N1 : List Nd) (h2 l2 c2 u2 m2 h3 l3 c3 u3 m3 : Int) (a4 : Option Addr) (cap4 : Nat) (z4 : List OpD) (w : World) (w0 : Ns w a0 cap0 N0) (s0 : Mid N0) (w1 : Ns w a1 cap1 N1) (s1 : Mid N1) (w4 : Ops w a4 cap4 z4) (hL0 : Lgt N0) (hL1 : Lgt N1) (hn : 60 < z4.length) :
    Calls Tryz.prog 4 #[.agg #[.int .i64 t0, .slice a0 N0.length cap0], .agg #[.int .i64 t1, .slice a1 N1.length cap1], .agg #[.int .i64 h2, .int .i64 l2, .int .i64 c2, .int .i64 u2, .int .i64 m2], .agg #[.int .i64 h3, .int .i64 l3, .int .i64 c3, .int .i64 u3, .int .i64 m3], .slice a4 z4.length cap4] w fun e w' => e = .returned (.bool true) ∧ Below w.heap.size w w' := by
  have K1 := Lib.hid (lb_new w h2 l2 c2 u2 m2 h3 l3 c3 u3 m3 t0 a0 N0.length cap0 t1 a1 N1.length cap1)
  have caw := fun W => sawake_any W
  have cl0 := fun W (hb : Below w.heap.size w W) => light_any t0 a0 cap0 N0 W (w0.keep hb) s0 0 (fun _ => rfl) (fun h => absurd hL0 h)
  have cl1 := fun W (hb : Below w.heap.size w W) => light_any t1 a1 cap1 N1 W (w1.keep hb) s1 0 (fun _ => rfl) (fun h => absurd hL1 h)
  unfold trv at cl0 cl1
  have hn2 : decide ((60 : Int) < (z4.length : Int)) = true := decide_eq_true (by omega)
  have hz0 : IntKind.i64.wrap 0 = 0 := by decide
  clear w0 s0 w1 s1 w4 hL0 hL1
  go_enter Tryz.func4, Tryz.ntmps4
  go_upto_region 1 with (fail)
  refine wp_region_held_drew (S := (fun W => W.cell? ⟨w.heap.size, 0, none⟩ = some (.int .i64 t0) ∧ W.cell? ⟨w.heap.size, 1, none⟩ = some (.slice a0 N0.length cap0) ∧ W.cell? ⟨w.heap.size + 1, 0, none⟩ = some (.int .i64 t1) ∧ W.cell? ⟨w.heap.size + 1, 1, none⟩ = some (.slice a1 N1.length cap1) ∧ LB w h2 l2 c2 u2 m2 h3 l3 c3 u3 m3 t0 a0 N0.length cap0 t1 a1 N1.length cap1 W)) (by kernel_rfl) (by first | exact ⟨K1.out.x.c0, K1.out.x.c1, K1.out.y.c0, K1.out.y.c1, K1.out⟩ | exact ⟨(lb_keep K1.out (Below.refl _ _).drew).x.c0, (lb_keep K1.out (Below.refl _ _).drew).x.c1, (lb_keep K1.out (Below.refl _ _).drew).y.c0, (lb_keep K1.out (Below.refl _ _).drew).y.c1, (lb_keep K1.out (Below.refl _ _).drew)⟩) (fun hHeld => ?_)
  refine tk 0 ?_ rfl (by kernel_rfl) (fun _ _ _ h => h) ⟨by rfl, ?_⟩ hHeld ?_; rotate_left
  · (intro wS hSw; (try dsimp only at hSw); (try go_split_ands); go_simp; try with_reducible rfl)
  try simp only [lAq,lBq,lCq,Act.put,lDq,lEq,lFq]
  refine tk 2 ?_ rfl (by kernel_rfl) (fun _ _ _ h => h) ⟨by rfl, ?_⟩ hHeld ?_; rotate_left
  · (intro wS hSw; (try dsimp only at hSw); (try go_split_ands); go_simp; try with_reducible rfl)
  try simp only [lAq,lBq,lCq,Act.put,lDq,lEq,lFq]
  refine wpAnyH_ready (rs := [1]) (by kernel_rfl) (by simp) ?_
  refine AllReadyH.cons rfl (fun K hK => ?_) AllReadyH.nil
  go_simp
  (go_at_call 5; ((with_reducible refine (cl0 _ hHeld.2.2.2.2.b).mono ?_); rintro e X ⟨rfl, hX⟩))
  refine hK.out _ _ ?_ (fun hNext => ?_)
  · exact ⟨(lb_keep hHeld.2.2.2.2 hX).x.c0, (lb_keep hHeld.2.2.2.2 hX).x.c1, (lb_keep hHeld.2.2.2.2 hX).y.c0, (lb_keep hHeld.2.2.2.2 hX).y.c1, (lb_keep hHeld.2.2.2.2 hX)⟩
  have K2 := Lib.hid (lb_keep hHeld.2.2.2.2 hX)
  clear hX
  clear hK K hHeld
  have hHeld := hNext
  clear hNext
  try simp only [lAq,lBq,lCq,Act.put,lDq,lEq,lFq]
  refine wpAnyH_ready (rs := [3]) (by kernel_rfl) (by simp) ?_
  refine AllReadyH.cons rfl (fun K hK => ?_) AllReadyH.nil
  go_simp
  (go_at_call 5; ((with_reducible refine (cl1 _ hHeld.2.2.2.2.b).mono ?_); rintro e X ⟨rfl, hX⟩))
  refine hK.out _ _ ?_ (fun hNext => ?_)
  · exact ⟨(lb_keep hHeld.2.2.2.2 hX).x.c0, (lb_keep hHeld.2.2.2.2 hX).x.c1, (lb_keep hHeld.2.2.2.2 hX).y.c0, (lb_keep hHeld.2.2.2.2 hX).y.c1, (lb_keep hHeld.2.2.2.2 hX)⟩
  have K2 := Lib.hid (lb_keep hHeld.2.2.2.2 hX)
  clear hX
  clear hK K hHeld
  have hHeld := hNext
  clear hNext
  try simp only [lAq,lBq,lCq,Act.put,lDq,lEq,lFq]
  refine tk 4 ?_ rfl (by kernel_rfl) (fun _ _ _ h => h) ⟨by rfl, ?_⟩ hHeld ?_; rotate_left
  · (intro wS hSw; (try dsimp only at hSw); (try go_split_ands); go_simp; try with_reducible rfl)
  try simp only [lAq,lBq,lCq,Act.put,lDq,lEq,lFq]
  refine tk 5 ?_ rfl (by kernel_rfl) (fun _ _ _ h => h) ⟨by rfl, ?_⟩ hHeld ?_; rotate_left
  · (intro wS hSw; (try dsimp only at hSw); (try go_split_ands); go_simp; try with_reducible rfl)
  try simp only [lAq,lBq,lCq,Act.put,lDq,lEq,lFq]
  refine tk 6 ?_ rfl (by kernel_rfl) (fun _ _ _ h => h) ⟨by rfl, ?_⟩ hHeld ?_; rotate_left
  · (intro wS hSw; (try dsimp only at hSw); (try go_split_ands); go_simp; try with_reducible rfl)
  try simp only [lAq,lBq,lCq,Act.put,lDq,lEq,lFq]
  refine tk 7 ?_ rfl (by kernel_rfl) (fun _ _ _ h => h) ⟨by rfl, ?_⟩ hHeld ?_; rotate_left
  · (intro wS hSw; (try dsimp only at hSw); (try go_split_ands); go_simp; try with_reducible rfl)
  try simp only [lAq,lBq,lCq,Act.put,lDq,lEq,lFq]
  refine tk 8 ?_ rfl (by kernel_rfl) (fun _ _ _ h => h) ⟨by rfl, ?_⟩ hHeld ?_; rotate_left
  · (intro wS hSw; (try dsimp only at hSw); (try go_split_ands); go_simp; try with_reducible rfl)
  try simp only [lAq,lBq,lCq,Act.put,lDq,lEq,lFq]
  refine tk 9 ?_ rfl (by kernel_rfl) (fun _ _ _ h => h) ⟨by rfl, ?_⟩ hHeld ?_; rotate_left
  · (intro wS hSw; (try dsimp only at hSw); (try go_split_ands); go_simp; try with_reducible rfl)
  try simp only [lAq,lBq,lCq,Act.put,lDq,lEq,lFq]
  refine tk 10 ?_ rfl (by kernel_rfl) (fun _ _ _ h => h) ⟨by rfl, ?_⟩ hHeld ?_; rotate_left
  · (intro wS hSw; (try dsimp only at hSw); (try go_split_ands); go_simp; try with_reducible rfl)
  try simp only [lAq,lBq,lCq,Act.put,lDq,lEq,lFq]
  refine tk 11 ?_ rfl (by kernel_rfl) (fun _ _ _ h => h) ⟨by rfl, ?_⟩ hHeld ?_; rotate_left
  · (intro wS hSw; (try dsimp only at hSw); (try go_split_ands); go_simp; try with_reducible rfl)
  try simp only [lAq,lBq,lCq,Act.put,lDq,lEq,lFq]
  refine wpAnyH_take (i := 12) (v := undef) rfl (by kernel_rfl) (by kernel_rfl) (by kernel_rfl) (fun _ _ _ h => h) (Or.inr ⟨by rfl, rfl⟩) hHeld ?_
  try simp only [lAq,lBq,lCq,Act.put,lDq,lEq,lFq]
  refine wpAnyH_take (i := 13) (v := undef) rfl (by kernel_rfl) (by kernel_rfl) (by kernel_rfl) (fun _ _ _ h => h) (Or.inr ⟨by rfl, rfl⟩) hHeld ?_
  try simp only [lAq,lBq,lCq,Act.put,lDq,lEq,lFq]
  refine wpAnyH_take (i := 14) (v := undef) rfl (by kernel_rfl) (by kernel_rfl) (by kernel_rfl) (fun _ _ _ h => h) (Or.inr ⟨by rfl, rfl⟩) hHeld ?_
  try simp only [lAq,lBq,lCq,Act.put,lDq,lEq,lFq]
  refine wpAnyH_take (i := 15) (v := undef) rfl (by kernel_rfl) (by kernel_rfl) (by kernel_rfl) (fun _ _ _ h => h) (Or.inr ⟨by rfl, rfl⟩) hHeld ?_
  try simp only [lAq,lBq,lCq,Act.put,lDq,lEq,lFq]
  refine tk 16 ?_ rfl (by kernel_rfl) (fun _ _ _ h => h) ⟨by rfl, ?_⟩ hHeld ?_; rotate_left
  · (intro wS hSw; (try dsimp only at hSw); (try go_split_ands); go_simp; try with_reducible rfl)
  try simp only [lAq,lBq,lCq,Act.put,lDq,lEq,lFq]
  refine wpAnyH_done (by kernel_rfl) ?_ _
  clear hHeld
  go_wp2_with (go_at_call 6; ((with_reducible refine (caw _).mono ?_); clear caw; rintro e WA ⟨rfl, hbA⟩; have HA := Lib.hid (bel2 K2.out.b hbA); clear hbA))
  go_ret
  exact ⟨rfl, HA.out⟩
set_option maxRecDepth 100000 in
set_option maxHeartbeats 12800000 in
theorem walk_no (t0 : Int) (a0 : Option Addr) (cap0 : Nat) (N0 : List Nd) (t1 : Int) (a1 : Option Addr) (cap1 : Nat) (N1 : List Nd) (h2 l2 c2 u2 m2 h3 l3 c3 u3 m3 : Int) (a4 : Option Addr) (cap4 : Nat) (z4 : List OpD) (w : World) (w0 : Ns w a0 cap0 N0) (s0 : Mid N0) (w1 : Ns w a1 cap1 N1) (s1 : Mid N1) (w4 : Ops w a4 cap4 z4) (hL0 : Lgt N0) (hL1 : Lgt N1) (hn : ¬ 60 < z4.length) (hT : ∀ s, ¬ Tr N0 s t0) :
    Calls Tryz.prog 4 #[.agg #[.int .i64 t0, .slice a0 N0.length cap0], .agg #[.int .i64 t1, .slice a1 N1.length cap1], .agg #[.int .i64 h2, .int .i64 l2, .int .i64 c2, .int .i64 u2, .int .i64 m2], .agg #[.int .i64 h3, .int .i64 l3, .int .i64 c3, .int .i64 u3, .int .i64 m3], .slice a4 z4.length cap4] w fun e w' => e = .returned (.bool true) ∧ Below w.heap.size w w' := by
  have K1 := Lib.hid (lb_new w h2 l2 c2 u2 m2 h3 l3 c3 u3 m3 t0 a0 N0.length cap0 t1 a1 N1.length cap1)
  have caw := fun W => sawake_any W
  have cl0 := fun W (hb : Below w.heap.size w W) => light_any t0 a0 cap0 N0 W (w0.keep hb) s0 0 (fun _ => rfl) (fun h => absurd hL0 h)
  have cl1 := fun W (hb : Below w.heap.size w W) => light_any t1 a1 cap1 N1 W (w1.keep hb) s1 0 (fun _ => rfl) (fun h => absurd hL1 h)
  unfold trv at cl0 cl1
  have hn2 : decide ((60 : Int) < (z4.length : Int)) = false := decide_eq_false (by omega)
  have hz0 : IntKind.i64.wrap 0 = 0 := by decide
  have hs0 := hL0.small
  have hs1 := hL1.small
  have cst0 := fun W (hb : Below w.heap.size w W) => rsametree_gen t0 t0 a0 a0 cap0 cap0 N0 N0 W (w0.keep hb) (w0.keep hb) false false [] [] (by simp) (by simp) (rp_any hs0 (.inr ⟨hT, rfl, rfl⟩)) (rp_any hs0 (.inr ⟨hT, rfl, rfl⟩)) false (by simp)
  unfold trv at cst0
  clear w0 s0 w1 s1 w4 hL0 hL1 hs0 hs1 hT
  go_enter Tryz.func4, Tryz.ntmps4
  go_upto_region 1 with (fail)
  refine wp_region_held_drew (S := (fun W => W.cell? ⟨w.heap.size, 0, none⟩ = some (.int .i64 t0) ∧ W.cell? ⟨w.heap.size, 1, none⟩ = some (.slice a0 N0.length cap0) ∧ W.cell? ⟨w.heap.size + 1, 0, none⟩ = some (.int .i64 t1) ∧ W.cell? ⟨w.heap.size + 1, 1, none⟩ = some (.slice a1 N1.length cap1) ∧ LB w h2 l2 c2 u2 m2 h3 l3 c3 u3 m3 t0 a0 N0.length cap0 t1 a1 N1.length cap1 W)) (by kernel_rfl) (by first | exact ⟨K1.out.x.c0, K1.out.x.c1, K1.out.y.c0, K1.out.y.c1, K1.out⟩ | exact ⟨(lb_keep K1.out (Below.refl _ _).drew).x.c0, (lb_keep K1.out (Below.refl _ _).drew).x.c1, (lb_keep K1.out (Below.refl _ _).drew).y.c0, (lb_keep K1.out (Below.refl _ _).drew).y.c1, (lb_keep K1.out (Below.refl _ _).drew)⟩) (fun hHeld => ?_)
  refine tk 0 ?_ rfl (by kernel_rfl) (fun _ _ _ h => h) ⟨by rfl, ?_⟩ hHeld ?_; rotate_left
  · (intro wS hSw; (try dsimp only at hSw); (try go_split_ands); go_simp; try with_reducible rfl)
  try simp only [lAq,lBq,lCq,Act.put,lDq,lEq,lFq]
  refine tk 2 ?_ rfl (by kernel_rfl) (fun _ _ _ h => h) ⟨by rfl, ?_⟩ hHeld ?_; rotate_left
  · (intro wS hSw; (try dsimp only at hSw); (try go_split_ands); go_simp; try with_reducible rfl)
  try simp only [lAq,lBq,lCq,Act.put,lDq,lEq,lFq]
  refine wpAnyH_ready (rs := [1]) (by kernel_rfl) (by simp) ?_
  refine AllReadyH.cons rfl (fun K hK => ?_) AllReadyH.nil
  go_simp
  (go_at_call 5; ((with_reducible refine (cl0 _ hHeld.2.2.2.2.b).mono ?_); rintro e X ⟨rfl, hX⟩))
  refine hK.out _ _ ?_ (fun hNext => ?_)
  · exact ⟨(lb_keep hHeld.2.2.2.2 hX).x.c0, (lb_keep hHeld.2.2.2.2 hX).x.c1, (lb_keep hHeld.2.2.2.2 hX).y.c0, (lb_keep hHeld.2.2.2.2 hX).y.c1, (lb_keep hHeld.2.2.2.2 hX)⟩
  have K2 := Lib.hid (lb_keep hHeld.2.2.2.2 hX)
  clear hX
  clear hK K hHeld
  have hHeld := hNext
  clear hNext
  try simp only [lAq,lBq,lCq,Act.put,lDq,lEq,lFq]
  refine wpAnyH_ready (rs := [3]) (by kernel_rfl) (by simp) ?_
  refine AllReadyH.cons rfl (fun K hK => ?_) AllReadyH.nil
  go_simp
  (go_at_call 5; ((with_reducible refine (cl1 _ hHeld.2.2.2.2.b).mono ?_); rintro e X ⟨rfl, hX⟩))
  refine hK.out _ _ ?_ (fun hNext => ?_)
  · exact ⟨(lb_keep hHeld.2.2.2.2 hX).x.c0, (lb_keep hHeld.2.2.2.2 hX).x.c1, (lb_keep hHeld.2.2.2.2 hX).y.c0, (lb_keep hHeld.2.2.2.2 hX).y.c1, (lb_keep hHeld.2.2.2.2 hX)⟩
  have K2 := Lib.hid (lb_keep hHeld.2.2.2.2 hX)
  clear hX
  clear hK K hHeld
  have hHeld := hNext
  clear hNext
  try simp only [lAq,lBq,lCq,Act.put,lDq,lEq,lFq]
  refine tk 4 ?_ rfl (by kernel_rfl) (fun _ _ _ h => h) ⟨by rfl, ?_⟩ hHeld ?_; rotate_left
  · (intro wS hSw; (try dsimp only at hSw); (try go_split_ands); go_simp; try with_reducible rfl)
  try simp only [lAq,lBq,lCq,Act.put,lDq,lEq,lFq]
  refine tk 5 ?_ rfl (by kernel_rfl) (fun _ _ _ h => h) ⟨by rfl, ?_⟩ hHeld ?_; rotate_left
  · (intro wS hSw; (try dsimp only at hSw); (try go_split_ands); go_simp; try with_reducible rfl)
  try simp only [lAq,lBq,lCq,Act.put,lDq,lEq,lFq]
  refine tk 6 ?_ rfl (by kernel_rfl) (fun _ _ _ h => h) ⟨by rfl, ?_⟩ hHeld ?_; rotate_left
  · (intro wS hSw; (try dsimp only at hSw); (try go_split_ands); go_simp; try with_reducible rfl)
  try simp only [lAq,lBq,lCq,Act.put,lDq,lEq,lFq]
  refine tk 7 ?_ rfl (by kernel_rfl) (fun _ _ _ h => h) ⟨by rfl, ?_⟩ hHeld ?_; rotate_left
  · (intro wS hSw; (try dsimp only at hSw); (try go_split_ands); go_simp; try with_reducible rfl)
  try simp only [lAq,lBq,lCq,Act.put,lDq,lEq,lFq]
  refine tk 8 ?_ rfl (by kernel_rfl) (fun _ _ _ h => h) ⟨by rfl, ?_⟩ hHeld ?_; rotate_left
  · (intro wS hSw; (try dsimp only at hSw); (try go_split_ands); go_simp; try with_reducible rfl)
  try simp only [lAq,lBq,lCq,Act.put,lDq,lEq,lFq]
  refine tk 9 ?_ rfl (by kernel_rfl) (fun _ _ _ h => h) ⟨by rfl, ?_⟩ hHeld ?_; rotate_left
  · (intro wS hSw; (try dsimp only at hSw); (try go_split_ands); go_simp; try with_reducible rfl)
  try simp only [lAq,lBq,lCq,Act.put,lDq,lEq,lFq]
  refine tk 10 ?_ rfl (by kernel_rfl) (fun _ _ _ h => h) ⟨by rfl, ?_⟩ hHeld ?_; rotate_left
  · (intro wS hSw; (try dsimp only at hSw); (try go_split_ands); go_simp; try with_reducible rfl)
  try simp only [lAq,lBq,lCq,Act.put,lDq,lEq,lFq]
  refine tk 11 ?_ rfl (by kernel_rfl) (fun _ _ _ h => h) ⟨by rfl, ?_⟩ hHeld ?_; rotate_left
  · (intro wS hSw; (try dsimp only at hSw); (try go_split_ands); go_simp; try with_reducible rfl)
  try simp only [lAq,lBq,lCq,Act.put,lDq,lEq,lFq]
  refine tk 12 ?_ rfl (by kernel_rfl) (fun _ _ _ h => h) ⟨by rfl, ?_⟩ hHeld ?_; rotate_left
  · (intro wS hSw; (try dsimp only at hSw); (try go_split_ands); go_simp; try with_reducible rfl)
  try simp only [lAq,lBq,lCq,Act.put,lDq,lEq,lFq]
  refine tk 13 ?_ rfl (by kernel_rfl) (fun _ _ _ h => h) ⟨by rfl, ?_⟩ hHeld ?_; rotate_left
  · (intro wS hSw; (try dsimp only at hSw); (try go_split_ands); go_simp; try with_reducible rfl)
  try simp only [lAq,lBq,lCq,Act.put,lDq,lEq,lFq]
  refine wpAnyH_ready (rs := [14]) (by kernel_rfl) (by simp) ?_
  refine AllReadyH.cons rfl (fun K hK => ?_) AllReadyH.nil
  go_simp
  (go_at_call 15; ((with_reducible refine (cst0 _ hHeld.2.2.2.2.b).mono ?_); rintro e X ⟨rfl, hX⟩))
  refine hK.out _ _ ?_ (fun hNext => ?_)
  · exact ⟨(lb_keep hHeld.2.2.2.2 hX).x.c0, (lb_keep hHeld.2.2.2.2 hX).x.c1, (lb_keep hHeld.2.2.2.2 hX).y.c0, (lb_keep hHeld.2.2.2.2 hX).y.c1, (lb_keep hHeld.2.2.2.2 hX)⟩
  have K2 := Lib.hid (lb_keep hHeld.2.2.2.2 hX)
  clear hX
  clear hK K hHeld
  have hHeld := hNext
  clear hNext
  try simp only [lAq,lBq,lCq,Act.put,lDq,lEq,lFq]
  refine tk 15 ?_ rfl (by kernel_rfl) (fun _ _ _ h => h) ⟨by rfl, ?_⟩ hHeld ?_; rotate_left
  · (intro wS hSw; (try dsimp only at hSw); (try go_split_ands); go_simp; try with_reducible rfl)
  try simp only [lAq,lBq,lCq,Act.put,lDq,lEq,lFq]
  refine tk 16 ?_ rfl (by kernel_rfl) (fun _ _ _ h => h) ⟨by rfl, ?_⟩ hHeld ?_; rotate_left
  · (intro wS hSw; (try dsimp only at hSw); (try go_split_ands); go_simp; try with_reducible rfl)
  try simp only [lAq,lBq,lCq,Act.put,lDq,lEq,lFq]
  refine wpAnyH_done (by kernel_rfl) ?_ _
  clear hHeld
  go_wp2_with (go_at_call 6; ((with_reducible refine (caw _).mono ?_); clear caw; rintro e WA ⟨rfl, hbA⟩; have HA := Lib.hid (bel2 K2.out.b hbA); clear hbA))
  go_ret
  exact ⟨rfl, HA.out⟩
set_option maxRecDepth 100000 in
set_option maxHeartbeats 12800000 in
theorem walk_main (t0 : Int) (a0 : Option Addr) (cap0 : Nat) (N0 : List Nd) (t1 : Int) (a1 : Option Addr) (cap1 : Nat) (N1 : List Nd) (h2 l2 c2 u2 m2 h3 l3 c3 u3 m3 : Int) (a4 : Option Addr) (cap4 : Nat) (z4 : List OpD) (w : World) (w0 : Ns w a0 cap0 N0) (s0 : Mid N0) (w1 : Ns w a1 cap1 N1) (s1 : Mid N1) (w4 : Ops w a4 cap4 z4) (hL0 : Lgt N0) (hL1 : Lgt N1) (hn : ¬ 60 < z4.length) (sA : Sh) (hTA : Tr N0 sA t0) :
    Calls Tryz.prog 4 #[.agg #[.int .i64 t0, .slice a0 N0.length cap0], .agg #[.int .i64 t1, .slice a1 N1.length cap1], .agg #[.int .i64 h2, .int .i64 l2, .int .i64 c2, .int .i64 u2, .int .i64 m2], .agg #[.int .i64 h3, .int .i64 l3, .int .i64 c3, .int .i64 u3, .int .i64 m3], .slice a4 z4.length cap4] w fun e w' => e = .returned (.bool true) ∧ Below w.heap.size w w' := by
  have K1 := Lib.hid (lb_new w h2 l2 c2 u2 m2 h3 l3 c3 u3 m3 t0 a0 N0.length cap0 t1 a1 N1.length cap1)
  have caw := fun W => sawake_any W
  have cl0 := fun W (hb : Below w.heap.size w W) => light_any t0 a0 cap0 N0 W (w0.keep hb) s0 0 (fun _ => rfl) (fun h => absurd hL0 h)
  have cl1 := fun W (hb : Below w.heap.size w W) => light_any t1 a1 cap1 N1 W (w1.keep hb) s1 0 (fun _ => rfl) (fun h => absurd hL1 h)
  unfold trv at cl0 cl1
  have hn2 : decide ((60 : Int) < (z4.length : Int)) = false := decide_eq_false (by omega)
  have hz0 : IntKind.i64.wrap 0 = 0 := by decide
  have hs0 := hL0.small
  have hs1 := hL1.small
  have hP0 : PlO N0 t0 true (lay N0 sA 0) := .inl ⟨sA, hTA, rfl, rfl⟩
  have hPl0 : (lay N0 sA 0).length ≤ 100000000000 := by have := (hP0.small hs0).1; omega
  have cst0 := fun W (hb : Below w.heap.size w W) => rsametree_gen t0 t0 a0 a0 cap0 cap0 N0 N0 W (w0.keep hb) (w0.keep hb) true true _ _ hPl0 hPl0 (rp_any hs0 hP0) (rp_any hs0 hP0) true (by simp)
  have hls0 : lvO N0 t0 sA.lvs := .inl ⟨sA, hTA, rfl⟩
  have ca0 := fun W (hb : Below w.heap.size w W) => rall_gen t0 a0 cap0 N0 W (w0.keep hb) hs0 sA.lvs (lvO_lt hls0) (fun W hW => rleaves_gen t0 a0 cap0 N0 W hW hs0 true _ hP0 (rp_any hs0 hP0) sA.lvs hls0)
  unfold RowIs at ca0
  have hsr := (allP_srt hTA.hg).1
  have htot := lgt_total hTA hL0
  have hlA := hL0.1
  have hlB := hL1.1
  have hc41 := w4.1
  have hc42 := w4.2.1
  unfold maxLen at hc42
  have HZ := Lib.hid w4
  have G0 := Lib.hid (show Go1 (allP N0 sA.lvs) 450 t0 N0 sA from ⟨hTA, rfl, hlA⟩)
  unfold trv at cst0 ca0
  have W0 := Lib.hid w0
  have W1 := Lib.hid w1
  have HQ := Lib.hid (And.intro hs1 (And.intro hsr hlB))
  clear w0 s0 w1 s1 w4 hL0 hL1 hs0 hs1 hTA hP0 hPl0 hls0 hsr hlA hlB
  generalize allP N0 sA.lvs = L at *
  go_enter Tryz.func4, Tryz.ntmps4
  go_upto_region 1 with (fail)
  refine wp_region_held_drew (S := (fun W => W.cell? ⟨w.heap.size, 0, none⟩ = some (.int .i64 t0) ∧ W.cell? ⟨w.heap.size, 1, none⟩ = some (.slice a0 N0.length cap0) ∧ W.cell? ⟨w.heap.size + 1, 0, none⟩ = some (.int .i64 t1) ∧ W.cell? ⟨w.heap.size + 1, 1, none⟩ = some (.slice a1 N1.length cap1) ∧ LB w h2 l2 c2 u2 m2 h3 l3 c3 u3 m3 t0 a0 N0.length cap0 t1 a1 N1.length cap1 W)) (by kernel_rfl) (by first | exact ⟨K1.out.x.c0, K1.out.x.c1, K1.out.y.c0, K1.out.y.c1, K1.out⟩ | exact ⟨(lb_keep K1.out (Below.refl _ _).drew).x.c0, (lb_keep K1.out (Below.refl _ _).drew).x.c1, (lb_keep K1.out (Below.refl _ _).drew).y.c0, (lb_keep K1.out (Below.refl _ _).drew).y.c1, (lb_keep K1.out (Below.refl _ _).drew)⟩) (fun hHeld => ?_)
  refine tk 0 ?_ rfl (by kernel_rfl) (fun _ _ _ h => h) ⟨by rfl, ?_⟩ hHeld ?_; rotate_left
  · (intro wS hSw; (try dsimp only at hSw); (try go_split_ands); go_simp; try with_reducible rfl)
  try simp only [lAq,lBq,lCq,Act.put,lDq,lEq,lFq]
  refine tk 2 ?_ rfl (by kernel_rfl) (fun _ _ _ h => h) ⟨by rfl, ?_⟩ hHeld ?_; rotate_left
  · (intro wS hSw; (try dsimp only at hSw); (try go_split_ands); go_simp; try with_reducible rfl)
  try simp only [lAq,lBq,lCq,Act.put,lDq,lEq,lFq]
  refine wpAnyH_ready (rs := [1]) (by kernel_rfl) (by simp) ?_
  refine AllReadyH.cons rfl (fun K hK => ?_) AllReadyH.nil
  go_simp
  (go_at_call 5; ((with_reducible refine (cl0 _ hHeld.2.2.2.2.b).mono ?_); rintro e X ⟨rfl, hX⟩))
  refine hK.out _ _ ?_ (fun hNext => ?_)
  · exact ⟨(lb_keep hHeld.2.2.2.2 hX).x.c0, (lb_keep hHeld.2.2.2.2 hX).x.c1, (lb_keep hHeld.2.2.2.2 hX).y.c0, (lb_keep hHeld.2.2.2.2 hX).y.c1, (lb_keep hHeld.2.2.2.2 hX)⟩
  have K2 := Lib.hid (lb_keep hHeld.2.2.2.2 hX)
  clear hX
  clear hK K hHeld
  have hHeld := hNext
  clear hNext
  try simp only [lAq,lBq,lCq,Act.put,lDq,lEq,lFq]
  refine wpAnyH_ready (rs := [3]) (by kernel_rfl) (by simp) ?_
  refine AllReadyH.cons rfl (fun K hK => ?_) AllReadyH.nil
  go_simp
  (go_at_call 5; ((with_reducible refine (cl1 _ hHeld.2.2.2.2.b).mono ?_); rintro e X ⟨rfl, hX⟩))
  refine hK.out _ _ ?_ (fun hNext => ?_)
  · exact ⟨(lb_keep hHeld.2.2.2.2 hX).x.c0, (lb_keep hHeld.2.2.2.2 hX).x.c1, (lb_keep hHeld.2.2.2.2 hX).y.c0, (lb_keep hHeld.2.2.2.2 hX).y.c1, (lb_keep hHeld.2.2.2.2 hX)⟩
  have K2 := Lib.hid (lb_keep hHeld.2.2.2.2 hX)
  clear hX
  clear hK K hHeld
  have hHeld := hNext
  clear hNext
  try simp only [lAq,lBq,lCq,Act.put,lDq,lEq,lFq]
  refine tk 4 ?_ rfl (by kernel_rfl) (fun _ _ _ h => h) ⟨by rfl, ?_⟩ hHeld ?_; rotate_left
  · (intro wS hSw; (try dsimp only at hSw); (try go_split_ands); go_simp; try with_reducible rfl)
  try simp only [lAq,lBq,lCq,Act.put,lDq,lEq,lFq]
  refine tk 5 ?_ rfl (by kernel_rfl) (fun _ _ _ h => h) ⟨by rfl, ?_⟩ hHeld ?_; rotate_left
  · (intro wS hSw; (try dsimp only at hSw); (try go_split_ands); go_simp; try with_reducible rfl)
  try simp only [lAq,lBq,lCq,Act.put,lDq,lEq,lFq]
  refine tk 6 ?_ rfl (by kernel_rfl) (fun _ _ _ h => h) ⟨by rfl, ?_⟩ hHeld ?_; rotate_left
  · (intro wS hSw; (try dsimp only at hSw); (try go_split_ands); go_simp; try with_reducible rfl)
  try simp only [lAq,lBq,lCq,Act.put,lDq,lEq,lFq]
  refine tk 7 ?_ rfl (by kernel_rfl) (fun _ _ _ h => h) ⟨by rfl, ?_⟩ hHeld ?_; rotate_left
  · (intro wS hSw; (try dsimp only at hSw); (try go_split_ands); go_simp; try with_reducible rfl)
  try simp only [lAq,lBq,lCq,Act.put,lDq,lEq,lFq]
  refine tk 8 ?_ rfl (by kernel_rfl) (fun _ _ _ h => h) ⟨by rfl, ?_⟩ hHeld ?_; rotate_left
  · (intro wS hSw; (try dsimp only at hSw); (try go_split_ands); go_simp; try with_reducible rfl)
  try simp only [lAq,lBq,lCq,Act.put,lDq,lEq,lFq]
  refine tk 9 ?_ rfl (by kernel_rfl) (fun _ _ _ h => h) ⟨by rfl, ?_⟩ hHeld ?_; rotate_left
  · (intro wS hSw; (try dsimp only at hSw); (try go_split_ands); go_simp; try with_reducible rfl)
  try simp only [lAq,lBq,lCq,Act.put,lDq,lEq,lFq]
  refine tk 10 ?_ rfl (by kernel_rfl) (fun _ _ _ h => h) ⟨by rfl, ?_⟩ hHeld ?_; rotate_left
  · (intro wS hSw; (try dsimp only at hSw); (try go_split_ands); go_simp; try with_reducible rfl)
  try simp only [lAq,lBq,lCq,Act.put,lDq,lEq,lFq]
  refine tk 11 ?_ rfl (by kernel_rfl) (fun _ _ _ h => h) ⟨by rfl, ?_⟩ hHeld ?_; rotate_left
  · (intro wS hSw; (try dsimp only at hSw); (try go_split_ands); go_simp; try with_reducible rfl)
  try simp only [lAq,lBq,lCq,Act.put,lDq,lEq,lFq]
  refine tk 12 ?_ rfl (by kernel_rfl) (fun _ _ _ h => h) ⟨by rfl, ?_⟩ hHeld ?_; rotate_left
  · (intro wS hSw; (try dsimp only at hSw); (try go_split_ands); go_simp; try with_reducible rfl)
  try simp only [lAq,lBq,lCq,Act.put,lDq,lEq,lFq]
  refine tk 13 ?_ rfl (by kernel_rfl) (fun _ _ _ h => h) ⟨by rfl, ?_⟩ hHeld ?_; rotate_left
  · (intro wS hSw; (try dsimp only at hSw); (try go_split_ands); go_simp; try with_reducible rfl)
  try simp only [lAq,lBq,lCq,Act.put,lDq,lEq,lFq]
  refine wpAnyH_ready (rs := [14]) (by kernel_rfl) (by simp) ?_
  refine AllReadyH.cons rfl (fun K hK => ?_) AllReadyH.nil
  go_simp
  (go_at_call 15; ((with_reducible refine (cst0 _ hHeld.2.2.2.2.b).mono ?_); rintro e X ⟨rfl, hX⟩))
  refine hK.out _ _ ?_ (fun hNext => ?_)
  · exact ⟨(lb_keep hHeld.2.2.2.2 hX).x.c0, (lb_keep hHeld.2.2.2.2 hX).x.c1, (lb_keep hHeld.2.2.2.2 hX).y.c0, (lb_keep hHeld.2.2.2.2 hX).y.c1, (lb_keep hHeld.2.2.2.2 hX)⟩
  have K2 := Lib.hid (lb_keep hHeld.2.2.2.2 hX)
  clear hX
  clear hK K hHeld
  have hHeld := hNext
  clear hNext
  try simp only [lAq,lBq,lCq,Act.put,lDq,lEq,lFq]
  refine tk 15 ?_ rfl (by kernel_rfl) (fun _ _ _ h => h) ⟨by rfl, ?_⟩ hHeld ?_; rotate_left
  · (intro wS hSw; (try dsimp only at hSw); (try go_split_ands); go_simp; try with_reducible rfl)
  try simp only [lAq,lBq,lCq,Act.put,lDq,lEq,lFq]
  refine tk 16 ?_ rfl (by kernel_rfl) (fun _ _ _ h => h) ⟨by rfl, ?_⟩ hHeld ?_; rotate_left
  · (intro wS hSw; (try dsimp only at hSw); (try go_split_ands); go_simp; try with_reducible rfl)
  try simp only [lAq,lBq,lCq,Act.put,lDq,lEq,lFq]
  refine wpAnyH_done (by kernel_rfl) ?_ _
  clear hHeld
  have x0 := K2.out.x.c0
  have x1 := K2.out.x.c1
  go_upto_region 4 with (go_at_call 16; ((with_reducible refine (ca0 _ K2.out.b).mono ?_); clear ca0 x0 x1; rintro e W3 ⟨al, cl, rfl, hr, hb⟩; have LL := Lib.hid (hr.prs rfl); have K3 := Lib.hid (lb_keep K2.out hb); clear hr hb; have y0 := K3.out.y.c0; have y1 := K3.out.y.c1))
  go_cut [50] from 40 to 50 (fun y wx => ∃ B : Bool, y = .bool B ∧ Prs wx al cl L ∧ LB w h2 l2 c2 u2 m2 h3 l3 c3 u3 m3 t0 a0 N0.length cap0 t1 a1 N1.length cap1 wx ∧ (B = false → ∃ s, Go1 L 450 t1 N1 s))
  case first =>
    rcases Classical.em (∃ s, Tr N1 s t1) with ⟨sB, hTB⟩ | hTB
    · have hP1 : PlO N1 t1 true (lay N1 sB 0) := .inl ⟨sB, hTB, rfl, rfl⟩
      have hPl1 : (lay N1 sB 0).length ≤ 100000000000 := by have := (hP1.small HQ.out.1).1; omega
      have cst1 := fun W (hb : Below w.heap.size w W) => rsametree_gen t1 t1 a1 a1 cap1 cap1 N1 N1 W (W1.out.keep hb) (W1.out.keep hb) true true _ _ hPl1 hPl1 (rp_any HQ.out.1 hP1) (rp_any HQ.out.1 hP1) true (by simp)
      have hls1 : lvO N1 t1 sB.lvs := .inl ⟨sB, hTB, rfl⟩
      have caB := fun W (hb : Below w.heap.size w W) => rall_gen t1 a1 cap1 N1 W (W1.out.keep hb) HQ.out.1 sB.lvs (lvO_lt hls1) (fun W hW => rleaves_gen t1 a1 cap1 N1 W hW HQ.out.1 true _ hP1 (rp_any HQ.out.1 hP1) sB.lvs hls1)
      unfold RowIs trv at caB
      unfold trv at cst1
      have HTB := Lib.hid hTB
      clear hTB hP1 hPl1 hls1
      by_cases hab : allP N1 sB.lvs = L
      · rw [hab] at caB
        have HAB := Lib.hid hab
        clear hab
        have csp1 := fun (W : World) (x y : Option Addr) (cx cy : Nat) (h1 : Prs W x cx L) (h2 : Prs W y cy L) => samep_any x y cx cy _ _ W h1 h2 true (decide_eq_true rfl)
        go_wp2_with (first
          | (go_at_call 15; ((with_reducible refine (cst1 _ K3.out.b).mono ?_); clear cst1 y0 y1; rintro e W4 ⟨rfl, hb⟩; have K4 := Lib.hid (lb_keep K3.out hb); replace LL := Lib.hid (LL.out.below hb); clear hb; have y0 := K4.out.y.c0; have y1 := K4.out.y.c1; have z0 := K4.out.y.fr 0; have z1 := K4.out.y.fr 1))
          | (go_at_call 16; ((with_reducible refine (caB _ K4.out.b).mono ?_); clear caB y0 y1 z0 z1; rintro e W5 ⟨am, cm, rfl, hr, hb⟩; have L2 := Lib.hid (hr.prs rfl); have K5 := Lib.hid (lb_keep K4.out hb); replace LL := Lib.hid (LL.out.below hb); clear hr hb))
          | (go_at_call 17; ((with_reducible refine (csp1 _ _ _ _ _ L2.out LL.out).mono ?_); clear csp1; rintro e W6 ⟨rfl, hb⟩; have K6 := Lib.hid (lb_keep K5.out hb); replace LL := Lib.hid (LL.out.below hb); clear hb L2; have y0 := K6.out.y.c0; have y1 := K6.out.y.c1))
          | fail)
        go_meet
        case rel => exact ⟨false, rfl, LL.out, K6.out, fun _ => ⟨sB, HTB.out, HAB.out, HQ.out.2.2⟩⟩
      · have csp1 := fun (W : World) (x y : Option Addr) (cx cy : Nat) (h1 : Prs W x cx (allP N1 sB.lvs)) (h2 : Prs W y cy L) => samep_any x y cx cy _ _ W h1 h2 false (decide_eq_false hab)
        clear hab
        go_wp2_with (first
          | (go_at_call 15; ((with_reducible refine (cst1 _ K3.out.b).mono ?_); clear cst1 y0 y1; rintro e W4 ⟨rfl, hb⟩; have K4 := Lib.hid (lb_keep K3.out hb); replace LL := Lib.hid (LL.out.below hb); clear hb; have y0 := K4.out.y.c0; have y1 := K4.out.y.c1; have z0 := K4.out.y.fr 0; have z1 := K4.out.y.fr 1))
          | (go_at_call 16; ((with_reducible refine (caB _ K4.out.b).mono ?_); clear caB y0 y1 z0 z1; rintro e W5 ⟨am, cm, rfl, hr, hb⟩; have L2 := Lib.hid (hr.prs rfl); have K5 := Lib.hid (lb_keep K4.out hb); replace LL := Lib.hid (LL.out.below hb); clear hr hb))
          | (go_at_call 17; ((with_reducible refine (csp1 _ _ _ _ _ L2.out LL.out).mono ?_); clear csp1; rintro e W6 ⟨rfl, hb⟩; have K6 := Lib.hid (lb_keep K5.out hb); replace LL := Lib.hid (LL.out.below hb); clear hb L2; have y0 := K6.out.y.c0; have y1 := K6.out.y.c1))
          | fail)
        go_meet
        case rel => exact ⟨true, rfl, LL.out, K6.out, fun e => by cases e⟩
    · have hnT : ∀ s, ¬ Tr N1 s t1 := fun s hs => hTB ⟨s, hs⟩
      have cst1 := fun W (hb : Below w.heap.size w W) => rsametree_gen t1 t1 a1 a1 cap1 cap1 N1 N1 W (W1.out.keep hb) (W1.out.keep hb) false false [] [] (by simp) (by simp) (rp_any HQ.out.1 (.inr ⟨hnT, rfl, rfl⟩)) (rp_any HQ.out.1 (.inr ⟨hnT, rfl, rfl⟩)) false (by simp)
      unfold trv at cst1
      clear hTB hnT
      go_wp2_with (first
        | (go_at_call 15; ((with_reducible refine (cst1 _ K3.out.b).mono ?_); clear cst1 y0 y1; rintro e W4 ⟨rfl, hb⟩; have K4 := Lib.hid (lb_keep K3.out hb); replace LL := Lib.hid (LL.out.below hb); clear hb; have y0 := K4.out.y.c0; have y1 := K4.out.y.c1; have z0 := K4.out.y.fr 0; have z1 := K4.out.y.fr 1))
        | fail)
      go_meet
      case rel => exact ⟨true, rfl, LL.out, K4.out, fun e => by cases e⟩
  case rest =>
  obtain ⟨B, rfl, hLL, hKK, hGG⟩ := hcut
  have LN := Lib.hid hLL
  have KN := Lib.hid hKK
  have GN := Lib.hid hGG
  clear hLL hKK hGG y0 y1 LL K3 K2
  go_upto_if 50 with (fail)
  go_cut [51] from 51 to 52 (fun _ wx => ∃ (u : Int) (b : Option Addr) (d : Nat) (M : List Nd) (s : Sh), LW w h2 l2 c2 u2 m2 h3 l3 c3 u3 m3 L wx t0 a0 cap0 N0 u b d M al cl ∧ Go1 L 450 u M s)
  case first =>
    have co := fun (W : World) (x : Option Addr) (cx : Nat) (h : Prs W x cx L) => tone_any x cx L W h (by omega) L (by rw [if_pos HQ.out.2.1])
    unfold TnIs at co
    have l1 : (oneN L).length = 1 := rfl
    simp only [l1] at co
    cases B
    · obtain ⟨sB, hGs⟩ := GN.out rfl
      have HGS := Lib.hid hGs
      clear hGs
      go_wp2_with (fail)
      go_meet
      case rel => exact ⟨t1, a1, cap1, N1, sB, ⟨KN.out, W0.out.keep KN.out.b, W1.out.keep KN.out.b, LN.out⟩, HGS.out⟩
    · go_wp2_with (first
        | (go_at_call 18; ((with_reducible refine (co _ _ _ LN.out).mono ?_); clear co; rintro e W7 ⟨a7, c7, rfl, hn7, hb⟩; have N7 := Lib.hid hn7; have K7 := Lib.hid (lb_keep KN.out hb); replace LN := Lib.hid (LN.out.below hb); clear hn7 hb; have y0 := K7.out.y.c0; have y1 := K7.out.y.c1; have z0 := K7.out.y.fr 0; have z1 := K7.out.y.fr 1))
        | fail)
      go_meet
      case rel => exact ⟨0, a7, c7, oneN L, .lf 0, ⟨lb_put K7.out 0 a7 1 c7, K7.out.y.ns2 (W0.out.keep K7.out.b) _ _, K7.out.y.ns2 N7.out _ _, K7.out.y.prs2 LN.out _ _⟩, ⟨tr_one _ HQ.out.2.1, by simp [allP, Sh.lvs, oneN, nd], by simp [oneN]⟩⟩
  case rest =>
  obtain ⟨ub, bb, db, Mb, sb, hLW, hGb⟩ := hcut
  have HL0 := Lib.hid hLW
  have G1 := Lib.hid hGb
  clear hLW hGb LN KN GN
  go_wp2_with (fail)
  go_loopw [11, 55] (fun x z wr => ∃ (j : Nat) (al : Option Addr) (cl : Nat) (t : Int) (a : Option Addr) (c : Nat) (N : List Nd) (u : Int) (b : Option Addr) (d : Nat) (M : List Nd), j ≤ z4.length ∧ x = .slice al (runP L (z4.take j)).length cl ∧ z = .int .i64 j ∧ LW w h2 l2 c2 u2 m2 h3 l3 c3 u3 m3 (runP L (z4.take j)) wr t a c N u b d M al cl ∧ (∃ s, Go1 (runP L (z4.take j)) (450 + 2 * j) t N s) ∧ (∃ s, Go1 (runP L (z4.take j)) (450 + 2 * j) u M s)) (fun _ z _ => z4.length - (intOf z).toNat)
  case atStart => exact ⟨0, al, cl, t0, a0, cap0, N0, ub, bb, db, Mb, Nat.zero_le _, rfl, rfl, HL0.out, ⟨_, G0.out⟩, ⟨_, G1.out⟩⟩
  case round =>
    clear HL0 G0 G1
    obtain ⟨j, al, cl, t, a, c, N, u, b, d, M, hj, rfl, rfl, hW, ⟨sx, hGx⟩, ⟨sy, hGy⟩⟩ := hrel
    have K := Lib.hid hW.k
    have NN := Lib.hid hW.n
    have MM := Lib.hid hW.m
    have LL := Lib.hid hW.l
    clear hW
    by_cases hlt : j < z4.length
    · obtain ⟨q, hq⟩ : ∃ q, z4[j]? = some q := ⟨_, List.getElem?_eq_getElem hlt⟩
      obtain ⟨ob, oo, rfl, q0, q1, q2, q3⟩ := (HZ.out.below K.out.b).2.2.1 j q hq
      have hwf := HZ.out.2.2.2 q (List.mem_of_getElem? hq)
      have hltI : (j : Int) < (z4.length : Int) := by omega
      have hj0 : (0 : Int) ≤ (j : Int) := by omega
      have HLT := Lib.hid hlt
      have HWJ := Lib.hid (wj_one hlt (by omega))
      have hrl := runP_take_len (L := L) z4 j
      have hR : runP L (z4.take (j + 1)) = doP (runP L (z4.take j)) q.c q.k q.v := by rw [take_snoc hq, runP_snoc]
      have hrl2 := runP_take_len (L := L) z4 (j + 1)
      rw [hR] at hrl2
      have HRR := Lib.hid hR
      obtain ⟨Q1, hD1⟩ := doS_ex N sx (wi 1 h2 100000) (wi (-100000) l2 0) (wi (-100000) c2 100000) (wi (-100000) u2 100000) (wi (-100000) m2 100000) q
      obtain ⟨Q2, hD2⟩ := doS_ex M sy (wi 1 h3 100000) (wi (-100000) l3 0) (wi (-100000) c3 100000) (wi (-100000) u3 100000) (wi (-100000) m3 100000) q
      have hlx := hGx.l
      have hly := hGy.l
      obtain ⟨r1, k1, k2, k3⟩ := doS_is hGx.t hD1
      obtain ⟨r2, k4, k5, k6⟩ := doS_is hGy.t hD2
      have cd1 := fun W (hN : Ns W a c N) => sdo_any t a c N h2 l2 c2 u2 m2 _ _ _ _ _ q hwf W hN (hGx.small (by omega)) sx hGx.t (by omega) (by rw [hGx.a]; omega) ⟨rfl, rfl, rfl, rfl, rfl⟩ Q1 hD1
      have cd2 := fun W (hN : Ns W b d M) => sdo_any u b d M h3 l3 c3 u3 m3 _ _ _ _ _ q hwf W hN (hGy.small (by omega)) sy hGy.t (by omega) (by rw [hGy.a]; omega) ⟨rfl, rfl, rfl, rfl, rfl⟩ Q2 hD2
      have cdo := fun W (hp : Prs W al cl (runP L (z4.take j))) => rdo_any al cl (runP L (z4.take j)) q.c q.k q.h q.v W hp (by omega)
      rw [hGx.a] at cd1 k2
      rw [hGy.a] at cd2 k5
      have hq1 : Small Q1 := tr_small k1 (by rw [k2]; omega) k1.le
      have hq2 : Small Q2 := tr_small k4 (by rw [k5]; omega) k4.le
      have GX := Lib.hid (show Go1 (runP L (z4.take (j + 1))) (450 + 2 * (j + 1)) 0 Q1 r1 from ⟨k1, by rw [k2, hR], by omega⟩)
      have GY := Lib.hid (show Go1 (runP L (z4.take (j + 1))) (450 + 2 * (j + 1)) 0 Q2 r2 from ⟨k4, by rw [k5, hR], by omega⟩)
      have ca1 := fun (W : World) (x : Option Addr) (cx : Nat) (hW : Ns W x cx Q1) => tall_gen 0 x cx Q1 W hW hq1 r1.lvs ⟨by have := lvs_len r1; have := k1.all; omega, fun i hi => k1.hg.lt i (lvs_pre _ _ hi)⟩ (fun W2 hW2 => tleaves_yes 0 x cx Q1 W2 hW2 hq1 r1 k1)
      have ca2 := fun (W : World) (x : Option Addr) (cx : Nat) (hW : Ns W x cx Q2) => tall_gen 0 x cx Q2 W hW hq2 r2.lvs ⟨by have := lvs_len r2; have := k4.all; omega, fun i hi => k4.hg.lt i (lvs_pre _ _ hi)⟩ (fun W2 hW2 => tleaves_yes 0 x cx Q2 W2 hW2 hq2 r2 k4)
      rw [k2] at ca1
      rw [k5] at ca2
      have cm1 := fun (W : World) (x : Option Addr) (cx : Nat) (hW : Ns W x cx Q1) => tmay_any 0 x cx Q1 W hW hq1 true ⟨fun _ => ⟨r1, k1⟩, fun _ => rfl⟩
      have cm2 := fun (W : World) (x : Option Addr) (cx : Nat) (hW : Ns W x cx Q2) => tmay_any 0 x cx Q2 W hW hq2 true ⟨fun _ => ⟨r2, k4⟩, fun _ => rfl⟩
      unfold RowIs trv at ca1 ca2
      unfold trv at cm1 cm2
      unfold SoIs Ad.val trv polv opv at cd1 cd2
      unfold DoIs Ad.val at cdo
      have csA := fun (D : Ad) (W : World) (x y : Option Addr) (cx cy : Nat) (p1 : Prs W x cx D.ps) (p2 : Prs W y cy D.ps) => rsame_ans D D x y cx cy W p1 p2 true (decide_eq_true (AdEq.refl D))
      unfold Ad.val at csA
      generalize doA (runP L (z4.take j)) q.c q.k q.h = D at cd1 cd2 cdo
      replace csA := csA D
      obtain ⟨d0, d1, d2, d3, d4, dp⟩ := D
      dsimp only at cd1 cd2 cdo csA
      generalize doP (runP L (z4.take j)) q.c q.k q.v = L' at *
      have csp := fun (W : World) (x y : Option Addr) (cx cy : Nat) (p1 : Prs W x cx L') (p2 : Prs W y cy L') => samep_any x y cx cy L' L' W p1 p2 true (decide_eq_true rfl)
      replace NN := Lib.hid (NN.out.keep (al1 (.cells #[.int .i64 q.c, .int .i64 q.k, .int .i64 q.h, .int .i64 q.v] 34)))
      replace MM := Lib.hid (MM.out.keep (al1 (.cells #[.int .i64 q.c, .int .i64 q.k, .int .i64 q.h, .int .i64 q.v] 34)))
      replace LL := Lib.hid (LL.out.below (al1 (.cells #[.int .i64 q.c, .int .i64 q.k, .int .i64 q.h, .int .i64 q.v] 34)))
      replace K := Lib.hid (lb_keep K.out (al1 (.cells #[.int .i64 q.c, .int .i64 q.k, .int .i64 q.h, .int .i64 q.v] 34)))
      have OP := Lib.hid (Bk.new wr #[.int .i64 q.c, .int .i64 q.k, .int .i64 q.h, .int .i64 q.v] 34)
      clear hq hwf hrl hrl2 hR hD1 hD2 hlx hly k1 k2 k3 k4 k5 k6 hq1 hq2 hGx hGy
      have hK := Lib.hid True.intro
      have x0 := K.out.x.c0
      have x1 := K.out.x.c1
      have p0 := K.out.p.at_ 0 _ rfl
      have p1 := K.out.p.at_ 1 _ rfl
      have p2 := K.out.p.at_ 2 _ rfl
      have p3 := K.out.p.at_ 3 _ rfl
      have p4 := K.out.p.at_ 4 _ rfl
      have o0 := OP.out.at_ 0 _ rfl
      have o1 := OP.out.at_ 1 _ rfl
      have o2 := OP.out.at_ 2 _ rfl
      have o3 := OP.out.at_ 3 _ rfl
      go_upto_region 14 with (first
        | (go_at_call 8; ((with_reducible refine (cd1 _ NN.out).mono ?_); clear cd1; clear x0 x1 p0 p1 p2 p3 p4 o0 o1 o2 o3; rintro e WD1 ⟨ax, cx, ad, cd, rfl, hn, hp, hb⟩; have HS1 := Lib.hid (Nat.lt_of_lt_of_le K.out.q.lt hb.size); have HB := (bel1 (bel1 hb (.cells #[.int .i64 0, .slice ax Q1.length cx] 24)) (.cells #[.int .i64 d0, .bool d1, .int .i64 d2, .int .i64 d3, .int .i64 d4, .slice ad dp.length cd] 40)); replace K := Lib.hid (lb_keep K.out HB); replace NN := Lib.hid (NN.out.keep HB); replace MM := Lib.hid (MM.out.keep HB); replace LL := Lib.hid (LL.out.below HB); replace OP := Lib.hid (OP.out.keep HB); have NX := Lib.hid ((hn.keep (al1 (.cells #[.int .i64 0, .slice ax Q1.length cx] 24))).keep (al1 (.cells #[.int .i64 d0, .bool d1, .int .i64 d2, .int .i64 d3, .int .i64 d4, .slice ad dp.length cd] 40))); have PA := Lib.hid ((hp.below (al1 (.cells #[.int .i64 0, .slice ax Q1.length cx] 24))).below (al1 (.cells #[.int .i64 d0, .bool d1, .int .i64 d2, .int .i64 d3, .int .i64 d4, .slice ad dp.length cd] 40))); have X14 := Lib.hid ((Tq.new WD1 0 ax Q1.length cx).keep (al1 (.cells #[.int .i64 d0, .bool d1, .int .i64 d2, .int .i64 d3, .int .i64 d4, .slice ad dp.length cd] 40))); have A15 := Lib.hid (show Bk ((WD1.alloc (.cells #[.int .i64 0, .slice ax Q1.length cx] 24)).alloc (.cells #[.int .i64 d0, .bool d1, .int .i64 d2, .int .i64 d3, .int .i64 d4, .slice ad dp.length cd] 40)) (WD1.heap.size + 1) [.int .i64 d0, .bool d1, .int .i64 d2, .int .i64 d3, .int .i64 d4, .slice ad dp.length cd] from by have h := Bk.new (WD1.alloc (.cells #[.int .i64 0, .slice ax Q1.length cx] 24)) #[.int .i64 d0, .bool d1, .int .i64 d2, .int .i64 d3, .int .i64 d4, .slice ad dp.length cd] 40; simp only [World.size_alloc] at h; exact h); clear hn hp; clear hb HB; have y0 := K.out.y.c0; have y1 := K.out.y.c1; have r0 := K.out.q.at_ 0 _ rfl; have r1 := K.out.q.at_ 1 _ rfl; have r2 := K.out.q.at_ 2 _ rfl; have r3 := K.out.q.at_ 3 _ rfl; have r4 := K.out.q.at_ 4 _ rfl; have o0 := OP.out.at_ 0 _ rfl; have o1 := OP.out.at_ 1 _ rfl; have o2 := OP.out.at_ 2 _ rfl; have o3 := OP.out.at_ 3 _ rfl))
        | (go_at_call 8; ((with_reducible refine (cd2 _ MM.out).mono ?_); clear cd2; clear y0 y1 r0 r1 r2 r3 r4 o0 o1 o2 o3; rintro e WD2 ⟨ay, cy, ae, ce, rfl, hn, hp, hb⟩; have HS2 := Lib.hid (Nat.lt_of_lt_of_le K.out.q.lt hb.size); have HB := (bel1 (bel1 hb (.cells #[.int .i64 0, .slice ay Q2.length cy] 24)) (.cells #[.int .i64 d0, .bool d1, .int .i64 d2, .int .i64 d3, .int .i64 d4, .slice ae dp.length ce] 40)); replace K := Lib.hid (lb_keep K.out HB); replace NN := Lib.hid (NN.out.keep HB); replace MM := Lib.hid (MM.out.keep HB); replace LL := Lib.hid (LL.out.below HB); replace OP := Lib.hid (OP.out.keep HB); replace NX := Lib.hid (NX.out.keep HB); replace PA := Lib.hid (PA.out.below HB); replace X14 := Lib.hid (X14.out.keep HB); replace A15 := Lib.hid (A15.out.keep HB); have NY := Lib.hid ((hn.keep (al1 (.cells #[.int .i64 0, .slice ay Q2.length cy] 24))).keep (al1 (.cells #[.int .i64 d0, .bool d1, .int .i64 d2, .int .i64 d3, .int .i64 d4, .slice ae dp.length ce] 40))); have PB := Lib.hid ((hp.below (al1 (.cells #[.int .i64 0, .slice ay Q2.length cy] 24))).below (al1 (.cells #[.int .i64 d0, .bool d1, .int .i64 d2, .int .i64 d3, .int .i64 d4, .slice ae dp.length ce] 40))); have X16 := Lib.hid ((Tq.new WD2 0 ay Q2.length cy).keep (al1 (.cells #[.int .i64 d0, .bool d1, .int .i64 d2, .int .i64 d3, .int .i64 d4, .slice ae dp.length ce] 40))); have A17 := Lib.hid (show Bk ((WD2.alloc (.cells #[.int .i64 0, .slice ay Q2.length cy] 24)).alloc (.cells #[.int .i64 d0, .bool d1, .int .i64 d2, .int .i64 d3, .int .i64 d4, .slice ae dp.length ce] 40)) (WD2.heap.size + 1) [.int .i64 d0, .bool d1, .int .i64 d2, .int .i64 d3, .int .i64 d4, .slice ae dp.length ce] from by have h := Bk.new (WD2.alloc (.cells #[.int .i64 0, .slice ay Q2.length cy] 24)) #[.int .i64 d0, .bool d1, .int .i64 d2, .int .i64 d3, .int .i64 d4, .slice ae dp.length ce] 40; simp only [World.size_alloc] at h; exact h); clear hn hp; clear hb HB; have o0 := OP.out.at_ 0 _ rfl; have o1 := OP.out.at_ 1 _ rfl; have o2 := OP.out.at_ 2 _ rfl; have o3 := OP.out.at_ 3 _ rfl))
        | (go_at_call 19; ((with_reducible refine (cdo _ LL.out).mono ?_); clear cdo; clear o0 o1 o2 o3; rintro e WN ⟨ar, cr, af, cf, rfl, hr, hp, hb⟩; have HB := (bel1 hb (.cells #[.int .i64 d0, .bool d1, .int .i64 d2, .int .i64 d3, .int .i64 d4, .slice af dp.length cf] 40)); replace K := Lib.hid (lb_keep K.out HB); replace NN := Lib.hid (NN.out.keep HB); replace MM := Lib.hid (MM.out.keep HB); replace LL := Lib.hid (LL.out.below HB); replace OP := Lib.hid (OP.out.keep HB); replace NX := Lib.hid (NX.out.keep HB); replace PA := Lib.hid (PA.out.below HB); replace X14 := Lib.hid (X14.out.keep HB); replace A15 := Lib.hid (A15.out.keep HB); replace NY := Lib.hid (NY.out.keep HB); replace PB := Lib.hid (PB.out.below HB); replace X16 := Lib.hid (X16.out.keep HB); replace A17 := Lib.hid (A17.out.keep HB); have RR := Lib.hid ((hr.prs rfl).below (al1 (.cells #[.int .i64 d0, .bool d1, .int .i64 d2, .int .i64 d3, .int .i64 d4, .slice af dp.length cf] 40))); have PC := Lib.hid ((hp.prs rfl).below (al1 (.cells #[.int .i64 d0, .bool d1, .int .i64 d2, .int .i64 d3, .int .i64 d4, .slice af dp.length cf] 40))); have A19 := Lib.hid (Bk.new WN #[.int .i64 d0, .bool d1, .int .i64 d2, .int .i64 d3, .int .i64 d4, .slice af dp.length cf] 40); clear hr hp; clear hb HB; have e0 := A15.out.at_ 0 _ rfl; have e1 := A15.out.at_ 1 _ rfl; have e2 := A15.out.at_ 2 _ rfl; have e3 := A15.out.at_ 3 _ rfl; have e4 := A15.out.at_ 4 _ rfl; have e5 := A15.out.at_ 5 _ rfl; have g0 := A19.out.at_ 0 _ rfl; have g1 := A19.out.at_ 1 _ rfl; have g2 := A19.out.at_ 2 _ rfl; have g3 := A19.out.at_ 3 _ rfl; have g4 := A19.out.at_ 4 _ rfl; have g5 := A19.out.at_ 5 _ rfl))
        | (go_at_call 10; ((with_reducible refine (csA _ _ _ _ _ PA.out PC.out).mono ?_); clear e0 e1 e2 e3 e4 e5 g0 g1 g2 g3 g4 g5; rintro e WN ⟨rfl, hb⟩; have HB := hb; replace K := Lib.hid (lb_keep K.out HB); replace NX := Lib.hid (NX.out.keep HB); replace PA := Lib.hid (PA.out.below HB); replace X14 := Lib.hid (X14.out.keep HB); replace A15 := Lib.hid (A15.out.keep HB); replace NY := Lib.hid (NY.out.keep HB); replace PB := Lib.hid (PB.out.below HB); replace X16 := Lib.hid (X16.out.keep HB); replace A17 := Lib.hid (A17.out.keep HB); replace RR := Lib.hid (RR.out.below HB); replace PC := Lib.hid (PC.out.below HB); replace A19 := Lib.hid (A19.out.keep HB); clear hb HB; have f0 := A17.out.at_ 0 _ rfl; have f1 := A17.out.at_ 1 _ rfl; have f2 := A17.out.at_ 2 _ rfl; have f3 := A17.out.at_ 3 _ rfl; have f4 := A17.out.at_ 4 _ rfl; have f5 := A17.out.at_ 5 _ rfl; have g0 := A19.out.at_ 0 _ rfl; have g1 := A19.out.at_ 1 _ rfl; have g2 := A19.out.at_ 2 _ rfl; have g3 := A19.out.at_ 3 _ rfl; have g4 := A19.out.at_ 4 _ rfl; have g5 := A19.out.at_ 5 _ rfl))
        | (go_at_call 10; ((with_reducible refine (csA _ _ _ _ _ PB.out PC.out).mono ?_); clear f0 f1 f2 f3 f4 f5 g0 g1 g2 g3 g4 g5; rintro e WN ⟨rfl, hb⟩; have HB := hb; replace K := Lib.hid (lb_keep K.out HB); replace NX := Lib.hid (NX.out.keep HB); replace PA := Lib.hid (PA.out.below HB); replace X14 := Lib.hid (X14.out.keep HB); replace A15 := Lib.hid (A15.out.keep HB); replace NY := Lib.hid (NY.out.keep HB); replace PB := Lib.hid (PB.out.below HB); replace X16 := Lib.hid (X16.out.keep HB); replace A17 := Lib.hid (A17.out.keep HB); replace RR := Lib.hid (RR.out.below HB); replace PC := Lib.hid (PC.out.below HB); replace A19 := Lib.hid (A19.out.keep HB); clear hb HB; have i0 := X14.out.c0; have i1 := X14.out.c1))
        | (go_at_call 20; ((with_reducible refine (ca1 _ _ _ NX.out).mono ?_); clear ca1; clear i0 i1; rintro e WN ⟨av, cv, rfl, hv, hb⟩; have HB := hb; replace K := Lib.hid (lb_keep K.out HB); replace NX := Lib.hid (NX.out.keep HB); replace X14 := Lib.hid (X14.out.keep HB); replace NY := Lib.hid (NY.out.keep HB); replace X16 := Lib.hid (X16.out.keep HB); replace RR := Lib.hid (RR.out.below HB); have VV := Lib.hid (hv.prs rfl); clear hv; clear hb HB))
        | (go_at_call 17; ((with_reducible refine (csp _ _ _ _ _ VV.out RR.out).mono ?_); rintro e WN ⟨rfl, hb⟩; have HB := hb; replace K := Lib.hid (lb_keep K.out HB); replace NX := Lib.hid (NX.out.keep HB); replace X14 := Lib.hid (X14.out.keep HB); replace NY := Lib.hid (NY.out.keep HB); replace X16 := Lib.hid (X16.out.keep HB); replace RR := Lib.hid (RR.out.below HB); clear VV; clear hb HB; have k0 := X16.out.c0; have k1 := X16.out.c1))
        | (go_at_call 20; ((with_reducible refine (ca2 _ _ _ NY.out).mono ?_); clear ca2; clear k0 k1; rintro e WN ⟨av, cv, rfl, hv, hb⟩; have HB := hb; replace K := Lib.hid (lb_keep K.out HB); replace NX := Lib.hid (NX.out.keep HB); replace X14 := Lib.hid (X14.out.keep HB); replace NY := Lib.hid (NY.out.keep HB); replace X16 := Lib.hid (X16.out.keep HB); replace RR := Lib.hid (RR.out.below HB); have V2 := Lib.hid (hv.prs rfl); clear hv; clear hb HB))
        | (go_at_call 17; ((with_reducible refine (csp _ _ _ _ _ V2.out RR.out).mono ?_); rintro e WN ⟨rfl, hb⟩; have HB := hb; replace K := Lib.hid (lb_keep K.out HB); replace NX := Lib.hid (NX.out.keep HB); replace X14 := Lib.hid (X14.out.keep HB); replace NY := Lib.hid (NY.out.keep HB); replace X16 := Lib.hid (X16.out.keep HB); replace RR := Lib.hid (RR.out.below HB); clear V2; clear hb HB; have i0 := X14.out.c0; have i1 := X14.out.c1))
        | (go_at_call 21; ((with_reducible refine (cm1 _ _ _ NX.out).mono ?_); clear cm1; clear i0 i1; rintro e WN ⟨rfl, hb⟩; have HB := hb; replace K := Lib.hid (lb_keep K.out HB); replace NX := Lib.hid (NX.out.keep HB); replace X14 := Lib.hid (X14.out.keep HB); replace NY := Lib.hid (NY.out.keep HB); replace X16 := Lib.hid (X16.out.keep HB); replace RR := Lib.hid (RR.out.below HB); clear hb HB; have k0 := X16.out.c0; have k1 := X16.out.c1))
        | (go_at_call 21; ((with_reducible refine (cm2 _ _ _ NY.out).mono ?_); clear cm2; clear k0 k1; rintro e WN ⟨rfl, hb⟩; have HB := hb; replace K := Lib.hid (lb_keep K.out HB); replace NX := Lib.hid (NX.out.keep HB); replace X14 := Lib.hid (X14.out.keep HB); replace NY := Lib.hid (NY.out.keep HB); replace X16 := Lib.hid (X16.out.keep HB); replace RR := Lib.hid (RR.out.below HB); clear hb HB; have x0 := K.out.x.c0; have x1 := K.out.x.c1; have y0 := K.out.y.c0; have y1 := K.out.y.c1; have i0 := X14.out.c0; have i1 := X14.out.c1; have k0 := X16.out.c0; have k1 := X16.out.c1))
        | fail)
      have z0 := K.out.x.fr 0
      have z1 := K.out.x.fr 1
      have z2 := K.out.y.fr 0
      have z3 := K.out.y.fr 1
      have hs1 := HS1.out
      have hs2 := HS2.out
      have v1 : ¬ w.heap.size = WD1.heap.size := by omega
      have v2 : ¬ WD1.heap.size = w.heap.size := by omega
      have v3 : ¬ w.heap.size = WD2.heap.size := by omega
      have v4 : ¬ WD2.heap.size = w.heap.size := by omega
      have v5 : ¬ w.heap.size + 1 = WD1.heap.size := by omega
      have v6 : ¬ WD1.heap.size = w.heap.size + 1 := by omega
      have v7 : ¬ w.heap.size + 1 = WD2.heap.size := by omega
      have v8 : ¬ WD2.heap.size = w.heap.size + 1 := by omega
      clear hs1 hs2
      go_region
      go_wp2_with (fail)
      go_roundw
      case rel =>
        have KF := lb_put (lb_put0 K.out 0 ax Q1.length cx) 0 ay Q2.length cy
        have K0 := lb_put0 K.out 0 ax Q1.length cx
        refine ⟨j + 1, ar, cr, 0, ax, cx, Q1, 0, ay, cy, Q2, HLT.out, by rw [HRR.out], (by first | go_num | (rw [HWJ.out]; go_num)), ?_, ⟨_, GX.out⟩, ⟨_, GY.out⟩⟩
        rw [HRR.out]
        have F : LW w h2 l2 c2 u2 m2 h3 l3 c3 u3 m3 L' ((((_ : World).setCell ⟨w.heap.size, 0, none⟩ (.int .i64 0)).setCell ⟨w.heap.size, 1, none⟩ (.slice ax Q1.length cx)).setCell ⟨w.heap.size + 1, 0, none⟩ (.int .i64 0) |>.setCell ⟨w.heap.size + 1, 1, none⟩ (.slice ay Q2.length cy)) 0 ax cx Q1 0 ay cy Q2 ar cr := ⟨KF, K0.y.ns2 (K.out.x.ns2 NX.out _ _) _ _, K0.y.ns2 (K.out.x.ns2 NY.out _ _) _ _, K0.y.prs2 (K.out.x.prs2 RR.out _ _) _ _⟩
        exact ⟨lb_keep F.k (Below.refl _ _).drew, F.n.keep (Below.refl _ _).drew, F.m.keep (Below.refl _ _).drew, F.l.below (Below.refl _ _).drew⟩
      case measure => first | with_reducible exact wm_one HLT.out | with_reducible exact wm_two HLT.out HWJ.out
    · obtain rfl : j = z4.length := by omega
      clear hlt
      go_wp2_with (go_at_call 6; ((with_reducible refine (caw _).mono ?_); clear caw; rintro e WA ⟨rfl, hbA⟩; have HA := Lib.hid (bel2 K.out.b hbA); clear hbA))
      go_ret
      exact ⟨rfl, HA.out⟩
theorem walk (t0 : Int) (a0 : Option Addr) (cap0 : Nat) (N0 : List Nd) (t1 : Int) (a1 : Option Addr) (cap1 : Nat) (N1 : List Nd) (h2 l2 c2 u2 m2 : Int) (h3 l3 c3 u3 m3 : Int) (a4 : Option Addr) (cap4 : Nat) (z4 : List OpD) (w : World) (w0 : Ns w a0 cap0 N0) (s0 : Mid N0) (w1 : Ns w a1 cap1 N1) (s1 : Mid N1) (w4 : Ops w a4 cap4 z4) :
    Calls Tryz.prog 4 #[.agg #[.int .i64 t0, .slice a0 N0.length cap0], .agg #[.int .i64 t1, .slice a1 N1.length cap1], .agg #[.int .i64 h2, .int .i64 l2, .int .i64 c2, .int .i64 u2, .int .i64 m2], .agg #[.int .i64 h3, .int .i64 l3, .int .i64 c3, .int .i64 u3, .int .i64 m3], .slice a4 z4.length cap4] w fun e w' => e = .returned (.bool true) ∧ Below w.heap.size w w' := by
  by_cases hL0 : Lgt N0
  rotate_left
  · have q0 : (Lgt N0 → (1 : Int) = 0) ∧ (¬ Lgt N0 → (1 : Int) = 1) := ⟨fun h => absurd h hL0, fun _ => rfl⟩
    by_cases hL1 : Lgt N1
    · exact walk_big t0 a0 cap0 N0 t1 a1 cap1 N1 h2 l2 c2 u2 m2 h3 l3 c3 u3 m3 a4 cap4 z4 w w0 s0 w1 s1 w4 1 0 q0 ⟨fun _ => rfl, fun h => absurd hL1 h⟩ (by decide)
    · exact walk_big t0 a0 cap0 N0 t1 a1 cap1 N1 h2 l2 c2 u2 m2 h3 l3 c3 u3 m3 a4 cap4 z4 w w0 s0 w1 s1 w4 1 1 q0 ⟨fun h => absurd h hL1, fun _ => rfl⟩ (by decide)
  by_cases hL1 : Lgt N1
  rotate_left
  · exact walk_big t0 a0 cap0 N0 t1 a1 cap1 N1 h2 l2 c2 u2 m2 h3 l3 c3 u3 m3 a4 cap4 z4 w w0 s0 w1 s1 w4 0 1 ⟨fun _ => rfl, fun h => absurd hL0 h⟩ ⟨fun h => absurd h hL1, fun _ => rfl⟩ (by decide)
  by_cases hn : 60 < z4.length
  · exact walk_long t0 a0 cap0 N0 t1 a1 cap1 N1 h2 l2 c2 u2 m2 h3 l3 c3 u3 m3 a4 cap4 z4 w w0 s0 w1 s1 w4 hL0 hL1 hn
  rcases Classical.em (∃ s, Tr N0 s t0) with ⟨sA, hTA⟩ | hT
  · exact walk_main t0 a0 cap0 N0 t1 a1 cap1 N1 h2 l2 c2 u2 m2 h3 l3 c3 u3 m3 a4 cap4 z4 w w0 s0 w1 s1 w4 hL0 hL1 hn sA hTA
  · exact walk_no t0 a0 cap0 N0 t1 a1 cap1 N1 h2 l2 c2 u2 m2 h3 l3 c3 u3 m3 a4 cap4 z4 w w0 s0 w1 s1 w4 hL0 hL1 hn (fun s hs => hT ⟨s, hs⟩)
set_option maxRecDepth 100000 in
theorem lifted (os : Os) (started : os.Started) (H : Type) (enc : TypeId × Value → H) :
    ReturnsInHanded {} Tryz.checked os 4 .any (Rows.soloOneSpec.pre6 enc Tryz.prog Tryz.f4 Rows.soloOneRow.domain false) (Rows.soloOneSpec.post enc Tryz.prog Tryz.f4 false true false false) := by
  refine returnsInHanded_of_change_sized (C := Tryz.checked) own started (by kernel_rfl) Tryz.func4
    (ChangeSpec.witness6 (enc := enc) (C := Tryz.checked) false ⟨#[], #[.agg #[.int .i64 0, .slice none 0 0], .agg #[.int .i64 0, .slice none 0 0], .agg #[.int .i64 0, .int .i64 0, .int .i64 0, .int .i64 0, .int .i64 0], .agg #[.int .i64 0, .int .i64 0, .int .i64 0, .int .i64 0, .int .i64 0], .slice none 0 0], []⟩ 8 (by kernel_rfl) (by kernel_rfl) (by kernel_rfl) (by kernel_rfl)) ?_
  intro W base args ds gs before hval0 hW hcnd hsz _
  have hval : ∀ (j : Nat) t v, Tryz.f4.params[j]? = some t → args[j]? = some v → Value.okWide Tryz.prog W .any base t v := hval0
  have hW' := hW
  obtain ⟨p, q, hA0, hV, rfl, hfz, hnd⟩ := hW
  have hA : DataW.TrodAll enc Tryz.prog W 0 (fun _ => true) true Tryz.f4.params.toList args.toList ds p := hA0
  rw [Tryz.params4] at hA hval
  obtain ⟨v0, vs0, d0, ds0, p0, q0, hargs, rfl, rfl, h0, r0⟩ := trodAll_cons hA
  obtain ⟨v1, vs1, d1, ds1, p1, q1, rfl, rfl, rfl, h1, r1⟩ := trodAll_cons r0
  obtain ⟨v2, vs2, d2, ds2, p2, q2, rfl, rfl, rfl, h2, r2⟩ := trodAll_cons r1
  obtain ⟨v3, vs3, d3, ds3, p3, q3, rfl, rfl, rfl, h3, r3⟩ := trodAll_cons r2
  obtain ⟨v4, vs4, d4, ds4, p4, q4, rfl, rfl, rfl, h4, r4⟩ := trodAll_cons r3
  obtain ⟨rfl, rfl, rfl⟩ := trodAll_nil r4
  obtain rfl : args = #[v0, v1, v2, v3, v4] := by cases args; simp_all
  obtain ⟨rfl, rfl⟩ := trodVars_none hV
  have k0 := h0
  have lt0 : ∀ x ∈ p0, x.block < W.heap.size := by obtain ⟨m, hm⟩ := k0; exact DataW.trod_lt m _ _ _ hm
  obtain ⟨u0, rfl, _⟩ := okWide_struct Tryz.underlying24 (hval 0 24 v0 rfl rfl)
  obtain ⟨t0_, a0, cap0, N0, e0, w0, s0⟩ := fields_tree (enc := enc) (w := W) (cs := u0.toList) (fuel := h0.choose) (by simpa [Value.cells] using h0.choose_spec) (fun n hn => by simpa using List.all_eq_true.1 hsz n (DataW.weights_mem_each (j := 0) rfl rfl n hn))
  obtain rfl : u0 = #[.int .i64 t0_, .slice a0 N0.length cap0] := by cases u0; simp_all
  have k1 := h1
  have lt1 : ∀ x ∈ p1, x.block < W.heap.size := by obtain ⟨m, hm⟩ := k1; exact DataW.trod_lt m _ _ _ hm
  obtain ⟨u1, rfl, _⟩ := okWide_struct Tryz.underlying24 (hval 1 24 v1 rfl rfl)
  obtain ⟨t1_, a1, cap1, N1, e1, w1, s1⟩ := fields_tree (enc := enc) (w := W) (cs := u1.toList) (fuel := h1.choose) (by simpa [Value.cells] using h1.choose_spec) (fun n hn => by simpa using List.all_eq_true.1 hsz n (DataW.weights_mem_each (j := 1) rfl rfl n hn))
  obtain rfl : u1 = #[.int .i64 t1_, .slice a1 N1.length cap1] := by cases u1; simp_all
  have k2 := h2
  have lt2 : ∀ x ∈ p2, x.block < W.heap.size := by obtain ⟨m, hm⟩ := k2; exact DataW.trod_lt m _ _ _ hm
  obtain ⟨u2, rfl, _⟩ := okWide_struct Tryz.underlying26 (hval 2 26 v2 rfl rfl)
  obtain ⟨h2_, l2_, c2_, u2_, m2_, e2⟩ := fields_pol (enc := enc) (w := W) (cs := u2.toList) (fuel := h2.choose) (by simpa [Value.cells] using h2.choose_spec)
  obtain rfl : u2 = #[.int .i64 h2_, .int .i64 l2_, .int .i64 c2_, .int .i64 u2_, .int .i64 m2_] := by cases u2; simp_all
  have k3 := h3
  have lt3 : ∀ x ∈ p3, x.block < W.heap.size := by obtain ⟨m, hm⟩ := k3; exact DataW.trod_lt m _ _ _ hm
  obtain ⟨u3, rfl, _⟩ := okWide_struct Tryz.underlying26 (hval 3 26 v3 rfl rfl)
  obtain ⟨h3_, l3_, c3_, u3_, m3_, e3⟩ := fields_pol (enc := enc) (w := W) (cs := u3.toList) (fuel := h3.choose) (by simpa [Value.cells] using h3.choose_spec)
  obtain rfl : u3 = #[.int .i64 h3_, .int .i64 l3_, .int .i64 c3_, .int .i64 u3_, .int .i64 m3_] := by cases u3; simp_all
  have k4 := h4
  have lt4 : ∀ x ∈ p4, x.block < W.heap.size := by obtain ⟨m, hm⟩ := k4; exact DataW.trod_lt m _ _ _ hm
  obtain ⟨b4, l4, c4, rfl⟩ := okWide_slice Tryz.underlying27 (hval 4 27 v4 rfl rfl)
  obtain ⟨a4, cap4, z4, e4, w4⟩ := open_ops (enc := enc) (w := W) (v := .slice b4 l4 c4) (fuel := h4.choose) (by simpa [Value.cells] using h4.choose_spec)
  rw [e4] at hval k4 h4 hW' hval0 hA0
  clear hA0 hval0
  rw [e4]; refine (walk t0_ a0 cap0 N0 t1_ a1 cap1 N1 h2_ l2_ c2_ u2_ m2_ h3_ l3_ c3_ u3_ m3_ a4 cap4 z4 W w0 s0 w1 s1 w4).mono fun e W' ⟨he, bel⟩ => ?_
  subst he
  exact ⟨_, rfl, _, _, _, [], _, [], hW', trodAll_mk1 (shut_bool Tryz.underlying4 _), (trodAll_cons_mk (Below.trod laidOut (by kernel_rfl) (of_decide_eq_true (by kernel_rfl)) k0 bel lt0) (trodAll_cons_mk (Below.trod laidOut (by kernel_rfl) (of_decide_eq_true (by kernel_rfl)) k1 bel lt1) (trodAll_cons_mk (Below.trod laidOut (by kernel_rfl) (of_decide_eq_true (by kernel_rfl)) k2 bel lt2) (trodAll_cons_mk (Below.trod laidOut (by kernel_rfl) (of_decide_eq_true (by kernel_rfl)) k3 bel lt3) (trodAll_cons_mk (Below.trod laidOut (by kernel_rfl) (of_decide_eq_true (by kernel_rfl)) k4 bel lt4) trodAll_mk0))))), rfl, bel.frame _, fun h => by cases h⟩
theorem over : Rows.soloOneRow.holds Tryz.pinned (OpenSpec.ofChange Rows.soloOneSpec) :=
  OpenClaim.holds_of_wide 4 Tryz.f4 rfl rfl rfl rfl rfl rfl rfl ⟨rfl, rfl, rfl, rfl, rfl⟩ rfl rfl rfl rfl rfl (by kernel_rfl) Tryz.func4 (by kernel_rfl)
    (of_decide_eq_true (by kernel_rfl)) (by unfold Func.isWrapper; first | (rw [if_pos (by decide +kernel)]; kernel_rfl) | (rw [if_neg (by decide +kernel)]; exact ⟨rfl, rfl⟩))
    (fun os started H enc _ => lifted os started H enc)
theorem soloOneHolds : Rows.SoloOneSaid := over
end Go.Proofs.YtpdliokpbnpppaaGreat.soloOne
