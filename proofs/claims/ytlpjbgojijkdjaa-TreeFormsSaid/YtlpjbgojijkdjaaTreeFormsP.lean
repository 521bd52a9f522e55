/- osierlaw14.TreeForms answers true for every two trees, key, place, pairs and number: where both trees can be gone through and the pairs are at most 200, Plain, Set, May, Same, Leaves, All, One, Find, Top and Right of package tree answer as the document's own way does, and Find of a tree that may not be tells nothing. -/
import Derived.Test.YtlpjbgojijkdjaaRows
import Derived.Test.YtlpjbgojijkdjaaTsF
import Derived.Test.YtlpjbgojijkdjaaTsH
import Derived.Test.YtlpjbgojijkdjaaTsM
import Derived.Test.YtlpjbgojijkdjaaTsN
import Derived.Test.YtlpjbgojijkdjaaTsO
import Derived.Test.YtlpjbgojijkdjaaTsA
import Derived.Test.YtlpjbgojijkdjaaTrY
import Derived.OwnWalk
import Derived.LoopTactic
import Derived.WalkKit
import Derived.ProofKit
import Derived.OpenShut
import Derived.ChangeOld
import Derived.Below
namespace Go.Proofs.Ytlpjbgojijkdjaa.treeForms
open Go.ChangeShapes Go.WideShapes Go.ChangeAt Go.RowKit
set_option linter.all false

theorem own : ownKnob Try.prog.godebug = none := by kernel_rfl
theorem laidOut : laidOutB Try.prog = true := by kernel_rfl

/-- Both trees' boxes. -/
structure T3 (w : World) (t : Int) (a : Option Addr) (cap : Nat) (N : List Nd) (u : Int) (a1 : Option Addr) (cap1 : Nat) (M : List Nd) (W : World) : Prop where
  g : Bk W w.heap.size [.int .i64 t, .slice a N.length cap]
  u : Bk W (w.heap.size + 1) [.int .i64 u, .slice a1 M.length cap1]
  b : Below w.heap.size w W
section
variable {w : World} {t : Int} {a : Option Addr} {cap : Nat} {N : List Nd} {u : Int} {a1 : Option Addr} {cap1 : Nat} {M : List Nd} {W W' : World}
theorem T3.keep (h : T3 w t a cap N u a1 cap1 M W) (hb : Below W.heap.size W W') : T3 w t a cap N u a1 cap1 M W' := ⟨h.g.keep hb, h.u.keep hb, bel2 h.b hb⟩
theorem T3.new (w : World) (t : Int) (a : Option Addr) (cap : Nat) (N : List Nd) (u : Int) (a1 : Option Addr) (cap1 : Nat) (M : List Nd) : T3 w t a cap N u a1 cap1 M ((w.alloc (.cells #[.int .i64 t, .slice a N.length cap] 24)).alloc (.cells #[.int .i64 u, .slice a1 M.length cap1] 24)) :=
  ⟨Bk.past (Bk.new w #[.int .i64 t, .slice a N.length cap] 24) _, by
    have h := Bk.new (w.alloc (.cells #[.int .i64 t, .slice a N.length cap] 24)) #[.int .i64 u, .slice a1 M.length cap1] 24
    simp only [World.size_alloc] at h; exact h, bel1 (al1 _) _⟩
theorem T3.conj (h : T3 w t a cap N u a1 cap1 M W) : W.cell? ⟨w.heap.size, 0, none⟩ = some (.int .i64 t) ∧ W.cell? ⟨w.heap.size, 1, none⟩ = some (.slice a N.length cap) ∧ W.cell? ⟨w.heap.size + 1, 0, none⟩ = some (.int .i64 u) ∧ W.cell? ⟨w.heap.size + 1, 1, none⟩ = some (.slice a1 M.length cap1) ∧ T3 w t a cap N u a1 cap1 M W :=
  ⟨h.g.at_ 0 _ rfl, h.g.at_ 1 _ rfl, h.u.at_ 0 _ rfl, h.u.at_ 1 _ rfl, h⟩
end
/-- A tree in a box. -/
structure Bt (W : World) (q : Nat) (r : Int) (a : Option Addr) (c : Nat) (Q : List Nd) : Prop where
  b : Bk W q [.int .i64 r, .slice a Q.length c]
  n : Ns W a c Q
theorem Bt.new {W : World} {a : Option Addr} {c : Nat} {Q : List Nd} (h : Ns W a c Q) (r : Int) : Bt (W.alloc (.cells #[.int .i64 r, .slice a Q.length c] 24)) W.heap.size r a c Q := ⟨Bk.new W #[.int .i64 r, .slice a Q.length c] 24, h.keep (al1 _)⟩
theorem Bt.keep {W W' : World} {q : Nat} {r : Int} {a : Option Addr} {c : Nat} {Q : List Nd} (h : Bt W q r a c Q) (hb : Below W.heap.size W W') : Bt W' q r a c Q := ⟨h.b.keep hb, h.n.keep hb⟩
/-- What region 7 looks at. -/
structure F7 (w : World) (t : Int) (a : Option Addr) (cap : Nat) (N : List Nd) (u : Int) (a1 : Option Addr) (cap1 : Nat) (M : List Nd) (q1 q2 q3 q4 : Nat) (P Q : List Nd) (r : Int) (b1 b2 b3 b4 : Option Addr) (c1 c2 c3 c4 : Nat) (W : World) : Prop where
  t : T3 w t a cap N u a1 cap1 M W
  e1 : Bt W q1 0 b1 c1 P
  e2 : Bt W q2 0 b2 c2 P
  e3 : Bt W q3 r b3 c3 Q
  e4 : Bt W q4 r b4 c4 Q
section
variable {w : World} {t : Int} {a : Option Addr} {cap : Nat} {N : List Nd} {u : Int} {a1 : Option Addr} {cap1 : Nat} {M : List Nd} {q1 q2 q3 q4 : Nat} {P Q : List Nd} {r : Int} {b1 b2 b3 b4 : Option Addr} {c1 c2 c3 c4 : Nat} {W W' : World}
theorem F7.keep (h : F7 w t a cap N u a1 cap1 M q1 q2 q3 q4 P Q r b1 b2 b3 b4 c1 c2 c3 c4 W) (hb : Below W.heap.size W W') : F7 w t a cap N u a1 cap1 M q1 q2 q3 q4 P Q r b1 b2 b3 b4 c1 c2 c3 c4 W' := ⟨h.t.keep hb, h.e1.keep hb, h.e2.keep hb, h.e3.keep hb, h.e4.keep hb⟩
theorem F7.conj (h : F7 w t a cap N u a1 cap1 M q1 q2 q3 q4 P Q r b1 b2 b3 b4 c1 c2 c3 c4 W) : W.cell? ⟨w.heap.size, 0, none⟩ = some (.int .i64 t) ∧ W.cell? ⟨w.heap.size, 1, none⟩ = some (.slice a N.length cap) ∧ W.cell? ⟨w.heap.size + 1, 0, none⟩ = some (.int .i64 u) ∧ W.cell? ⟨w.heap.size + 1, 1, none⟩ = some (.slice a1 M.length cap1) ∧ W.cell? ⟨q1, 0, none⟩ = some (.int .i64 0) ∧ W.cell? ⟨q1, 1, none⟩ = some (.slice b1 P.length c1) ∧ W.cell? ⟨q2, 0, none⟩ = some (.int .i64 0) ∧ W.cell? ⟨q2, 1, none⟩ = some (.slice b2 P.length c2) ∧ W.cell? ⟨q3, 0, none⟩ = some (.int .i64 r) ∧ W.cell? ⟨q3, 1, none⟩ = some (.slice b3 Q.length c3) ∧ W.cell? ⟨q4, 0, none⟩ = some (.int .i64 r) ∧ W.cell? ⟨q4, 1, none⟩ = some (.slice b4 Q.length c4) ∧ F7 w t a cap N u a1 cap1 M q1 q2 q3 q4 P Q r b1 b2 b3 b4 c1 c2 c3 c4 W :=
  ⟨h.t.g.at_ 0 _ rfl, h.t.g.at_ 1 _ rfl, h.t.u.at_ 0 _ rfl, h.t.u.at_ 1 _ rfl, h.e1.b.at_ 0 _ rfl, h.e1.b.at_ 1 _ rfl, h.e2.b.at_ 0 _ rfl, h.e2.b.at_ 1 _ rfl, h.e3.b.at_ 0 _ rfl, h.e3.b.at_ 1 _ rfl, h.e4.b.at_ 0 _ rfl, h.e4.b.at_ 1 _ rfl, h⟩
end
set_option maxRecDepth 100000 in
set_option maxHeartbeats 12800000 in
theorem walk_out01 (t0 : Int) (a0 : Option Addr) (cap0 : Nat) (N0 : List Nd) (t1 : Int) (a1 : Option Addr) (cap1 : Nat) (N1 : List Nd) (w : World) (w0 : Ns w a0 cap0 N0) (s0 : Mid N0) (w1 : Ns w a1 cap1 N1) (s1 : Mid N1) (a2 a3 : Int) (a4 : Option Addr) (cap4 : Nat) (z4 : List Pr) (w4 : Prs w a4 cap4 z4) (a5 : Int) (h0 : Lgt N0) (h1 : ¬ Lgt N1) :
    Calls Try.prog 3 #[.agg #[.int .i64 t0, .slice a0 N0.length cap0], .agg #[.int .i64 t1, .slice a1 N1.length cap1], .int .i64 a2, .int .i64 a3, .slice a4 z4.length cap4, .int .i64 a5] w fun e w' => e = .returned (.bool true) ∧ Below w.heap.size w w' := by
  have cl0 := fun W (hb : Below w.heap.size w W) => light_any t0 a0 cap0 N0 W (w0.keep hb) s0 0 (fun _ => rfl) (fun h => absurd h0 h)
  have cl1 := fun W (hb : Below w.heap.size w W) => light_any t1 a1 cap1 N1 W (w1.keep hb) s1 1 (fun h => absurd h h1) (fun _ => rfl)
  have caw := fun W => awake_any W
  have A := Lib.hid (T3.new w t0 a0 cap0 N0 t1 a1 cap1 N1)
  unfold trv at cl0 cl1
  clear w0 s0 w1 s1 h0 h1 w4
  go_enter Try.func3, Try.ntmps3
  go_upto_region 1 with (fail)
  refine wp_region_held_drew (S := (fun W => W.cell? ⟨w.heap.size, 0, none⟩ = some (.int .i64 t0) ∧ W.cell? ⟨w.heap.size, 1, none⟩ = some (.slice a0 N0.length cap0) ∧ W.cell? ⟨w.heap.size + 1, 0, none⟩ = some (.int .i64 t1) ∧ W.cell? ⟨w.heap.size + 1, 1, none⟩ = some (.slice a1 N1.length cap1) ∧ T3 w t0 a0 cap0 N0 t1 a1 cap1 N1 W)) (by kernel_rfl) (by first | exact T3.conj A.out | exact T3.conj (A.out.keep (Below.refl _ _).drew)) (fun hHeld => ?_)
  refine wpAnyH_take (i := 0) (v := ?_) rfl (by kernel_rfl) (by kernel_rfl) (by kernel_rfl) (fun _ _ _ h => h) (Or.inl ⟨by rfl, ?_⟩) hHeld ?_
  rotate_left
  · (intro wS hSw; (try dsimp only at hSw); (try go_split_ands); go_simp; try with_reducible rfl)
  try simp only [List.getElem_toArray, List.getElem_cons_succ, List.getElem_cons_zero, Act.put, List.setIfInBounds_toArray, List.set_cons_zero, List.set_cons_succ]
  refine wpAnyH_take (i := 2) (v := ?_) rfl (by kernel_rfl) (by kernel_rfl) (by kernel_rfl) (fun _ _ _ h => h) (Or.inl ⟨by rfl, ?_⟩) hHeld ?_
  rotate_left
  · (intro wS hSw; (try dsimp only at hSw); (try go_split_ands); go_simp; try with_reducible rfl)
  try simp only [List.getElem_toArray, List.getElem_cons_succ, List.getElem_cons_zero, Act.put, List.setIfInBounds_toArray, List.set_cons_zero, List.set_cons_succ]
  refine wpAnyH_ready (rs := [1]) (by kernel_rfl) (by simp) ?_
  refine AllReadyH.cons rfl (fun K hK => ?_) AllReadyH.nil
  go_simp
  (go_at_call 9; ((with_reducible refine (cl0 _ hHeld.2.2.2.2.b).mono ?_); rintro e X ⟨rfl, hX⟩))
  refine hK.out _ _ ?_ (fun hNext => ?_)
  · exact T3.conj (hHeld.2.2.2.2.keep hX)
  clear hX
  clear hK K hHeld
  have hHeld := hNext
  clear hNext
  try simp only [List.getElem_toArray, List.getElem_cons_succ, List.getElem_cons_zero, Act.put, List.setIfInBounds_toArray, List.set_cons_zero, List.set_cons_succ]
  refine wpAnyH_ready (rs := [3]) (by kernel_rfl) (by simp) ?_
  refine AllReadyH.cons rfl (fun K hK => ?_) AllReadyH.nil
  go_simp
  (go_at_call 9; ((with_reducible refine (cl1 _ hHeld.2.2.2.2.b).mono ?_); rintro e X ⟨rfl, hX⟩))
  refine hK.out _ _ ?_ (fun hNext => ?_)
  · exact T3.conj (hHeld.2.2.2.2.keep hX)
  clear hX
  clear hK K hHeld
  have hHeld := hNext
  clear hNext
  try simp only [List.getElem_toArray, List.getElem_cons_succ, List.getElem_cons_zero, Act.put, List.setIfInBounds_toArray, List.set_cons_zero, List.set_cons_succ]
  refine wpAnyH_take (i := 4) (v := ?_) rfl (by kernel_rfl) (by kernel_rfl) (by kernel_rfl) (fun _ _ _ h => h) (Or.inl ⟨by rfl, ?_⟩) hHeld ?_
  rotate_left
  · (intro wS hSw; (try dsimp only at hSw); (try go_split_ands); go_simp; try with_reducible rfl)
  try simp only [List.getElem_toArray, List.getElem_cons_succ, List.getElem_cons_zero, Act.put, List.setIfInBounds_toArray, List.set_cons_zero, List.set_cons_succ]
  refine wpAnyH_take (i := 5) (v := ?_) rfl (by kernel_rfl) (by kernel_rfl) (by kernel_rfl) (fun _ _ _ h => h) (Or.inl ⟨by rfl, ?_⟩) hHeld ?_
  rotate_left
  · (intro wS hSw; (try dsimp only at hSw); (try go_split_ands); go_simp; try with_reducible rfl)
  try simp only [List.getElem_toArray, List.getElem_cons_succ, List.getElem_cons_zero, Act.put, List.setIfInBounds_toArray, List.set_cons_zero, List.set_cons_succ]
  refine wpAnyH_take (i := 6) (v := ?_) rfl (by kernel_rfl) (by kernel_rfl) (by kernel_rfl) (fun _ _ _ h => h) (Or.inl ⟨by rfl, ?_⟩) hHeld ?_
  rotate_left
  · (intro wS hSw; (try dsimp only at hSw); (try go_split_ands); go_simp; try with_reducible rfl)
  try simp only [List.getElem_toArray, List.getElem_cons_succ, List.getElem_cons_zero, Act.put, List.setIfInBounds_toArray, List.set_cons_zero, List.set_cons_succ]
  refine wpAnyH_take (i := 7) (v := undef) rfl (by kernel_rfl) (by kernel_rfl) (by kernel_rfl) (fun _ _ _ h => h) (Or.inr ⟨by rfl, rfl⟩) hHeld ?_
  try simp only [List.getElem_toArray, List.getElem_cons_succ, List.getElem_cons_zero, Act.put, List.setIfInBounds_toArray, List.set_cons_zero, List.set_cons_succ]
  refine wpAnyH_take (i := 8) (v := undef) rfl (by kernel_rfl) (by kernel_rfl) (by kernel_rfl) (fun _ _ _ h => h) (Or.inr ⟨by rfl, rfl⟩) hHeld ?_
  try simp only [List.getElem_toArray, List.getElem_cons_succ, List.getElem_cons_zero, Act.put, List.setIfInBounds_toArray, List.set_cons_zero, List.set_cons_succ]
  refine wpAnyH_take (i := 9) (v := undef) rfl (by kernel_rfl) (by kernel_rfl) (by kernel_rfl) (fun _ _ _ h => h) (Or.inr ⟨by rfl, rfl⟩) hHeld ?_
  try simp only [List.getElem_toArray, List.getElem_cons_succ, List.getElem_cons_zero, Act.put, List.setIfInBounds_toArray, List.set_cons_zero, List.set_cons_succ]
  refine wpAnyH_take (i := 10) (v := ?_) rfl (by kernel_rfl) (by kernel_rfl) (by kernel_rfl) (fun _ _ _ h => h) (Or.inl ⟨by rfl, ?_⟩) hHeld ?_
  rotate_left
  · (intro wS hSw; (try dsimp only at hSw); (try go_split_ands); go_simp; try with_reducible rfl)
  try simp only [List.getElem_toArray, List.getElem_cons_succ, List.getElem_cons_zero, Act.put, List.setIfInBounds_toArray, List.set_cons_zero, List.set_cons_succ]
  refine wpAnyH_done (by kernel_rfl) ?_ _
  replace A := Lib.hid hHeld.2.2.2.2
  clear hHeld
  go_wp2_with (go_at_call 10; ((with_reducible refine (caw _).mono ?_); clear caw; rintro e W4 ⟨rfl, hb4⟩; have HB4 := Lib.hid (bel2 A.out.b hb4); clear hb4))
  go_ret
  exact ⟨rfl, HB4.out⟩
set_option maxRecDepth 100000 in
set_option maxHeartbeats 12800000 in
theorem walk_out10 (t0 : Int) (a0 : Option Addr) (cap0 : Nat) (N0 : List Nd) (t1 : Int) (a1 : Option Addr) (cap1 : Nat) (N1 : List Nd) (w : World) (w0 : Ns w a0 cap0 N0) (s0 : Mid N0) (w1 : Ns w a1 cap1 N1) (s1 : Mid N1) (a2 a3 : Int) (a4 : Option Addr) (cap4 : Nat) (z4 : List Pr) (w4 : Prs w a4 cap4 z4) (a5 : Int) (h0 : ¬ Lgt N0) (h1 : Lgt N1) :
    Calls Try.prog 3 #[.agg #[.int .i64 t0, .slice a0 N0.length cap0], .agg #[.int .i64 t1, .slice a1 N1.length cap1], .int .i64 a2, .int .i64 a3, .slice a4 z4.length cap4, .int .i64 a5] w fun e w' => e = .returned (.bool true) ∧ Below w.heap.size w w' := by
  have cl0 := fun W (hb : Below w.heap.size w W) => light_any t0 a0 cap0 N0 W (w0.keep hb) s0 1 (fun h => absurd h h0) (fun _ => rfl)
  have cl1 := fun W (hb : Below w.heap.size w W) => light_any t1 a1 cap1 N1 W (w1.keep hb) s1 0 (fun _ => rfl) (fun h => absurd h1 h)
  have caw := fun W => awake_any W
  have A := Lib.hid (T3.new w t0 a0 cap0 N0 t1 a1 cap1 N1)
  unfold trv at cl0 cl1
  clear w0 s0 w1 s1 h0 h1 w4
  go_enter Try.func3, Try.ntmps3
  go_upto_region 1 with (fail)
  refine wp_region_held_drew (S := (fun W => W.cell? ⟨w.heap.size, 0, none⟩ = some (.int .i64 t0) ∧ W.cell? ⟨w.heap.size, 1, none⟩ = some (.slice a0 N0.length cap0) ∧ W.cell? ⟨w.heap.size + 1, 0, none⟩ = some (.int .i64 t1) ∧ W.cell? ⟨w.heap.size + 1, 1, none⟩ = some (.slice a1 N1.length cap1) ∧ T3 w t0 a0 cap0 N0 t1 a1 cap1 N1 W)) (by kernel_rfl) (by first | exact T3.conj A.out | exact T3.conj (A.out.keep (Below.refl _ _).drew)) (fun hHeld => ?_)
  refine wpAnyH_take (i := 0) (v := ?_) rfl (by kernel_rfl) (by kernel_rfl) (by kernel_rfl) (fun _ _ _ h => h) (Or.inl ⟨by rfl, ?_⟩) hHeld ?_
  rotate_left
  · (intro wS hSw; (try dsimp only at hSw); (try go_split_ands); go_simp; try with_reducible rfl)
  try simp only [List.getElem_toArray, List.getElem_cons_succ, List.getElem_cons_zero, Act.put, List.setIfInBounds_toArray, List.set_cons_zero, List.set_cons_succ]
  refine wpAnyH_take (i := 2) (v := ?_) rfl (by kernel_rfl) (by kernel_rfl) (by kernel_rfl) (fun _ _ _ h => h) (Or.inl ⟨by rfl, ?_⟩) hHeld ?_
  rotate_left
  · (intro wS hSw; (try dsimp only at hSw); (try go_split_ands); go_simp; try with_reducible rfl)
  try simp only [List.getElem_toArray, List.getElem_cons_succ, List.getElem_cons_zero, Act.put, List.setIfInBounds_toArray, List.set_cons_zero, List.set_cons_succ]
  refine wpAnyH_ready (rs := [1]) (by kernel_rfl) (by simp) ?_
  refine AllReadyH.cons rfl (fun K hK => ?_) AllReadyH.nil
  go_simp
  (go_at_call 9; ((with_reducible refine (cl0 _ hHeld.2.2.2.2.b).mono ?_); rintro e X ⟨rfl, hX⟩))
  refine hK.out _ _ ?_ (fun hNext => ?_)
  · exact T3.conj (hHeld.2.2.2.2.keep hX)
  clear hX
  clear hK K hHeld
  have hHeld := hNext
  clear hNext
  try simp only [List.getElem_toArray, List.getElem_cons_succ, List.getElem_cons_zero, Act.put, List.setIfInBounds_toArray, List.set_cons_zero, List.set_cons_succ]
  refine wpAnyH_ready (rs := [3]) (by kernel_rfl) (by simp) ?_
  refine AllReadyH.cons rfl (fun K hK => ?_) AllReadyH.nil
  go_simp
  (go_at_call 9; ((with_reducible refine (cl1 _ hHeld.2.2.2.2.b).mono ?_); rintro e X ⟨rfl, hX⟩))
  refine hK.out _ _ ?_ (fun hNext => ?_)
  · exact T3.conj (hHeld.2.2.2.2.keep hX)
  clear hX
  clear hK K hHeld
  have hHeld := hNext
  clear hNext
  try simp only [List.getElem_toArray, List.getElem_cons_succ, List.getElem_cons_zero, Act.put, List.setIfInBounds_toArray, List.set_cons_zero, List.set_cons_succ]
  refine wpAnyH_take (i := 4) (v := ?_) rfl (by kernel_rfl) (by kernel_rfl) (by kernel_rfl) (fun _ _ _ h => h) (Or.inl ⟨by rfl, ?_⟩) hHeld ?_
  rotate_left
  · (intro wS hSw; (try dsimp only at hSw); (try go_split_ands); go_simp; try with_reducible rfl)
  try simp only [List.getElem_toArray, List.getElem_cons_succ, List.getElem_cons_zero, Act.put, List.setIfInBounds_toArray, List.set_cons_zero, List.set_cons_succ]
  refine wpAnyH_take (i := 5) (v := ?_) rfl (by kernel_rfl) (by kernel_rfl) (by kernel_rfl) (fun _ _ _ h => h) (Or.inl ⟨by rfl, ?_⟩) hHeld ?_
  rotate_left
  · (intro wS hSw; (try dsimp only at hSw); (try go_split_ands); go_simp; try with_reducible rfl)
  try simp only [List.getElem_toArray, List.getElem_cons_succ, List.getElem_cons_zero, Act.put, List.setIfInBounds_toArray, List.set_cons_zero, List.set_cons_succ]
  refine wpAnyH_take (i := 6) (v := ?_) rfl (by kernel_rfl) (by kernel_rfl) (by kernel_rfl) (fun _ _ _ h => h) (Or.inl ⟨by rfl, ?_⟩) hHeld ?_
  rotate_left
  · (intro wS hSw; (try dsimp only at hSw); (try go_split_ands); go_simp; try with_reducible rfl)
  try simp only [List.getElem_toArray, List.getElem_cons_succ, List.getElem_cons_zero, Act.put, List.setIfInBounds_toArray, List.set_cons_zero, List.set_cons_succ]
  refine wpAnyH_take (i := 7) (v := undef) rfl (by kernel_rfl) (by kernel_rfl) (by kernel_rfl) (fun _ _ _ h => h) (Or.inr ⟨by rfl, rfl⟩) hHeld ?_
  try simp only [List.getElem_toArray, List.getElem_cons_succ, List.getElem_cons_zero, Act.put, List.setIfInBounds_toArray, List.set_cons_zero, List.set_cons_succ]
  refine wpAnyH_take (i := 8) (v := undef) rfl (by kernel_rfl) (by kernel_rfl) (by kernel_rfl) (fun _ _ _ h => h) (Or.inr ⟨by rfl, rfl⟩) hHeld ?_
  try simp only [List.getElem_toArray, List.getElem_cons_succ, List.getElem_cons_zero, Act.put, List.setIfInBounds_toArray, List.set_cons_zero, List.set_cons_succ]
  refine wpAnyH_take (i := 9) (v := undef) rfl (by kernel_rfl) (by kernel_rfl) (by kernel_rfl) (fun _ _ _ h => h) (Or.inr ⟨by rfl, rfl⟩) hHeld ?_
  try simp only [List.getElem_toArray, List.getElem_cons_succ, List.getElem_cons_zero, Act.put, List.setIfInBounds_toArray, List.set_cons_zero, List.set_cons_succ]
  refine wpAnyH_take (i := 10) (v := ?_) rfl (by kernel_rfl) (by kernel_rfl) (by kernel_rfl) (fun _ _ _ h => h) (Or.inl ⟨by rfl, ?_⟩) hHeld ?_
  rotate_left
  · (intro wS hSw; (try dsimp only at hSw); (try go_split_ands); go_simp; try with_reducible rfl)
  try simp only [List.getElem_toArray, List.getElem_cons_succ, List.getElem_cons_zero, Act.put, List.setIfInBounds_toArray, List.set_cons_zero, List.set_cons_succ]
  refine wpAnyH_done (by kernel_rfl) ?_ _
  replace A := Lib.hid hHeld.2.2.2.2
  clear hHeld
  go_wp2_with (go_at_call 10; ((with_reducible refine (caw _).mono ?_); clear caw; rintro e W4 ⟨rfl, hb4⟩; have HB4 := Lib.hid (bel2 A.out.b hb4); clear hb4))
  go_ret
  exact ⟨rfl, HB4.out⟩
set_option maxRecDepth 100000 in
set_option maxHeartbeats 12800000 in
theorem walk_out11 (t0 : Int) (a0 : Option Addr) (cap0 : Nat) (N0 : List Nd) (t1 : Int) (a1 : Option Addr) (cap1 : Nat) (N1 : List Nd) (w : World) (w0 : Ns w a0 cap0 N0) (s0 : Mid N0) (w1 : Ns w a1 cap1 N1) (s1 : Mid N1) (a2 a3 : Int) (a4 : Option Addr) (cap4 : Nat) (z4 : List Pr) (w4 : Prs w a4 cap4 z4) (a5 : Int) (h0 : ¬ Lgt N0) (h1 : ¬ Lgt N1) :
    Calls Try.prog 3 #[.agg #[.int .i64 t0, .slice a0 N0.length cap0], .agg #[.int .i64 t1, .slice a1 N1.length cap1], .int .i64 a2, .int .i64 a3, .slice a4 z4.length cap4, .int .i64 a5] w fun e w' => e = .returned (.bool true) ∧ Below w.heap.size w w' := by
  have cl0 := fun W (hb : Below w.heap.size w W) => light_any t0 a0 cap0 N0 W (w0.keep hb) s0 1 (fun h => absurd h h0) (fun _ => rfl)
  have cl1 := fun W (hb : Below w.heap.size w W) => light_any t1 a1 cap1 N1 W (w1.keep hb) s1 1 (fun h => absurd h h1) (fun _ => rfl)
  have caw := fun W => awake_any W
  have A := Lib.hid (T3.new w t0 a0 cap0 N0 t1 a1 cap1 N1)
  unfold trv at cl0 cl1
  clear w0 s0 w1 s1 h0 h1 w4
  go_enter Try.func3, Try.ntmps3
  go_upto_region 1 with (fail)
  refine wp_region_held_drew (S := (fun W => W.cell? ⟨w.heap.size, 0, none⟩ = some (.int .i64 t0) ∧ W.cell? ⟨w.heap.size, 1, none⟩ = some (.slice a0 N0.length cap0) ∧ W.cell? ⟨w.heap.size + 1, 0, none⟩ = some (.int .i64 t1) ∧ W.cell? ⟨w.heap.size + 1, 1, none⟩ = some (.slice a1 N1.length cap1) ∧ T3 w t0 a0 cap0 N0 t1 a1 cap1 N1 W)) (by kernel_rfl) (by first | exact T3.conj A.out | exact T3.conj (A.out.keep (Below.refl _ _).drew)) (fun hHeld => ?_)
  refine wpAnyH_take (i := 0) (v := ?_) rfl (by kernel_rfl) (by kernel_rfl) (by kernel_rfl) (fun _ _ _ h => h) (Or.inl ⟨by rfl, ?_⟩) hHeld ?_
  rotate_left
  · (intro wS hSw; (try dsimp only at hSw); (try go_split_ands); go_simp; try with_reducible rfl)
  try simp only [List.getElem_toArray, List.getElem_cons_succ, List.getElem_cons_zero, Act.put, List.setIfInBounds_toArray, List.set_cons_zero, List.set_cons_succ]
  refine wpAnyH_take (i := 2) (v := ?_) rfl (by kernel_rfl) (by kernel_rfl) (by kernel_rfl) (fun _ _ _ h => h) (Or.inl ⟨by rfl, ?_⟩) hHeld ?_
  rotate_left
  · (intro wS hSw; (try dsimp only at hSw); (try go_split_ands); go_simp; try with_reducible rfl)
  try simp only [List.getElem_toArray, List.getElem_cons_succ, List.getElem_cons_zero, Act.put, List.setIfInBounds_toArray, List.set_cons_zero, List.set_cons_succ]
  refine wpAnyH_ready (rs := [1]) (by kernel_rfl) (by simp) ?_
  refine AllReadyH.cons rfl (fun K hK => ?_) AllReadyH.nil
  go_simp
  (go_at_call 9; ((with_reducible refine (cl0 _ hHeld.2.2.2.2.b).mono ?_); rintro e X ⟨rfl, hX⟩))
  refine hK.out _ _ ?_ (fun hNext => ?_)
  · exact T3.conj (hHeld.2.2.2.2.keep hX)
  clear hX
  clear hK K hHeld
  have hHeld := hNext
  clear hNext
  try simp only [List.getElem_toArray, List.getElem_cons_succ, List.getElem_cons_zero, Act.put, List.setIfInBounds_toArray, List.set_cons_zero, List.set_cons_succ]
  refine wpAnyH_ready (rs := [3]) (by kernel_rfl) (by simp) ?_
  refine AllReadyH.cons rfl (fun K hK => ?_) AllReadyH.nil
  go_simp
  (go_at_call 9; ((with_reducible refine (cl1 _ hHeld.2.2.2.2.b).mono ?_); rintro e X ⟨rfl, hX⟩))
  refine hK.out _ _ ?_ (fun hNext => ?_)
  · exact T3.conj (hHeld.2.2.2.2.keep hX)
  clear hX
  clear hK K hHeld
  have hHeld := hNext
  clear hNext
  try simp only [List.getElem_toArray, List.getElem_cons_succ, List.getElem_cons_zero, Act.put, List.setIfInBounds_toArray, List.set_cons_zero, List.set_cons_succ]
  refine wpAnyH_take (i := 4) (v := ?_) rfl (by kernel_rfl) (by kernel_rfl) (by kernel_rfl) (fun _ _ _ h => h) (Or.inl ⟨by rfl, ?_⟩) hHeld ?_
  rotate_left
  · (intro wS hSw; (try dsimp only at hSw); (try go_split_ands); go_simp; try with_reducible rfl)
  try simp only [List.getElem_toArray, List.getElem_cons_succ, List.getElem_cons_zero, Act.put, List.setIfInBounds_toArray, List.set_cons_zero, List.set_cons_succ]
  refine wpAnyH_take (i := 5) (v := ?_) rfl (by kernel_rfl) (by kernel_rfl) (by kernel_rfl) (fun _ _ _ h => h) (Or.inl ⟨by rfl, ?_⟩) hHeld ?_
  rotate_left
  · (intro wS hSw; (try dsimp only at hSw); (try go_split_ands); go_simp; try with_reducible rfl)
  try simp only [List.getElem_toArray, List.getElem_cons_succ, List.getElem_cons_zero, Act.put, List.setIfInBounds_toArray, List.set_cons_zero, List.set_cons_succ]
  refine wpAnyH_take (i := 6) (v := ?_) rfl (by kernel_rfl) (by kernel_rfl) (by kernel_rfl) (fun _ _ _ h => h) (Or.inl ⟨by rfl, ?_⟩) hHeld ?_
  rotate_left
  · (intro wS hSw; (try dsimp only at hSw); (try go_split_ands); go_simp; try with_reducible rfl)
  try simp only [List.getElem_toArray, List.getElem_cons_succ, List.getElem_cons_zero, Act.put, List.setIfInBounds_toArray, List.set_cons_zero, List.set_cons_succ]
  refine wpAnyH_take (i := 7) (v := undef) rfl (by kernel_rfl) (by kernel_rfl) (by kernel_rfl) (fun _ _ _ h => h) (Or.inr ⟨by rfl, rfl⟩) hHeld ?_
  try simp only [List.getElem_toArray, List.getElem_cons_succ, List.getElem_cons_zero, Act.put, List.setIfInBounds_toArray, List.set_cons_zero, List.set_cons_succ]
  refine wpAnyH_take (i := 8) (v := undef) rfl (by kernel_rfl) (by kernel_rfl) (by kernel_rfl) (fun _ _ _ h => h) (Or.inr ⟨by rfl, rfl⟩) hHeld ?_
  try simp only [List.getElem_toArray, List.getElem_cons_succ, List.getElem_cons_zero, Act.put, List.setIfInBounds_toArray, List.set_cons_zero, List.set_cons_succ]
  refine wpAnyH_take (i := 9) (v := undef) rfl (by kernel_rfl) (by kernel_rfl) (by kernel_rfl) (fun _ _ _ h => h) (Or.inr ⟨by rfl, rfl⟩) hHeld ?_
  try simp only [List.getElem_toArray, List.getElem_cons_succ, List.getElem_cons_zero, Act.put, List.setIfInBounds_toArray, List.set_cons_zero, List.set_cons_succ]
  refine wpAnyH_take (i := 10) (v := ?_) rfl (by kernel_rfl) (by kernel_rfl) (by kernel_rfl) (fun _ _ _ h => h) (Or.inl ⟨by rfl, ?_⟩) hHeld ?_
  rotate_left
  · (intro wS hSw; (try dsimp only at hSw); (try go_split_ands); go_simp; try with_reducible rfl)
  try simp only [List.getElem_toArray, List.getElem_cons_succ, List.getElem_cons_zero, Act.put, List.setIfInBounds_toArray, List.set_cons_zero, List.set_cons_succ]
  refine wpAnyH_done (by kernel_rfl) ?_ _
  replace A := Lib.hid hHeld.2.2.2.2
  clear hHeld
  go_wp2_with (go_at_call 10; ((with_reducible refine (caw _).mono ?_); clear caw; rintro e W4 ⟨rfl, hb4⟩; have HB4 := Lib.hid (bel2 A.out.b hb4); clear hb4))
  go_ret
  exact ⟨rfl, HB4.out⟩
set_option maxRecDepth 100000 in
set_option maxHeartbeats 12800000 in
theorem walk_long (t0 : Int) (a0 : Option Addr) (cap0 : Nat) (N0 : List Nd) (t1 : Int) (a1 : Option Addr) (cap1 : Nat) (N1 : List Nd) (w : World) (w0 : Ns w a0 cap0 N0) (s0 : Mid N0) (w1 : Ns w a1 cap1 N1) (s1 : Mid N1) (a2 a3 : Int) (a4 : Option Addr) (cap4 : Nat) (z4 : List Pr) (w4 : Prs w a4 cap4 z4) (a5 : Int) (h0 : Lgt N0) (h1 : Lgt N1) (hl : 200 < z4.length) :
    Calls Try.prog 3 #[.agg #[.int .i64 t0, .slice a0 N0.length cap0], .agg #[.int .i64 t1, .slice a1 N1.length cap1], .int .i64 a2, .int .i64 a3, .slice a4 z4.length cap4, .int .i64 a5] w fun e w' => e = .returned (.bool true) ∧ Below w.heap.size w w' := by
  have cl0 := fun W (hb : Below w.heap.size w W) => light_any t0 a0 cap0 N0 W (w0.keep hb) s0 0 (fun _ => rfl) (fun h => absurd h0 h)
  have cl1 := fun W (hb : Below w.heap.size w W) => light_any t1 a1 cap1 N1 W (w1.keep hb) s1 0 (fun _ => rfl) (fun h => absurd h1 h)
  have caw := fun W => awake_any W
  have A := Lib.hid (T3.new w t0 a0 cap0 N0 t1 a1 cap1 N1)
  have hl' : decide ((200 : Int) < (z4.length : Int)) = true := decide_eq_true (by omega)
  have hl2 : decide (200 < z4.length) = true := decide_eq_true hl
  unfold trv at cl0 cl1
  clear w0 s0 w1 s1 h0 h1 w4
  go_enter Try.func3, Try.ntmps3
  go_upto_region 1 with (fail)
  refine wp_region_held_drew (S := (fun W => W.cell? ⟨w.heap.size, 0, none⟩ = some (.int .i64 t0) ∧ W.cell? ⟨w.heap.size, 1, none⟩ = some (.slice a0 N0.length cap0) ∧ W.cell? ⟨w.heap.size + 1, 0, none⟩ = some (.int .i64 t1) ∧ W.cell? ⟨w.heap.size + 1, 1, none⟩ = some (.slice a1 N1.length cap1) ∧ T3 w t0 a0 cap0 N0 t1 a1 cap1 N1 W)) (by kernel_rfl) (by first | exact T3.conj A.out | exact T3.conj (A.out.keep (Below.refl _ _).drew)) (fun hHeld => ?_)
  refine wpAnyH_take (i := 0) (v := ?_) rfl (by kernel_rfl) (by kernel_rfl) (by kernel_rfl) (fun _ _ _ h => h) (Or.inl ⟨by rfl, ?_⟩) hHeld ?_
  rotate_left
  · (intro wS hSw; (try dsimp only at hSw); (try go_split_ands); go_simp; try with_reducible rfl)
  try simp only [List.getElem_toArray, List.getElem_cons_succ, List.getElem_cons_zero, Act.put, List.setIfInBounds_toArray, List.set_cons_zero, List.set_cons_succ]
  refine wpAnyH_take (i := 2) (v := ?_) rfl (by kernel_rfl) (by kernel_rfl) (by kernel_rfl) (fun _ _ _ h => h) (Or.inl ⟨by rfl, ?_⟩) hHeld ?_
  rotate_left
  · (intro wS hSw; (try dsimp only at hSw); (try go_split_ands); go_simp; try with_reducible rfl)
  try simp only [List.getElem_toArray, List.getElem_cons_succ, List.getElem_cons_zero, Act.put, List.setIfInBounds_toArray, List.set_cons_zero, List.set_cons_succ]
  refine wpAnyH_ready (rs := [1]) (by kernel_rfl) (by simp) ?_
  refine AllReadyH.cons rfl (fun K hK => ?_) AllReadyH.nil
  go_simp
  (go_at_call 9; ((with_reducible refine (cl0 _ hHeld.2.2.2.2.b).mono ?_); rintro e X ⟨rfl, hX⟩))
  refine hK.out _ _ ?_ (fun hNext => ?_)
  · exact T3.conj (hHeld.2.2.2.2.keep hX)
  clear hX
  clear hK K hHeld
  have hHeld := hNext
  clear hNext
  try simp only [List.getElem_toArray, List.getElem_cons_succ, List.getElem_cons_zero, Act.put, List.setIfInBounds_toArray, List.set_cons_zero, List.set_cons_succ]
  refine wpAnyH_ready (rs := [3]) (by kernel_rfl) (by simp) ?_
  refine AllReadyH.cons rfl (fun K hK => ?_) AllReadyH.nil
  go_simp
  (go_at_call 9; ((with_reducible refine (cl1 _ hHeld.2.2.2.2.b).mono ?_); rintro e X ⟨rfl, hX⟩))
  refine hK.out _ _ ?_ (fun hNext => ?_)
  · exact T3.conj (hHeld.2.2.2.2.keep hX)
  clear hX
  clear hK K hHeld
  have hHeld := hNext
  clear hNext
  try simp only [List.getElem_toArray, List.getElem_cons_succ, List.getElem_cons_zero, Act.put, List.setIfInBounds_toArray, List.set_cons_zero, List.set_cons_succ]
  refine wpAnyH_take (i := 4) (v := ?_) rfl (by kernel_rfl) (by kernel_rfl) (by kernel_rfl) (fun _ _ _ h => h) (Or.inl ⟨by rfl, ?_⟩) hHeld ?_
  rotate_left
  · (intro wS hSw; (try dsimp only at hSw); (try go_split_ands); go_simp; try with_reducible rfl)
  try simp only [List.getElem_toArray, List.getElem_cons_succ, List.getElem_cons_zero, Act.put, List.setIfInBounds_toArray, List.set_cons_zero, List.set_cons_succ]
  refine wpAnyH_take (i := 5) (v := ?_) rfl (by kernel_rfl) (by kernel_rfl) (by kernel_rfl) (fun _ _ _ h => h) (Or.inl ⟨by rfl, ?_⟩) hHeld ?_
  rotate_left
  · (intro wS hSw; (try dsimp only at hSw); (try go_split_ands); go_simp; try with_reducible rfl)
  try simp only [List.getElem_toArray, List.getElem_cons_succ, List.getElem_cons_zero, Act.put, List.setIfInBounds_toArray, List.set_cons_zero, List.set_cons_succ]
  refine wpAnyH_take (i := 6) (v := ?_) rfl (by kernel_rfl) (by kernel_rfl) (by kernel_rfl) (fun _ _ _ h => h) (Or.inl ⟨by rfl, ?_⟩) hHeld ?_
  rotate_left
  · (intro wS hSw; (try dsimp only at hSw); (try go_split_ands); go_simp; try with_reducible rfl)
  try simp only [List.getElem_toArray, List.getElem_cons_succ, List.getElem_cons_zero, Act.put, List.setIfInBounds_toArray, List.set_cons_zero, List.set_cons_succ]
  refine wpAnyH_take (i := 7) (v := ?_) rfl (by kernel_rfl) (by kernel_rfl) (by kernel_rfl) (fun _ _ _ h => h) (Or.inl ⟨by rfl, ?_⟩) hHeld ?_
  rotate_left
  · (intro wS hSw; (try dsimp only at hSw); (try go_split_ands); go_simp; try with_reducible rfl)
  try simp only [List.getElem_toArray, List.getElem_cons_succ, List.getElem_cons_zero, Act.put, List.setIfInBounds_toArray, List.set_cons_zero, List.set_cons_succ]
  refine wpAnyH_take (i := 8) (v := ?_) rfl (by kernel_rfl) (by kernel_rfl) (by kernel_rfl) (fun _ _ _ h => h) (Or.inl ⟨by rfl, ?_⟩) hHeld ?_
  rotate_left
  · (intro wS hSw; (try dsimp only at hSw); (try go_split_ands); go_simp; try with_reducible rfl)
  try simp only [List.getElem_toArray, List.getElem_cons_succ, List.getElem_cons_zero, Act.put, List.setIfInBounds_toArray, List.set_cons_zero, List.set_cons_succ]
  refine wpAnyH_take (i := 9) (v := ?_) rfl (by kernel_rfl) (by kernel_rfl) (by kernel_rfl) (fun _ _ _ h => h) (Or.inl ⟨by rfl, ?_⟩) hHeld ?_
  rotate_left
  · (intro wS hSw; (try dsimp only at hSw); (try go_split_ands); go_simp; try with_reducible rfl)
  try simp only [List.getElem_toArray, List.getElem_cons_succ, List.getElem_cons_zero, Act.put, List.setIfInBounds_toArray, List.set_cons_zero, List.set_cons_succ]
  refine wpAnyH_take (i := 10) (v := ?_) rfl (by kernel_rfl) (by kernel_rfl) (by kernel_rfl) (fun _ _ _ h => h) (Or.inl ⟨by rfl, ?_⟩) hHeld ?_
  rotate_left
  · (intro wS hSw; (try dsimp only at hSw); (try go_split_ands); go_simp; try with_reducible rfl)
  try simp only [List.getElem_toArray, List.getElem_cons_succ, List.getElem_cons_zero, Act.put, List.setIfInBounds_toArray, List.set_cons_zero, List.set_cons_succ]
  refine wpAnyH_done (by kernel_rfl) ?_ _
  replace A := Lib.hid hHeld.2.2.2.2
  clear hHeld
  go_wp2_with (go_at_call 10; ((with_reducible refine (caw _).mono ?_); clear caw; rintro e W4 ⟨rfl, hb4⟩; have HB4 := Lib.hid (bel2 A.out.b hb4); clear hb4))
  go_ret
  exact ⟨rfl, HB4.out⟩
set_option maxRecDepth 100000 in
set_option maxHeartbeats 12800000 in
theorem walk_in (t0 : Int) (a0 : Option Addr) (cap0 : Nat) (N0 : List Nd) (t1 : Int) (a1 : Option Addr) (cap1 : Nat) (N1 : List Nd) (w : World) (w0 : Ns w a0 cap0 N0) (s0 : Mid N0) (w1 : Ns w a1 cap1 N1) (s1 : Mid N1) (a2 a3 : Int) (a4 : Option Addr) (cap4 : Nat) (z4 : List Pr) (w4 : Prs w a4 cap4 z4) (a5 : Int) (h0 : Lgt N0) (h1 : Lgt N1) (hl : z4.length ≤ 200) :
    Calls Try.prog 3 #[.agg #[.int .i64 t0, .slice a0 N0.length cap0], .agg #[.int .i64 t1, .slice a1 N1.length cap1], .int .i64 a2, .int .i64 a3, .slice a4 z4.length cap4, .int .i64 a5] w fun e w' => e = .returned (.bool true) ∧ Below w.heap.size w w' := by
  have hs0 := h0.small
  have hs1 := h1.small
  obtain ⟨x, P, hP⟩ := plO_ex N0 t0
  obtain ⟨x1, P1, hP1⟩ := plO_ex N1 t1
  obtain ⟨ls, hls⟩ := lvO_ex N0 t0
  obtain ⟨r, Q, z, hSet⟩ := setO_ex N0 t0 a3 z4 a5
  obtain ⟨LO, hLO⟩ : ∃ L, L = if Srt z4 then z4 else [] := ⟨_, rfl⟩
  obtain ⟨B, hB⟩ : ∃ B : Bool, B = true ↔ x = true ∧ x1 = true ∧ P = P1 := by
    rcases Classical.em (x = true ∧ x1 = true ∧ P = P1) with h | h
    · exact ⟨true, fun _ => h, fun _ => rfl⟩
    · exact ⟨false, fun h => (by cases h), fun h' => absurd h' h⟩
  have hPs : P.length ≤ 1000000 := Nat.le_trans (hP.small hs0).1 (by decide)
  have hP1s : P1.length ≤ 1000000 := Nat.le_trans (hP1.small hs1).1 (by decide)
  have hQs : Q.length ≤ 1000000 := by
    rcases hSet with ⟨_, _, _, j, n, _, _, _, rfl, _⟩ | ⟨_, _, rfl, _⟩
    · rw [List.length_set]; exact Nat.le_trans hs0.1 (by decide)
    · simp
  have HLP := Lib.hid (And.intro hPs hQs)
  have HLO := Lib.hid (show (oneN LO).length ≤ 1000000 by simp [oneN])
  have hz : z4.length ≤ 2100 := by omega
  have cl0 := fun W (hb : Below w.heap.size w W) => light_any t0 a0 cap0 N0 W (w0.keep hb) s0 0 (fun _ => rfl) (fun h => absurd h0 h)
  have cl1 := fun W (hb : Below w.heap.size w W) => light_any t1 a1 cap1 N1 W (w1.keep hb) s1 0 (fun _ => rfl) (fun h => absurd h1 h)
  have cp := fun W (hb : Below w.heap.size w W) => tplain_any t0 a0 cap0 N0 W (w0.keep hb) hs0 x P hP
  have cq := fun W (hb : Below w.heap.size w W) => rp_any hs0 hP W (w0.keep hb)
  have cs := fun W (hb : Below w.heap.size w W) => tset_any t0 a0 cap0 N0 a3 a4 cap4 z4 a5 W (w0.keep hb) hs0 (w4.below hb) hz r Q z hSet
  have cr := fun W (hb : Below w.heap.size w W) => rset_any t0 a0 cap0 N0 a3 a4 cap4 z4 a5 W (w0.keep hb) hs0 (w4.below hb) hz r Q z hSet
  have crw := fun W (u : Int) (L : List Nd) (b c : Option Addr) (cb cc : Nat) (hL : L.length ≤ 1000000) (h : Ns W b cb L) (h2 : Ns W c cc L) => sraw_any u u b c cb cc L L W h h2 hL hL true ⟨fun _ => ⟨rfl, rfl⟩, fun _ => rfl⟩
  have cm := fun W (hb : Below w.heap.size w W) => tmay_any t0 a0 cap0 N0 W (w0.keep hb) hs0 x hP.tr
  have csm := fun W (hb : Below w.heap.size w W) => tsame_any t0 t1 a0 a1 cap0 cap1 N0 N1 W (w0.keep hb) (w1.keep hb) hs0 hs1 x x1 P P1 hP hP1 B hB
  have cst := fun W (hb : Below w.heap.size w W) => rsametree_gen t0 t1 a0 a1 cap0 cap1 N0 N1 W (w0.keep hb) (w1.keep hb) x x1 P P1 hPs hP1s (rp_any hs0 hP) (rp_any hs1 hP1) B hB
  have cv := fun W (hb : Below w.heap.size w W) => tleaves_any t0 a0 cap0 N0 W (w0.keep hb) hs0 ls hls
  have cv2 := fun W (hb : Below w.heap.size w W) => rleaves_gen t0 a0 cap0 N0 W (w0.keep hb) hs0 x P hP (rp_any hs0 hP) ls hls
  have ci := fun W (b c : Option Addr) (cb cc : Nat) (h : RI W b cb (preI ls)) (h2 : RI W c cc (preI ls)) => ints_any b c cb cc (preI ls) (preI ls) W h h2 true (by simp)
  have ca := fun W (hb : Below w.heap.size w W) => tall_gen t0 a0 cap0 N0 W (w0.keep hb) hs0 ls (lvO_lt hls) (fun W hW => tleaves_any t0 a0 cap0 N0 W hW hs0 ls hls)
  have ca2 := fun W (hb : Below w.heap.size w W) => rall_gen t0 a0 cap0 N0 W (w0.keep hb) hs0 ls (lvO_lt hls) (fun W hW => rleaves_gen t0 a0 cap0 N0 W hW hs0 x P hP (rp_any hs0 hP) ls hls)
  have csp := fun W (b c : Option Addr) (cb cc : Nat) (h : Prs W b cb (allP N0 ls)) (h2 : Prs W c cc (allP N0 ls)) => samep_any b c cb cc _ _ W h h2 true (by simp)
  have co := fun W (hb : Below w.heap.size w W) => tone_any a4 cap4 z4 W (w4.below hb) hz LO hLO
  have co2 := fun W (hb : Below w.heap.size w W) => rone_any a4 cap4 z4 W (w4.below hb) hz LO hLO
  have caw := fun W => awake_any W
  have A := Lib.hid (T3.new w t0 a0 cap0 N0 t1 a1 cap1 N1)
  have HP := Lib.hid hP
  have HN := Lib.hid w0
  have HS := Lib.hid hs0
  unfold PlB at cp cq
  unfold SetIs at cs cr
  unfold LvIs at cv cv2
  unfold RowIs at ca ca2
  unfold TnIs at co co2
  unfold trv at cl0 cl1 cp cq cs cr crw cm csm cst cv cv2 ca ca2
  simp only [preI_len] at ci
  have hl' : decide ((200 : Int) < (z4.length : Int)) = false := decide_eq_false (by omega)
  have hl2 : decide (200 < z4.length) = false := decide_eq_false (by omega)
  have hl3 : ¬ 200 < z4.length := by omega
  clear w0 s0 w1 s1 h0 h1 w4 hs0 hs1 hP hP1 hls hSet hLO hB hPs hP1s hQs hz hl
  go_enter Try.func3, Try.ntmps3
  go_upto_region 1 with (fail)
  refine wp_region_held_drew (S := (fun W => W.cell? ⟨w.heap.size, 0, none⟩ = some (.int .i64 t0) ∧ W.cell? ⟨w.heap.size, 1, none⟩ = some (.slice a0 N0.length cap0) ∧ W.cell? ⟨w.heap.size + 1, 0, none⟩ = some (.int .i64 t1) ∧ W.cell? ⟨w.heap.size + 1, 1, none⟩ = some (.slice a1 N1.length cap1) ∧ T3 w t0 a0 cap0 N0 t1 a1 cap1 N1 W)) (by kernel_rfl) (by first | exact T3.conj A.out | exact T3.conj (A.out.keep (Below.refl _ _).drew)) (fun hHeld => ?_)
  refine wpAnyH_take (i := 0) (v := ?_) rfl (by kernel_rfl) (by kernel_rfl) (by kernel_rfl) (fun _ _ _ h => h) (Or.inl ⟨by rfl, ?_⟩) hHeld ?_
  rotate_left
  · (intro wS hSw; (try dsimp only at hSw); (try go_split_ands); go_simp; try with_reducible rfl)
  try simp only [List.getElem_toArray, List.getElem_cons_succ, List.getElem_cons_zero, Act.put, List.setIfInBounds_toArray, List.set_cons_zero, List.set_cons_succ]
  refine wpAnyH_take (i := 2) (v := ?_) rfl (by kernel_rfl) (by kernel_rfl) (by kernel_rfl) (fun _ _ _ h => h) (Or.inl ⟨by rfl, ?_⟩) hHeld ?_
  rotate_left
  · (intro wS hSw; (try dsimp only at hSw); (try go_split_ands); go_simp; try with_reducible rfl)
  try simp only [List.getElem_toArray, List.getElem_cons_succ, List.getElem_cons_zero, Act.put, List.setIfInBounds_toArray, List.set_cons_zero, List.set_cons_succ]
  refine wpAnyH_ready (rs := [1]) (by kernel_rfl) (by simp) ?_
  refine AllReadyH.cons rfl (fun K hK => ?_) AllReadyH.nil
  go_simp
  (go_at_call 9; ((with_reducible refine (cl0 _ hHeld.2.2.2.2.b).mono ?_); rintro e X ⟨rfl, hX⟩))
  refine hK.out _ _ ?_ (fun hNext => ?_)
  · exact T3.conj (hHeld.2.2.2.2.keep hX)
  clear hX
  clear hK K hHeld
  have hHeld := hNext
  clear hNext
  try simp only [List.getElem_toArray, List.getElem_cons_succ, List.getElem_cons_zero, Act.put, List.setIfInBounds_toArray, List.set_cons_zero, List.set_cons_succ]
  refine wpAnyH_ready (rs := [3]) (by kernel_rfl) (by simp) ?_
  refine AllReadyH.cons rfl (fun K hK => ?_) AllReadyH.nil
  go_simp
  (go_at_call 9; ((with_reducible refine (cl1 _ hHeld.2.2.2.2.b).mono ?_); rintro e X ⟨rfl, hX⟩))
  refine hK.out _ _ ?_ (fun hNext => ?_)
  · exact T3.conj (hHeld.2.2.2.2.keep hX)
  clear hX
  clear hK K hHeld
  have hHeld := hNext
  clear hNext
  try simp only [List.getElem_toArray, List.getElem_cons_succ, List.getElem_cons_zero, Act.put, List.setIfInBounds_toArray, List.set_cons_zero, List.set_cons_succ]
  refine wpAnyH_take (i := 4) (v := ?_) rfl (by kernel_rfl) (by kernel_rfl) (by kernel_rfl) (fun _ _ _ h => h) (Or.inl ⟨by rfl, ?_⟩) hHeld ?_
  rotate_left
  · (intro wS hSw; (try dsimp only at hSw); (try go_split_ands); go_simp; try with_reducible rfl)
  try simp only [List.getElem_toArray, List.getElem_cons_succ, List.getElem_cons_zero, Act.put, List.setIfInBounds_toArray, List.set_cons_zero, List.set_cons_succ]
  refine wpAnyH_take (i := 5) (v := ?_) rfl (by kernel_rfl) (by kernel_rfl) (by kernel_rfl) (fun _ _ _ h => h) (Or.inl ⟨by rfl, ?_⟩) hHeld ?_
  rotate_left
  · (intro wS hSw; (try dsimp only at hSw); (try go_split_ands); go_simp; try with_reducible rfl)
  try simp only [List.getElem_toArray, List.getElem_cons_succ, List.getElem_cons_zero, Act.put, List.setIfInBounds_toArray, List.set_cons_zero, List.set_cons_succ]
  refine wpAnyH_take (i := 6) (v := ?_) rfl (by kernel_rfl) (by kernel_rfl) (by kernel_rfl) (fun _ _ _ h => h) (Or.inl ⟨by rfl, ?_⟩) hHeld ?_
  rotate_left
  · (intro wS hSw; (try dsimp only at hSw); (try go_split_ands); go_simp; try with_reducible rfl)
  try simp only [List.getElem_toArray, List.getElem_cons_succ, List.getElem_cons_zero, Act.put, List.setIfInBounds_toArray, List.set_cons_zero, List.set_cons_succ]
  refine wpAnyH_take (i := 7) (v := ?_) rfl (by kernel_rfl) (by kernel_rfl) (by kernel_rfl) (fun _ _ _ h => h) (Or.inl ⟨by rfl, ?_⟩) hHeld ?_
  rotate_left
  · (intro wS hSw; (try dsimp only at hSw); (try go_split_ands); go_simp; try with_reducible rfl)
  try simp only [List.getElem_toArray, List.getElem_cons_succ, List.getElem_cons_zero, Act.put, List.setIfInBounds_toArray, List.set_cons_zero, List.set_cons_succ]
  refine wpAnyH_take (i := 8) (v := ?_) rfl (by kernel_rfl) (by kernel_rfl) (by kernel_rfl) (fun _ _ _ h => h) (Or.inl ⟨by rfl, ?_⟩) hHeld ?_
  rotate_left
  · (intro wS hSw; (try dsimp only at hSw); (try go_split_ands); go_simp; try with_reducible rfl)
  try simp only [List.getElem_toArray, List.getElem_cons_succ, List.getElem_cons_zero, Act.put, List.setIfInBounds_toArray, List.set_cons_zero, List.set_cons_succ]
  refine wpAnyH_take (i := 9) (v := ?_) rfl (by kernel_rfl) (by kernel_rfl) (by kernel_rfl) (fun _ _ _ h => h) (Or.inl ⟨by rfl, ?_⟩) hHeld ?_
  rotate_left
  · (intro wS hSw; (try dsimp only at hSw); (try go_split_ands); go_simp; try with_reducible rfl)
  try simp only [List.getElem_toArray, List.getElem_cons_succ, List.getElem_cons_zero, Act.put, List.setIfInBounds_toArray, List.set_cons_zero, List.set_cons_succ]
  refine wpAnyH_take (i := 10) (v := ?_) rfl (by kernel_rfl) (by kernel_rfl) (by kernel_rfl) (fun _ _ _ h => h) (Or.inl ⟨by rfl, ?_⟩) hHeld ?_
  rotate_left
  · (intro wS hSw; (try dsimp only at hSw); (try go_split_ands); go_simp; try with_reducible rfl)
  try simp only [List.getElem_toArray, List.getElem_cons_succ, List.getElem_cons_zero, Act.put, List.setIfInBounds_toArray, List.set_cons_zero, List.set_cons_succ]
  refine wpAnyH_done (by kernel_rfl) ?_ _
  replace A := Lib.hid hHeld.2.2.2.2
  clear hHeld
  have g0 := A.out.g.at_ 0 _ rfl
  have g1 := A.out.g.at_ 1 _ rfl
  have g2 := A.out.u.at_ 0 _ rfl
  have g3 := A.out.u.at_ 1 _ rfl
  go_upto_region 7 with (first
    | (go_at_call 11; ((with_reducible refine (cp _ A.out.b).mono ?_); clear cp; rintro e W3 ⟨b1, c1, rfl, hn, hb⟩; have E1 := Lib.hid (Bt.new hn 0); replace A := Lib.hid ((A.out.keep hb).keep (al1 (.cells #[.int .i64 0, .slice b1 P.length c1] 24)));  clear hb hn; (try clear g0 g1 g2 g3); have g0 := A.out.g.at_ 0 _ rfl; have g1 := A.out.g.at_ 1 _ rfl; have g2 := A.out.u.at_ 0 _ rfl; have g3 := A.out.u.at_ 1 _ rfl))
    | (go_at_call 12; ((with_reducible refine (cq _ A.out.b).mono ?_); clear cq; rintro e W4 ⟨b2, c2, rfl, hn, hb⟩; have E2 := Lib.hid (Bt.new hn 0); replace A := Lib.hid ((A.out.keep hb).keep (al1 (.cells #[.int .i64 0, .slice b2 P.length c2] 24))); replace E1 := Lib.hid ((E1.out.keep hb).keep (al1 (.cells #[.int .i64 0, .slice b2 P.length c2] 24))); clear hb hn; (try clear g0 g1 g2 g3); have g0 := A.out.g.at_ 0 _ rfl; have g1 := A.out.g.at_ 1 _ rfl; have g2 := A.out.u.at_ 0 _ rfl; have g3 := A.out.u.at_ 1 _ rfl))
    | (go_at_call 13; ((with_reducible refine (cs _ A.out.b).mono ?_); clear cs; rintro e W5 ⟨b3, c3, rfl, hn, hb⟩; have E3 := Lib.hid (Bt.new hn r); replace A := Lib.hid ((A.out.keep hb).keep (al1 (.cells #[.int .i64 r, .slice b3 Q.length c3] 24))); replace E1 := Lib.hid ((E1.out.keep hb).keep (al1 (.cells #[.int .i64 r, .slice b3 Q.length c3] 24))); replace E2 := Lib.hid ((E2.out.keep hb).keep (al1 (.cells #[.int .i64 r, .slice b3 Q.length c3] 24))); clear hb hn; (try clear g0 g1 g2 g3); have g0 := A.out.g.at_ 0 _ rfl; have g1 := A.out.g.at_ 1 _ rfl; have g2 := A.out.u.at_ 0 _ rfl; have g3 := A.out.u.at_ 1 _ rfl))
    | (go_at_call 14; ((with_reducible refine (cr _ A.out.b).mono ?_); clear cr; rintro e W6 ⟨b4, c4, rfl, hn, hb⟩; have E4 := Lib.hid (Bt.new hn r); replace A := Lib.hid ((A.out.keep hb).keep (al1 (.cells #[.int .i64 r, .slice b4 Q.length c4] 24))); replace E1 := Lib.hid ((E1.out.keep hb).keep (al1 (.cells #[.int .i64 r, .slice b4 Q.length c4] 24))); replace E2 := Lib.hid ((E2.out.keep hb).keep (al1 (.cells #[.int .i64 r, .slice b4 Q.length c4] 24))); replace E3 := Lib.hid ((E3.out.keep hb).keep (al1 (.cells #[.int .i64 r, .slice b4 Q.length c4] 24))); clear hb hn; (try clear g0 g1 g2 g3); have g0 := A.out.g.at_ 0 _ rfl; have g1 := A.out.g.at_ 1 _ rfl; have g2 := A.out.u.at_ 0 _ rfl; have g3 := A.out.u.at_ 1 _ rfl))
    | fail)
  have F := Lib.hid (show F7 w t0 a0 cap0 N0 t1 a1 cap1 N1 W3.heap.size W4.heap.size W5.heap.size W6.heap.size P Q r b1 b2 b3 b4 c1 c2 c3 c4 _ from ⟨A.out, E1.out, E2.out, E3.out, E4.out⟩)
  clear A E1 E2 E3 E4 g0 g1 g2 g3 hl' hl2 hl3
  obtain ⟨q1, hq1⟩ : ∃ q, W3.heap.size = q := ⟨_, rfl⟩
  obtain ⟨q2, hq2⟩ : ∃ q, W4.heap.size = q := ⟨_, rfl⟩
  obtain ⟨q3, hq3⟩ : ∃ q, W5.heap.size = q := ⟨_, rfl⟩
  obtain ⟨q4, hq4⟩ : ∃ q, W6.heap.size = q := ⟨_, rfl⟩
  rw [hq1, hq2, hq3, hq4] at F ⊢
  clear hq1 hq2 hq3 hq4
  generalize (World.alloc W6 _ : World) = W7 at *
  go_cut [123] from 65 to 123 (fun y wx => y = .bool false ∧ T3 w t0 a0 cap0 N0 t1 a1 cap1 N1 wx)
  case first =>
    refine wp_region_held_drew (S := (fun W => W.cell? ⟨w.heap.size, 0, none⟩ = some (.int .i64 t0) ∧ W.cell? ⟨w.heap.size, 1, none⟩ = some (.slice a0 N0.length cap0) ∧ W.cell? ⟨w.heap.size + 1, 0, none⟩ = some (.int .i64 t1) ∧ W.cell? ⟨w.heap.size + 1, 1, none⟩ = some (.slice a1 N1.length cap1) ∧ W.cell? ⟨q1, 0, none⟩ = some (.int .i64 0) ∧ W.cell? ⟨q1, 1, none⟩ = some (.slice b1 P.length c1) ∧ W.cell? ⟨q2, 0, none⟩ = some (.int .i64 0) ∧ W.cell? ⟨q2, 1, none⟩ = some (.slice b2 P.length c2) ∧ W.cell? ⟨q3, 0, none⟩ = some (.int .i64 r) ∧ W.cell? ⟨q3, 1, none⟩ = some (.slice b3 Q.length c3) ∧ W.cell? ⟨q4, 0, none⟩ = some (.int .i64 r) ∧ W.cell? ⟨q4, 1, none⟩ = some (.slice b4 Q.length c4) ∧ F7 w t0 a0 cap0 N0 t1 a1 cap1 N1 q1 q2 q3 q4 P Q r b1 b2 b3 b4 c1 c2 c3 c4 W)) (by kernel_rfl) (by first | exact F7.conj F.out | exact F7.conj (F.out.keep (Below.refl _ _).drew)) (fun hHeld => ?_)
    refine wpAnyH_take (i := 0) (v := ?_) rfl (by kernel_rfl) (by kernel_rfl) (by kernel_rfl) (fun _ _ _ h => h) (Or.inl ⟨by rfl, ?_⟩) hHeld ?_
    rotate_left
    · (intro wS hSw; (try dsimp only at hSw); (try go_split_ands); go_simp; try with_reducible rfl)
    try simp only [List.getElem_toArray, List.getElem_cons_succ, List.getElem_cons_zero, Act.put, List.setIfInBounds_toArray, List.set_cons_zero, List.set_cons_succ]
    refine wpAnyH_take (i := 1) (v := ?_) rfl (by kernel_rfl) (by kernel_rfl) (by kernel_rfl) (fun _ _ _ h => h) (Or.inl ⟨by rfl, ?_⟩) hHeld ?_
    rotate_left
    · (intro wS hSw; (try dsimp only at hSw); (try go_split_ands); go_simp; try with_reducible rfl)
    try simp only [List.getElem_toArray, List.getElem_cons_succ, List.getElem_cons_zero, Act.put, List.setIfInBounds_toArray, List.set_cons_zero, List.set_cons_succ]
    refine wpAnyH_take (i := 2) (v := ?_) rfl (by kernel_rfl) (by kernel_rfl) (by kernel_rfl) (fun _ _ _ h => h) (Or.inl ⟨by rfl, ?_⟩) hHeld ?_
    rotate_left
    · (intro wS hSw; (try dsimp only at hSw); (try go_split_ands); go_simp; try with_reducible rfl)
    try simp only [List.getElem_toArray, List.getElem_cons_succ, List.getElem_cons_zero, Act.put, List.setIfInBounds_toArray, List.set_cons_zero, List.set_cons_succ]
    refine wpAnyH_take (i := 3) (v := ?_) rfl (by kernel_rfl) (by kernel_rfl) (by kernel_rfl) (fun _ _ _ h => h) (Or.inl ⟨by rfl, ?_⟩) hHeld ?_
    rotate_left
    · (intro wS hSw; (try dsimp only at hSw); (try go_split_ands); go_simp; try with_reducible rfl)
    try simp only [List.getElem_toArray, List.getElem_cons_succ, List.getElem_cons_zero, Act.put, List.setIfInBounds_toArray, List.set_cons_zero, List.set_cons_succ]
    refine wpAnyH_take (i := 4) (v := ?_) rfl (by kernel_rfl) (by kernel_rfl) (by kernel_rfl) (fun _ _ _ h => h) (Or.inl ⟨by rfl, ?_⟩) hHeld ?_
    rotate_left
    · (intro wS hSw; (try dsimp only at hSw); (try go_split_ands); go_simp; try with_reducible rfl)
    try simp only [List.getElem_toArray, List.getElem_cons_succ, List.getElem_cons_zero, Act.put, List.setIfInBounds_toArray, List.set_cons_zero, List.set_cons_succ]
    refine wpAnyH_take (i := 5) (v := ?_) rfl (by kernel_rfl) (by kernel_rfl) (by kernel_rfl) (fun _ _ _ h => h) (Or.inl ⟨by rfl, ?_⟩) hHeld ?_
    rotate_left
    · (intro wS hSw; (try dsimp only at hSw); (try go_split_ands); go_simp; try with_reducible rfl)
    try simp only [List.getElem_toArray, List.getElem_cons_succ, List.getElem_cons_zero, Act.put, List.setIfInBounds_toArray, List.set_cons_zero, List.set_cons_succ]
    refine wpAnyH_ready (rs := [6]) (by kernel_rfl) (by simp) ?_
    refine AllReadyH.cons rfl (fun K hK => ?_) AllReadyH.nil
    go_simp
    (go_at_call 15; ((with_reducible refine (crw _ 0 P _ _ _ _ HLP.out.1 hHeld.2.2.2.2.2.2.2.2.2.2.2.2.e1.n hHeld.2.2.2.2.2.2.2.2.2.2.2.2.e2.n).mono ?_); rintro e X ⟨rfl, hX⟩))
    refine hK.out _ _ ?_ (fun hNext => ?_)
    · exact F7.conj (hHeld.2.2.2.2.2.2.2.2.2.2.2.2.keep hX)
    clear hX
    clear hK K hHeld
    have hHeld := hNext
    clear hNext
    try simp only [List.getElem_toArray, List.getElem_cons_succ, List.getElem_cons_zero, Act.put, List.setIfInBounds_toArray, List.set_cons_zero, List.set_cons_succ]
    refine wpAnyH_take (i := 7) (v := ?_) rfl (by kernel_rfl) (by kernel_rfl) (by kernel_rfl) (fun _ _ _ h => h) (Or.inl ⟨by rfl, ?_⟩) hHeld ?_
    rotate_left
    · (intro wS hSw; (try dsimp only at hSw); (try go_split_ands); go_simp; try with_reducible rfl)
    try simp only [List.getElem_toArray, List.getElem_cons_succ, List.getElem_cons_zero, Act.put, List.setIfInBounds_toArray, List.set_cons_zero, List.set_cons_succ]
    refine wpAnyH_take (i := 8) (v := ?_) rfl (by kernel_rfl) (by kernel_rfl) (by kernel_rfl) (fun _ _ _ h => h) (Or.inl ⟨by rfl, ?_⟩) hHeld ?_
    rotate_left
    · (intro wS hSw; (try dsimp only at hSw); (try go_split_ands); go_simp; try with_reducible rfl)
    try simp only [List.getElem_toArray, List.getElem_cons_succ, List.getElem_cons_zero, Act.put, List.setIfInBounds_toArray, List.set_cons_zero, List.set_cons_succ]
    refine wpAnyH_take (i := 9) (v := ?_) rfl (by kernel_rfl) (by kernel_rfl) (by kernel_rfl) (fun _ _ _ h => h) (Or.inl ⟨by rfl, ?_⟩) hHeld ?_
    rotate_left
    · (intro wS hSw; (try dsimp only at hSw); (try go_split_ands); go_simp; try with_reducible rfl)
    try simp only [List.getElem_toArray, List.getElem_cons_succ, List.getElem_cons_zero, Act.put, List.setIfInBounds_toArray, List.set_cons_zero, List.set_cons_succ]
    refine wpAnyH_take (i := 10) (v := ?_) rfl (by kernel_rfl) (by kernel_rfl) (by kernel_rfl) (fun _ _ _ h => h) (Or.inl ⟨by rfl, ?_⟩) hHeld ?_
    rotate_left
    · (intro wS hSw; (try dsimp only at hSw); (try go_split_ands); go_simp; try with_reducible rfl)
    try simp only [List.getElem_toArray, List.getElem_cons_succ, List.getElem_cons_zero, Act.put, List.setIfInBounds_toArray, List.set_cons_zero, List.set_cons_succ]
    refine wpAnyH_take (i := 11) (v := ?_) rfl (by kernel_rfl) (by kernel_rfl) (by kernel_rfl) (fun _ _ _ h => h) (Or.inl ⟨by rfl, ?_⟩) hHeld ?_
    rotate_left
    · (intro wS hSw; (try dsimp only at hSw); (try go_split_ands); go_simp; try with_reducible rfl)
    try simp only [List.getElem_toArray, List.getElem_cons_succ, List.getElem_cons_zero, Act.put, List.setIfInBounds_toArray, List.set_cons_zero, List.set_cons_succ]
    refine wpAnyH_take (i := 12) (v := ?_) rfl (by kernel_rfl) (by kernel_rfl) (by kernel_rfl) (fun _ _ _ h => h) (Or.inl ⟨by rfl, ?_⟩) hHeld ?_
    rotate_left
    · (intro wS hSw; (try dsimp only at hSw); (try go_split_ands); go_simp; try with_reducible rfl)
    try simp only [List.getElem_toArray, List.getElem_cons_succ, List.getElem_cons_zero, Act.put, List.setIfInBounds_toArray, List.set_cons_zero, List.set_cons_succ]
    refine wpAnyH_take (i := 13) (v := ?_) rfl (by kernel_rfl) (by kernel_rfl) (by kernel_rfl) (fun _ _ _ h => h) (Or.inl ⟨by rfl, ?_⟩) hHeld ?_
    rotate_left
    · (intro wS hSw; (try dsimp only at hSw); (try go_split_ands); go_simp; try with_reducible rfl)
    try simp only [List.getElem_toArray, List.getElem_cons_succ, List.getElem_cons_zero, Act.put, List.setIfInBounds_toArray, List.set_cons_zero, List.set_cons_succ]
    refine wpAnyH_take (i := 14) (v := ?_) rfl (by kernel_rfl) (by kernel_rfl) (by kernel_rfl) (fun _ _ _ h => h) (Or.inl ⟨by rfl, ?_⟩) hHeld ?_
    rotate_left
    · (intro wS hSw; (try dsimp only at hSw); (try go_split_ands); go_simp; try with_reducible rfl)
    try simp only [List.getElem_toArray, List.getElem_cons_succ, List.getElem_cons_zero, Act.put, List.setIfInBounds_toArray, List.set_cons_zero, List.set_cons_succ]
    refine wpAnyH_take (i := 15) (v := ?_) rfl (by kernel_rfl) (by kernel_rfl) (by kernel_rfl) (fun _ _ _ h => h) (Or.inl ⟨by rfl, ?_⟩) hHeld ?_
    rotate_left
    · (intro wS hSw; (try dsimp only at hSw); (try go_split_ands); go_simp; try with_reducible rfl)
    try simp only [List.getElem_toArray, List.getElem_cons_succ, List.getElem_cons_zero, Act.put, List.setIfInBounds_toArray, List.set_cons_zero, List.set_cons_succ]
    refine wpAnyH_take (i := 16) (v := ?_) rfl (by kernel_rfl) (by kernel_rfl) (by kernel_rfl) (fun _ _ _ h => h) (Or.inl ⟨by rfl, ?_⟩) hHeld ?_
    rotate_left
    · (intro wS hSw; (try dsimp only at hSw); (try go_split_ands); go_simp; try with_reducible rfl)
    try simp only [List.getElem_toArray, List.getElem_cons_succ, List.getElem_cons_zero, Act.put, List.setIfInBounds_toArray, List.set_cons_zero, List.set_cons_succ]
    refine wpAnyH_ready (rs := [17]) (by kernel_rfl) (by simp) ?_
    refine AllReadyH.cons rfl (fun K hK => ?_) AllReadyH.nil
    go_simp
    (go_at_call 15; ((with_reducible refine (crw _ r Q _ _ _ _ HLP.out.2 hHeld.2.2.2.2.2.2.2.2.2.2.2.2.e3.n hHeld.2.2.2.2.2.2.2.2.2.2.2.2.e4.n).mono ?_); rintro e X ⟨rfl, hX⟩))
    refine hK.out _ _ ?_ (fun hNext => ?_)
    · exact F7.conj (hHeld.2.2.2.2.2.2.2.2.2.2.2.2.keep hX)
    clear hX
    clear hK K hHeld
    have hHeld := hNext
    clear hNext
    try simp only [List.getElem_toArray, List.getElem_cons_succ, List.getElem_cons_zero, Act.put, List.setIfInBounds_toArray, List.set_cons_zero, List.set_cons_succ]
    refine wpAnyH_take (i := 18) (v := ?_) rfl (by kernel_rfl) (by kernel_rfl) (by kernel_rfl) (fun _ _ _ h => h) (Or.inl ⟨by rfl, ?_⟩) hHeld ?_
    rotate_left
    · (intro wS hSw; (try dsimp only at hSw); (try go_split_ands); go_simp; try with_reducible rfl)
    try simp only [List.getElem_toArray, List.getElem_cons_succ, List.getElem_cons_zero, Act.put, List.setIfInBounds_toArray, List.set_cons_zero, List.set_cons_succ]
    refine wpAnyH_take (i := 19) (v := ?_) rfl (by kernel_rfl) (by kernel_rfl) (by kernel_rfl) (fun _ _ _ h => h) (Or.inl ⟨by rfl, ?_⟩) hHeld ?_
    rotate_left
    · (intro wS hSw; (try dsimp only at hSw); (try go_split_ands); go_simp; try with_reducible rfl)
    try simp only [List.getElem_toArray, List.getElem_cons_succ, List.getElem_cons_zero, Act.put, List.setIfInBounds_toArray, List.set_cons_zero, List.set_cons_succ]
    refine wpAnyH_take (i := 20) (v := ?_) rfl (by kernel_rfl) (by kernel_rfl) (by kernel_rfl) (fun _ _ _ h => h) (Or.inl ⟨by rfl, ?_⟩) hHeld ?_
    rotate_left
    · (intro wS hSw; (try dsimp only at hSw); (try go_split_ands); go_simp; try with_reducible rfl)
    try simp only [List.getElem_toArray, List.getElem_cons_succ, List.getElem_cons_zero, Act.put, List.setIfInBounds_toArray, List.set_cons_zero, List.set_cons_succ]
    refine wpAnyH_take (i := 21) (v := ?_) rfl (by kernel_rfl) (by kernel_rfl) (by kernel_rfl) (fun _ _ _ h => h) (Or.inl ⟨by rfl, ?_⟩) hHeld ?_
    rotate_left
    · (intro wS hSw; (try dsimp only at hSw); (try go_split_ands); go_simp; try with_reducible rfl)
    try simp only [List.getElem_toArray, List.getElem_cons_succ, List.getElem_cons_zero, Act.put, List.setIfInBounds_toArray, List.set_cons_zero, List.set_cons_succ]
    refine wpAnyH_take (i := 23) (v := ?_) rfl (by kernel_rfl) (by kernel_rfl) (by kernel_rfl) (fun _ _ _ h => h) (Or.inl ⟨by rfl, ?_⟩) hHeld ?_
    rotate_left
    · (intro wS hSw; (try dsimp only at hSw); (try go_split_ands); go_simp; try with_reducible rfl)
    try simp only [List.getElem_toArray, List.getElem_cons_succ, List.getElem_cons_zero, Act.put, List.setIfInBounds_toArray, List.set_cons_zero, List.set_cons_succ]
    refine wpAnyH_ready (rs := [22]) (by kernel_rfl) (by simp) ?_
    refine AllReadyH.cons rfl (fun K hK => ?_) AllReadyH.nil
    go_simp
    (go_at_call 16; ((with_reducible refine (cm _ hHeld.2.2.2.2.2.2.2.2.2.2.2.2.t.b).mono ?_); rintro e X ⟨rfl, hX⟩))
    refine hK.out _ _ ?_ (fun hNext => ?_)
    · exact F7.conj (hHeld.2.2.2.2.2.2.2.2.2.2.2.2.keep hX)
    clear hX
    clear hK K hHeld
    have hHeld := hNext
    clear hNext
    try simp only [List.getElem_toArray, List.getElem_cons_succ, List.getElem_cons_zero, Act.put, List.setIfInBounds_toArray, List.set_cons_zero, List.set_cons_succ]
    refine wpAnyH_take (i := 24) (v := ?_) rfl (by kernel_rfl) (by kernel_rfl) (by kernel_rfl) (fun _ _ _ h => h) (Or.inl ⟨by rfl, ?_⟩) hHeld ?_
    rotate_left
    · (intro wS hSw; (try dsimp only at hSw); (try go_split_ands); go_simp; try with_reducible rfl)
    try simp only [List.getElem_toArray, List.getElem_cons_succ, List.getElem_cons_zero, Act.put, List.setIfInBounds_toArray, List.set_cons_zero, List.set_cons_succ]
    refine wpAnyH_take (i := 25) (v := ?_) rfl (by kernel_rfl) (by kernel_rfl) (by kernel_rfl) (fun _ _ _ h => h) (Or.inl ⟨by rfl, ?_⟩) hHeld ?_
    rotate_left
    · (intro wS hSw; (try dsimp only at hSw); (try go_split_ands); go_simp; try with_reducible rfl)
    try simp only [List.getElem_toArray, List.getElem_cons_succ, List.getElem_cons_zero, Act.put, List.setIfInBounds_toArray, List.set_cons_zero, List.set_cons_succ]
    refine wpAnyH_take (i := 26) (v := ?_) rfl (by kernel_rfl) (by kernel_rfl) (by kernel_rfl) (fun _ _ _ h => h) (Or.inl ⟨by rfl, ?_⟩) hHeld ?_
    rotate_left
    · (intro wS hSw; (try dsimp only at hSw); (try go_split_ands); go_simp; try with_reducible rfl)
    try simp only [List.getElem_toArray, List.getElem_cons_succ, List.getElem_cons_zero, Act.put, List.setIfInBounds_toArray, List.set_cons_zero, List.set_cons_succ]
    refine wpAnyH_take (i := 27) (v := ?_) rfl (by kernel_rfl) (by kernel_rfl) (by kernel_rfl) (fun _ _ _ h => h) (Or.inl ⟨by rfl, ?_⟩) hHeld ?_
    rotate_left
    · (intro wS hSw; (try dsimp only at hSw); (try go_split_ands); go_simp; try with_reducible rfl)
    try simp only [List.getElem_toArray, List.getElem_cons_succ, List.getElem_cons_zero, Act.put, List.setIfInBounds_toArray, List.set_cons_zero, List.set_cons_succ]
    refine wpAnyH_take (i := 28) (v := ?_) rfl (by kernel_rfl) (by kernel_rfl) (by kernel_rfl) (fun _ _ _ h => h) (Or.inl ⟨by rfl, ?_⟩) hHeld ?_
    rotate_left
    · (intro wS hSw; (try dsimp only at hSw); (try go_split_ands); go_simp; try with_reducible rfl)
    try simp only [List.getElem_toArray, List.getElem_cons_succ, List.getElem_cons_zero, Act.put, List.setIfInBounds_toArray, List.set_cons_zero, List.set_cons_succ]
    refine wpAnyH_take (i := 30) (v := ?_) rfl (by kernel_rfl) (by kernel_rfl) (by kernel_rfl) (fun _ _ _ h => h) (Or.inl ⟨by rfl, ?_⟩) hHeld ?_
    rotate_left
    · (intro wS hSw; (try dsimp only at hSw); (try go_split_ands); go_simp; try with_reducible rfl)
    try simp only [List.getElem_toArray, List.getElem_cons_succ, List.getElem_cons_zero, Act.put, List.setIfInBounds_toArray, List.set_cons_zero, List.set_cons_succ]
    refine wpAnyH_take (i := 31) (v := ?_) rfl (by kernel_rfl) (by kernel_rfl) (by kernel_rfl) (fun _ _ _ h => h) (Or.inl ⟨by rfl, ?_⟩) hHeld ?_
    rotate_left
    · (intro wS hSw; (try dsimp only at hSw); (try go_split_ands); go_simp; try with_reducible rfl)
    try simp only [List.getElem_toArray, List.getElem_cons_succ, List.getElem_cons_zero, Act.put, List.setIfInBounds_toArray, List.set_cons_zero, List.set_cons_succ]
    refine wpAnyH_ready (rs := [29]) (by kernel_rfl) (by simp) ?_
    refine AllReadyH.cons rfl (fun K hK => ?_) AllReadyH.nil
    go_simp
    (go_at_call 17; ((with_reducible refine (csm _ hHeld.2.2.2.2.2.2.2.2.2.2.2.2.t.b).mono ?_); rintro e X ⟨rfl, hX⟩))
    refine hK.out _ _ ?_ (fun hNext => ?_)
    · exact F7.conj (hHeld.2.2.2.2.2.2.2.2.2.2.2.2.keep hX)
    clear hX
    clear hK K hHeld
    have hHeld := hNext
    clear hNext
    try simp only [List.getElem_toArray, List.getElem_cons_succ, List.getElem_cons_zero, Act.put, List.setIfInBounds_toArray, List.set_cons_zero, List.set_cons_succ]
    refine wpAnyH_ready (rs := [32]) (by kernel_rfl) (by simp) ?_
    refine AllReadyH.cons rfl (fun K hK => ?_) AllReadyH.nil
    go_simp
    (go_at_call 18; ((with_reducible refine (cst _ hHeld.2.2.2.2.2.2.2.2.2.2.2.2.t.b).mono ?_); rintro e X ⟨rfl, hX⟩))
    refine hK.out _ _ ?_ (fun hNext => ?_)
    · exact F7.conj (hHeld.2.2.2.2.2.2.2.2.2.2.2.2.keep hX)
    clear hX
    clear hK K hHeld
    have hHeld := hNext
    clear hNext
    try simp only [List.getElem_toArray, List.getElem_cons_succ, List.getElem_cons_zero, Act.put, List.setIfInBounds_toArray, List.set_cons_zero, List.set_cons_succ]
    refine wpAnyH_take (i := 33) (v := ?_) rfl (by kernel_rfl) (by kernel_rfl) (by kernel_rfl) (fun _ _ _ h => h) (Or.inl ⟨by rfl, ?_⟩) hHeld ?_
    rotate_left
    · (intro wS hSw; (try dsimp only at hSw); (try go_split_ands); go_simp; try with_reducible rfl)
    try simp only [List.getElem_toArray, List.getElem_cons_succ, List.getElem_cons_zero, Act.put, List.setIfInBounds_toArray, List.set_cons_zero, List.set_cons_succ]
    refine wpAnyH_take (i := 34) (v := ?_) rfl (by kernel_rfl) (by kernel_rfl) (by kernel_rfl) (fun _ _ _ h => h) (Or.inl ⟨by rfl, ?_⟩) hHeld ?_
    rotate_left
    · (intro wS hSw; (try dsimp only at hSw); (try go_split_ands); go_simp; try with_reducible rfl)
    try simp only [List.getElem_toArray, List.getElem_cons_succ, List.getElem_cons_zero, Act.put, List.setIfInBounds_toArray, List.set_cons_zero, List.set_cons_succ]
    refine wpAnyH_take (i := 35) (v := ?_) rfl (by kernel_rfl) (by kernel_rfl) (by kernel_rfl) (fun _ _ _ h => h) (Or.inl ⟨by rfl, ?_⟩) hHeld ?_
    rotate_left
    · (intro wS hSw; (try dsimp only at hSw); (try go_split_ands); go_simp; try with_reducible rfl)
    try simp only [List.getElem_toArray, List.getElem_cons_succ, List.getElem_cons_zero, Act.put, List.setIfInBounds_toArray, List.set_cons_zero, List.set_cons_succ]
    refine wpAnyH_take (i := 36) (v := ?_) rfl (by kernel_rfl) (by kernel_rfl) (by kernel_rfl) (fun _ _ _ h => h) (Or.inl ⟨by rfl, ?_⟩) hHeld ?_
    rotate_left
    · (intro wS hSw; (try dsimp only at hSw); (try go_split_ands); go_simp; try with_reducible rfl)
    try simp only [List.getElem_toArray, List.getElem_cons_succ, List.getElem_cons_zero, Act.put, List.setIfInBounds_toArray, List.set_cons_zero, List.set_cons_succ]
    refine wpAnyH_take (i := 38) (v := ?_) rfl (by kernel_rfl) (by kernel_rfl) (by kernel_rfl) (fun _ _ _ h => h) (Or.inl ⟨by rfl, ?_⟩) hHeld ?_
    rotate_left
    · (intro wS hSw; (try dsimp only at hSw); (try go_split_ands); go_simp; try with_reducible rfl)
    try simp only [List.getElem_toArray, List.getElem_cons_succ, List.getElem_cons_zero, Act.put, List.setIfInBounds_toArray, List.set_cons_zero, List.set_cons_succ]
    refine wpAnyH_ready (rs := [37]) (by kernel_rfl) (by simp) ?_
    refine AllReadyH.cons rfl (fun K hK => ?_) AllReadyH.nil
    go_simp
    (go_at_call 20; ((with_reducible refine (cv _ hHeld.2.2.2.2.2.2.2.2.2.2.2.2.t.b).mono ?_); rintro e X ⟨av, cvv, rfl, hr, hX⟩))
    refine hK.out _ _ ?_ (fun hNext => ?_)
    · exact F7.conj (hHeld.2.2.2.2.2.2.2.2.2.2.2.2.keep hX)
    have V1 := Lib.hid hr
    clear hr
    clear hX
    clear hK K hHeld
    have hHeld := hNext
    clear hNext
    try simp only [List.getElem_toArray, List.getElem_cons_succ, List.getElem_cons_zero, Act.put, List.setIfInBounds_toArray, List.set_cons_zero, List.set_cons_succ]
    refine wpAnyH_ready (rs := [39]) (by kernel_rfl) (by simp) ?_
    refine AllReadyH.cons rfl (fun K hK => ?_) AllReadyH.nil
    go_simp
    (go_at_call 21; ((with_reducible refine (cv2 _ hHeld.2.2.2.2.2.2.2.2.2.2.2.2.t.b).mono ?_); rintro e X ⟨av2, cvv2, rfl, hr, hX⟩))
    refine hK.out _ _ ?_ (fun hNext => ?_)
    · exact F7.conj (hHeld.2.2.2.2.2.2.2.2.2.2.2.2.keep hX)
    have V2 := Lib.hid hr
    replace V1 := Lib.hid (V1.out.below hX)
    clear hr
    clear hX
    clear hK K hHeld
    have hHeld := hNext
    clear hNext
    try simp only [List.getElem_toArray, List.getElem_cons_succ, List.getElem_cons_zero, Act.put, List.setIfInBounds_toArray, List.set_cons_zero, List.set_cons_succ]
    refine wpAnyH_ready (rs := [40]) (by kernel_rfl) (by simp) ?_
    refine AllReadyH.cons rfl (fun K hK => ?_) AllReadyH.nil
    go_simp
    (go_at_call 19; ((with_reducible refine (ci _ _ _ _ _ V1.out V2.out).mono ?_); rintro e X ⟨rfl, hX⟩))
    refine hK.out _ _ ?_ (fun hNext => ?_)
    · exact F7.conj (hHeld.2.2.2.2.2.2.2.2.2.2.2.2.keep hX)
    clear hX
    clear hK K hHeld
    have hHeld := hNext
    clear hNext
    try simp only [List.getElem_toArray, List.getElem_cons_succ, List.getElem_cons_zero, Act.put, List.setIfInBounds_toArray, List.set_cons_zero, List.set_cons_succ]
    refine wpAnyH_take (i := 41) (v := ?_) rfl (by kernel_rfl) (by kernel_rfl) (by kernel_rfl) (fun _ _ _ h => h) (Or.inl ⟨by rfl, ?_⟩) hHeld ?_
    rotate_left
    · (intro wS hSw; (try dsimp only at hSw); (try go_split_ands); go_simp; try with_reducible rfl)
    try simp only [List.getElem_toArray, List.getElem_cons_succ, List.getElem_cons_zero, Act.put, List.setIfInBounds_toArray, List.set_cons_zero, List.set_cons_succ]
    refine wpAnyH_take (i := 42) (v := ?_) rfl (by kernel_rfl) (by kernel_rfl) (by kernel_rfl) (fun _ _ _ h => h) (Or.inl ⟨by rfl, ?_⟩) hHeld ?_
    rotate_left
    · (intro wS hSw; (try dsimp only at hSw); (try go_split_ands); go_simp; try with_reducible rfl)
    try simp only [List.getElem_toArray, List.getElem_cons_succ, List.getElem_cons_zero, Act.put, List.setIfInBounds_toArray, List.set_cons_zero, List.set_cons_succ]
    refine wpAnyH_take (i := 43) (v := ?_) rfl (by kernel_rfl) (by kernel_rfl) (by kernel_rfl) (fun _ _ _ h => h) (Or.inl ⟨by rfl, ?_⟩) hHeld ?_
    rotate_left
    · (intro wS hSw; (try dsimp only at hSw); (try go_split_ands); go_simp; try with_reducible rfl)
    try simp only [List.getElem_toArray, List.getElem_cons_succ, List.getElem_cons_zero, Act.put, List.setIfInBounds_toArray, List.set_cons_zero, List.set_cons_succ]
    refine wpAnyH_take (i := 44) (v := ?_) rfl (by kernel_rfl) (by kernel_rfl) (by kernel_rfl) (fun _ _ _ h => h) (Or.inl ⟨by rfl, ?_⟩) hHeld ?_
    rotate_left
    · (intro wS hSw; (try dsimp only at hSw); (try go_split_ands); go_simp; try with_reducible rfl)
    try simp only [List.getElem_toArray, List.getElem_cons_succ, List.getElem_cons_zero, Act.put, List.setIfInBounds_toArray, List.set_cons_zero, List.set_cons_succ]
    refine wpAnyH_take (i := 46) (v := ?_) rfl (by kernel_rfl) (by kernel_rfl) (by kernel_rfl) (fun _ _ _ h => h) (Or.inl ⟨by rfl, ?_⟩) hHeld ?_
    rotate_left
    · (intro wS hSw; (try dsimp only at hSw); (try go_split_ands); go_simp; try with_reducible rfl)
    try simp only [List.getElem_toArray, List.getElem_cons_succ, List.getElem_cons_zero, Act.put, List.setIfInBounds_toArray, List.set_cons_zero, List.set_cons_succ]
    refine wpAnyH_ready (rs := [45]) (by kernel_rfl) (by simp) ?_
    refine AllReadyH.cons rfl (fun K hK => ?_) AllReadyH.nil
    go_simp
    (go_at_call 23; ((with_reducible refine (ca _ hHeld.2.2.2.2.2.2.2.2.2.2.2.2.t.b).mono ?_); rintro e X ⟨aA, cA, rfl, hr, hX⟩))
    refine hK.out _ _ ?_ (fun hNext => ?_)
    · exact F7.conj (hHeld.2.2.2.2.2.2.2.2.2.2.2.2.keep hX)
    have Y1 := Lib.hid (hr.prs rfl)
    clear hr
    clear hX
    clear hK K hHeld
    have hHeld := hNext
    clear hNext
    try simp only [List.getElem_toArray, List.getElem_cons_succ, List.getElem_cons_zero, Act.put, List.setIfInBounds_toArray, List.set_cons_zero, List.set_cons_succ]
    refine wpAnyH_ready (rs := [47]) (by kernel_rfl) (by simp) ?_
    refine AllReadyH.cons rfl (fun K hK => ?_) AllReadyH.nil
    go_simp
    (go_at_call 24; ((with_reducible refine (ca2 _ hHeld.2.2.2.2.2.2.2.2.2.2.2.2.t.b).mono ?_); rintro e X ⟨aA2, cA2, rfl, hr, hX⟩))
    refine hK.out _ _ ?_ (fun hNext => ?_)
    · exact F7.conj (hHeld.2.2.2.2.2.2.2.2.2.2.2.2.keep hX)
    have Y2 := Lib.hid (hr.prs rfl)
    replace Y1 := Lib.hid (Y1.out.below hX)
    clear hr
    clear hX
    clear hK K hHeld
    have hHeld := hNext
    clear hNext
    try simp only [List.getElem_toArray, List.getElem_cons_succ, List.getElem_cons_zero, Act.put, List.setIfInBounds_toArray, List.set_cons_zero, List.set_cons_succ]
    refine wpAnyH_ready (rs := [48]) (by kernel_rfl) (by simp) ?_
    refine AllReadyH.cons rfl (fun K hK => ?_) AllReadyH.nil
    go_simp
    (go_at_call 22; ((with_reducible refine (csp _ _ _ _ _ Y1.out Y2.out).mono ?_); rintro e X ⟨rfl, hX⟩))
    refine hK.out _ _ ?_ (fun hNext => ?_)
    · exact F7.conj (hHeld.2.2.2.2.2.2.2.2.2.2.2.2.keep hX)
    clear hX
    clear hK K hHeld
    have hHeld := hNext
    clear hNext
    try simp only [List.getElem_toArray, List.getElem_cons_succ, List.getElem_cons_zero, Act.put, List.setIfInBounds_toArray, List.set_cons_zero, List.set_cons_succ]
    refine wpAnyH_take (i := 49) (v := ?_) rfl (by kernel_rfl) (by kernel_rfl) (by kernel_rfl) (fun _ _ _ h => h) (Or.inl ⟨by rfl, ?_⟩) hHeld ?_
    rotate_left
    · (intro wS hSw; (try dsimp only at hSw); (try go_split_ands); go_simp; try with_reducible rfl)
    try simp only [List.getElem_toArray, List.getElem_cons_succ, List.getElem_cons_zero, Act.put, List.setIfInBounds_toArray, List.set_cons_zero, List.set_cons_succ]
    refine wpAnyH_take (i := 50) (v := ?_) rfl (by kernel_rfl) (by kernel_rfl) (by kernel_rfl) (fun _ _ _ h => h) (Or.inl ⟨by rfl, ?_⟩) hHeld ?_
    rotate_left
    · (intro wS hSw; (try dsimp only at hSw); (try go_split_ands); go_simp; try with_reducible rfl)
    try simp only [List.getElem_toArray, List.getElem_cons_succ, List.getElem_cons_zero, Act.put, List.setIfInBounds_toArray, List.set_cons_zero, List.set_cons_succ]
    refine wpAnyH_take (i := 51) (v := ?_) rfl (by kernel_rfl) (by kernel_rfl) (by kernel_rfl) (fun _ _ _ h => h) (Or.inl ⟨by rfl, ?_⟩) hHeld ?_
    rotate_left
    · (intro wS hSw; (try dsimp only at hSw); (try go_split_ands); go_simp; try with_reducible rfl)
    try simp only [List.getElem_toArray, List.getElem_cons_succ, List.getElem_cons_zero, Act.put, List.setIfInBounds_toArray, List.set_cons_zero, List.set_cons_succ]
    refine wpAnyH_take (i := 52) (v := ?_) rfl (by kernel_rfl) (by kernel_rfl) (by kernel_rfl) (fun _ _ _ h => h) (Or.inl ⟨by rfl, ?_⟩) hHeld ?_
    rotate_left
    · (intro wS hSw; (try dsimp only at hSw); (try go_split_ands); go_simp; try with_reducible rfl)
    try simp only [List.getElem_toArray, List.getElem_cons_succ, List.getElem_cons_zero, Act.put, List.setIfInBounds_toArray, List.set_cons_zero, List.set_cons_succ]
    refine wpAnyH_take (i := 54) (v := ?_) rfl (by kernel_rfl) (by kernel_rfl) (by kernel_rfl) (fun _ _ _ h => h) (Or.inl ⟨by rfl, ?_⟩) hHeld ?_
    rotate_left
    · (intro wS hSw; (try dsimp only at hSw); (try go_split_ands); go_simp; try with_reducible rfl)
    try simp only [List.getElem_toArray, List.getElem_cons_succ, List.getElem_cons_zero, Act.put, List.setIfInBounds_toArray, List.set_cons_zero, List.set_cons_succ]
    refine wpAnyH_ready (rs := [53]) (by kernel_rfl) (by simp) ?_
    refine AllReadyH.cons rfl (fun K hK => ?_) AllReadyH.nil
    go_simp
    (go_at_call 25; ((with_reducible refine (co _ hHeld.2.2.2.2.2.2.2.2.2.2.2.2.t.b).mono ?_); rintro e X ⟨aO, cO, rfl, hr, hX⟩))
    refine hK.out _ _ ?_ (fun hNext => ?_)
    · exact F7.conj (hHeld.2.2.2.2.2.2.2.2.2.2.2.2.keep hX)
    have O1 := Lib.hid hr
    clear hr
    clear hX
    clear hK K hHeld
    have hHeld := hNext
    clear hNext
    try simp only [List.getElem_toArray, List.getElem_cons_succ, List.getElem_cons_zero, Act.put, List.setIfInBounds_toArray, List.set_cons_zero, List.set_cons_succ]
    refine wpAnyH_ready (rs := [55]) (by kernel_rfl) (by simp) ?_
    refine AllReadyH.cons rfl (fun K hK => ?_) AllReadyH.nil
    go_simp
    (go_at_call 26; ((with_reducible refine (co2 _ hHeld.2.2.2.2.2.2.2.2.2.2.2.2.t.b).mono ?_); rintro e X ⟨aO2, cO2, rfl, hr, hX⟩))
    refine hK.out _ _ ?_ (fun hNext => ?_)
    · exact F7.conj (hHeld.2.2.2.2.2.2.2.2.2.2.2.2.keep hX)
    have O2 := Lib.hid hr
    replace O1 := Lib.hid (O1.out.keep hX)
    clear hr
    clear hX
    clear hK K hHeld
    have hHeld := hNext
    clear hNext
    try simp only [List.getElem_toArray, List.getElem_cons_succ, List.getElem_cons_zero, Act.put, List.setIfInBounds_toArray, List.set_cons_zero, List.set_cons_succ]
    refine wpAnyH_ready (rs := [56]) (by kernel_rfl) (by simp) ?_
    refine AllReadyH.cons rfl (fun K hK => ?_) AllReadyH.nil
    go_simp
    (go_at_call 15; ((with_reducible refine (crw _ 0 (oneN LO) _ _ _ _ HLO.out O1.out O2.out).mono ?_); rintro e X ⟨rfl, hX⟩))
    refine hK.out _ _ ?_ (fun hNext => ?_)
    · exact F7.conj (hHeld.2.2.2.2.2.2.2.2.2.2.2.2.keep hX)
    clear hX
    clear hK K hHeld
    have hHeld := hNext
    clear hNext
    try simp only [List.getElem_toArray, List.getElem_cons_succ, List.getElem_cons_zero, Act.put, List.setIfInBounds_toArray, List.set_cons_zero, List.set_cons_succ]
    refine wpAnyH_take (i := 57) (v := ?_) rfl (by kernel_rfl) (by kernel_rfl) (by kernel_rfl) (fun _ _ _ h => h) (Or.inl ⟨by rfl, ?_⟩) hHeld ?_
    rotate_left
    · (intro wS hSw; (try dsimp only at hSw); (try go_split_ands); go_simp; try with_reducible rfl)
    try simp only [List.getElem_toArray, List.getElem_cons_succ, List.getElem_cons_zero, Act.put, List.setIfInBounds_toArray, List.set_cons_zero, List.set_cons_succ]
    refine wpAnyH_take (i := 58) (v := ?_) rfl (by kernel_rfl) (by kernel_rfl) (by kernel_rfl) (fun _ _ _ h => h) (Or.inl ⟨by rfl, ?_⟩) hHeld ?_
    rotate_left
    · (intro wS hSw; (try dsimp only at hSw); (try go_split_ands); go_simp; try with_reducible rfl)
    try simp only [List.getElem_toArray, List.getElem_cons_succ, List.getElem_cons_zero, Act.put, List.setIfInBounds_toArray, List.set_cons_zero, List.set_cons_succ]
    refine wpAnyH_done (by kernel_rfl) ?_ _
    have A := Lib.hid hHeld.2.2.2.2.2.2.2.2.2.2.2.2.t
    clear hHeld
    go_wp2_with (fail)
    go_meet
    case rel => exact ⟨rfl, A.out⟩
  case rest =>
    obtain ⟨rfl, hA⟩ := hcut
    have A := Lib.hid hA
    clear hA F crw cm csm cst cv cv2 ci ca ca2 csp co co2 cl0 cl1 HLP HLO
    have g0 := A.out.g.at_ 0 _ rfl
    have g1 := A.out.g.at_ 1 _ rfl
    cases x
    · have cf := fun W (hb : Below w.heap.size w W) => tfind_no t0 a2 a0 cap0 N0 W (HN.out.keep hb) HS.out (fun s hs => by have h := HP.out.tr.2 ⟨s, hs⟩; cases h)
      unfold trv at cf
      go_wp2_with (first
        | (go_at_call 27; ((with_reducible refine (cf _ A.out.b).mono ?_); clear cf g0 g1; rintro e W8 ⟨rfl, hb⟩; have HB8 := Lib.hid (bel1 (bel2 A.out.b hb) (.cells #[.int .i64 0, .slice none 0 0, .slice none 0 0] 41)); clear hb))
        | (go_at_call 10; ((with_reducible refine (caw _).mono ?_); clear caw; rintro e W9 ⟨rfl, hb⟩; have HB9 := Lib.hid (bel2 HB8.out hb); clear hb))
        | fail)
      go_ret
      exact ⟨rfl, HB9.out⟩
    · obtain ⟨s, hT⟩ := HP.out.tr.1 rfl
      have cf := fun W (hb : Below w.heap.size w W) => tfind_yes t0 a2 a0 cap0 N0 W (HN.out.keep hb) HS.out s hT
      have cph := fun W (hb : Below w.heap.size w W) => rpath_any t0 a2 a0 cap0 N0 W (HN.out.keep hb) HS.out s hT
      have hdl := dn_len N0 a2 s
      have hul : (dn N0 a2 s).u.length ≤ 460 := by
        have h2 := dn_ulen N0 a2 s
        have h3 := hT.all
        have h4 := HS.out.1
        omega
      unfold FdIs at cf
      unfold PhIs at cph
      unfold trv at cf cph
      generalize dn N0 a2 s = d at *
      obtain ⟨i, U, D⟩ := d
      dsimp only at cf cph hdl hul
      have ci := fun W (b c : Option Addr) (cb cc : Nat) (h : RI W b cb (preI U)) (h2 : RI W c cc (preI U)) => ints_any b c cb cc (preI U) (preI U) W h h2 true (by simp)
      simp only [preI_len] at ci
      obtain ⟨n, hn⟩ : ∃ n, U.length = n := ⟨_, rfl⟩
      rw [hn] at cf cph ci hdl hul
      have ctp := fun W (au ad : Option Addr) (cu cd : Nat) B (hB : B = true ↔ n = 0) => top_any (i : Int) au ad n n cu cd W (by omega) B hB
      have crt := fun W (au ad : Option Addr) (cu cd : Nat) (hR : RB W ad cd D) B (hB : D.getLast?.getD false = B) => right_any' (i : Int) au ad n cu cd D W (by omega) hdl.symm hR B hB
      unfold ptv at ctp crt
      have HDL := Lib.hid hdl
      have HUL := Lib.hid hul
      clear hdl hn hT hul HP HN HS
      go_upto_region 15 with (first
        | (go_at_call 27; ((with_reducible refine (cf _ A.out.b).mono ?_); clear cf g0 g1; rintro e W8 ⟨au, cu, ad, cd, rfl, hu, hd, hb⟩; have F8 := Lib.hid (Bk.new W8 #[.int .i64 (i : Int), .slice au n cu, .slice ad n cd] 41); have U1 := Lib.hid (hu.below (al1 (.cells #[.int .i64 (i : Int), .slice au n cu, .slice ad n cd] 41))); have D1 := Lib.hid (hd.below (al1 (.cells #[.int .i64 (i : Int), .slice au n cu, .slice ad n cd] 41))); replace A := Lib.hid (A.out.keep (bel1 hb (.cells #[.int .i64 (i : Int), .slice au n cu, .slice ad n cd] 41))); clear hb hu hd; have g0 := A.out.g.at_ 0 _ rfl; have g1 := A.out.g.at_ 1 _ rfl))
        | (go_at_call 28; ((with_reducible refine (cph _ A.out.b).mono ?_); clear cph g0 g1; rintro e W9 ⟨au2, cu2, ad2, cd2, rfl, hu, hd, hb⟩; have U2 := Lib.hid hu; have D2 := Lib.hid hd; replace A := Lib.hid (A.out.keep hb); replace F8 := Lib.hid (F8.out.keep hb); replace U1 := Lib.hid (U1.out.below hb); replace D1 := Lib.hid (D1.out.below hb); clear hb hu hd))
        | fail)
      obtain ⟨q8, hq8⟩ : ∃ q, W8.heap.size = q := ⟨_, rfl⟩
      rw [hq8] at F8 ⊢
      clear hq8
      have f0 := F8.out.at_ 0 _ rfl
      have f1 := F8.out.at_ 1 _ rfl
      have f2 := F8.out.at_ 2 _ rfl
      by_cases hn0 : n = 0
      · subst hn0
        have hD : D = [] := List.length_eq_zero_iff.1 HDL.out
        subst hD
        go_wp2_with (first
          | (go_at_call 19; ((with_reducible refine (ci _ _ _ _ _ U1.out U2.out).mono ?_); clear ci f0 f1 f2; rintro e X ⟨rfl, hX⟩; replace A := Lib.hid (A.out.keep hX); replace F8 := Lib.hid (F8.out.keep hX); replace D1 := Lib.hid (D1.out.below hX); clear hX; have f0 := F8.out.at_ 0 _ rfl; have f1 := F8.out.at_ 1 _ rfl; have f2 := F8.out.at_ 2 _ rfl))
          | (go_at_call 29; ((with_reducible refine (ctp _ _ _ _ _ true (by simp)).mono ?_); clear ctp f0 f1 f2; rintro e X2 ⟨rfl, hX⟩; replace A := Lib.hid (A.out.keep hX); replace F8 := Lib.hid (F8.out.keep hX); replace D1 := Lib.hid (D1.out.below hX); clear hX; have f0 := F8.out.at_ 0 _ rfl; have f1 := F8.out.at_ 1 _ rfl; have f2 := F8.out.at_ 2 _ rfl))
          | (go_at_call 30; ((with_reducible refine (crt _ _ _ _ _ D1.out false rfl).mono ?_); clear crt f0 f1 f2; rintro e X3 ⟨rfl, hX⟩; replace A := Lib.hid (A.out.keep hX); clear hX))
          | (go_at_call 10; ((with_reducible refine (caw _).mono ?_); clear caw; rintro e X4 ⟨rfl, hX⟩; have HB9 := Lib.hid (bel2 A.out.b hX); clear hX))
          | fail)
        go_loopw [203] (fun i wr => i = .int .i64 0 ∧ Below X3.heap.size X3 wr) (fun _ _ => 0)
        case atStart => exact ⟨rfl, Below.refl _ _⟩
        case round =>
          obtain ⟨rfl, hb⟩ := hrel
          have HB3 := Lib.hid (bel2 A.out.b hb)
          clear hb
          go_wp2_with (go_at_call 10; ((with_reducible refine (caw _).mono ?_); clear caw; rintro e X4 ⟨rfl, hX⟩; have HB9 := Lib.hid (bel2 HB3.out hX); clear hX))
          go_ret
          exact ⟨rfl, HB9.out⟩
      · obtain ⟨m, hm⟩ : ∃ m, n - 1 = m := ⟨_, rfl⟩
        have hmn : m < n := by omega
        obtain ⟨bl, hbl⟩ : ∃ bl, D[m]? = some bl := ⟨_, List.getElem?_eq_getElem (by rw [HDL.out]; exact hmn)⟩
        have HBL : Hid (D.getLast?.getD false = bl) := Lib.hid (by rw [List.getLast?_eq_getElem?, HDL.out, hm, hbl]; rfl)
        obtain ⟨b9, o9, rfl, c9⟩ := D2.out.2.2 m bl hbl
        have hun := HUL.out
        have hn1 : ((n : Int) == 0) = false := by rw [beq_eq_false_iff_ne]; omega
        have hn2 : (n == 0) = false := by rw [beq_eq_false_iff_ne]; exact hn0
        have hn3 : decide ((0 : Int) < (n : Int)) = true := decide_eq_true (by omega)
        have hn4 : 0 < n := by omega
        have hw1 : IntKind.i64.wrap ((n : Int) - 1) = (m : Int) := by rw [IntKind.wrap_i64]; omega
        have hw2 : wrap64 ((n : Int) - 1) = (m : Int) := by unfold wrap64; omega
        have hm0 : (0 : Int) ≤ (m : Int) := by omega
        have hm1 : (m : Int) < (n : Int) := by omega
        have C9 := Lib.hid c9
        clear hm c9 hbl hun
        go_upto_region 17 with (first
          | (go_at_call 19; ((with_reducible refine (ci _ _ _ _ _ U1.out U2.out).mono ?_); clear ci f0 f1 f2; rintro e X ⟨rfl, hX⟩; replace A := Lib.hid (A.out.keep hX); replace F8 := Lib.hid (F8.out.keep hX); replace D1 := Lib.hid (D1.out.below hX); replace D2 := Lib.hid (D2.out.below hX); replace C9 := Lib.hid (kc hX C9.out); clear hX; have f0 := F8.out.at_ 0 _ rfl; have f1 := F8.out.at_ 1 _ rfl; have f2 := F8.out.at_ 2 _ rfl))
          | (go_at_call 29; ((with_reducible refine (ctp _ _ _ _ _ false ⟨fun h => (by cases h), fun h => absurd h hn0⟩).mono ?_); clear ctp f0 f1 f2; rintro e X2 ⟨rfl, hX⟩; replace A := Lib.hid (A.out.keep hX); replace F8 := Lib.hid (F8.out.keep hX); replace D1 := Lib.hid (D1.out.below hX); replace D2 := Lib.hid (D2.out.below hX); replace C9 := Lib.hid (kc hX C9.out); clear hX; have f0 := F8.out.at_ 0 _ rfl; have f1 := F8.out.at_ 1 _ rfl; have f2 := F8.out.at_ 2 _ rfl))
          | (go_at_call 30; ((with_reducible refine (crt _ _ _ _ _ D1.out bl HBL.out).mono ?_); clear crt f0 f1 f2; rintro e X3 ⟨rfl, hX⟩; replace A := Lib.hid (A.out.keep hX); replace F8 := Lib.hid (F8.out.keep hX); replace D1 := Lib.hid (D1.out.below hX); replace D2 := Lib.hid (D2.out.below hX); have c9 := kc hX C9.out; clear hX))
          | fail)
        clear c9 C9 hw1 hw2 hn1 hn2 hn3 hm0 hm1
        go_wp2_with (fail)
        have HN0 := Lib.hid hn0
        clear hn0
        go_loopw [203] (fun i wr => ∃ k : Nat, k ≤ n ∧ i = .int .i64 k ∧ Below X3.heap.size X3 wr) (fun i _ => n - (intOf i).toNat)
        case atStart => exact ⟨0, Nat.zero_le _, rfl, Below.refl _ _⟩
        case round =>
          obtain ⟨k, hk, rfl, hb⟩ := hrel
          have HB3 := Lib.hid (bel2 A.out.b hb)
          by_cases hlt : k < n
          · obtain ⟨bk, hbk⟩ : ∃ bl, D[k]? = some bl := ⟨_, List.getElem?_eq_getElem (by rw [HDL.out]; exact hlt)⟩
            obtain ⟨_, _, e', ck⟩ := (D2.out.below hb).2.2 k bk hbk
            cases e'
            obtain ⟨b10, o10, rfl, dk⟩ := (D1.out.below hb).2.2 k bk hbk
            have f2 := (F8.out.keep hb).at_ 2 _ rfl
            have HB4 := Lib.hid hb
            have hk0 : (0 : Int) ≤ (k : Int) := by omega
            have hkl : (k : Int) < (n : Int) := by omega
            have hun := HUL.out
            clear hbk hb
            go_upto_region 20 with (fail)
            go_quiet (fail)
            go_wp2_with (fail)
            go_roundw
            case rel => exact ⟨k + 1, by omega, by go_num, below_drewN HB4.out _⟩
            case measure => simp [intOf]; omega
          · obtain rfl : k = n := by omega
            clear hb
            go_wp2_with (go_at_call 10; ((with_reducible refine (caw _).mono ?_); clear caw; rintro e X4 ⟨rfl, hX⟩; have HB9 := Lib.hid (bel2 HB3.out hX); clear hX))
            go_ret
            exact ⟨rfl, HB9.out⟩

theorem walk (t0 : Int) (a0 : Option Addr) (cap0 : Nat) (N0 : List Nd) (t1 : Int) (a1 : Option Addr) (cap1 : Nat) (N1 : List Nd) (a2 : Int) (a3 : Int) (a4 : Option Addr) (cap4 : Nat) (z4 : List Pr) (a5 : Int) (w : World) (w0 : Ns w a0 cap0 N0) (s0 : Mid N0) (w1 : Ns w a1 cap1 N1) (s1 : Mid N1) (w2 : (Lit.int .i64 a2).wf = true) (w3 : (Lit.int .i64 a3).wf = true) (w4 : Prs w a4 cap4 z4) (w5 : (Lit.int .i64 a5).wf = true) :
    Calls Try.prog 3 #[.agg #[.int .i64 t0, .slice a0 N0.length cap0], .agg #[.int .i64 t1, .slice a1 N1.length cap1], .int .i64 a2, .int .i64 a3, .slice a4 z4.length cap4, .int .i64 a5] w fun e w' => e = .returned (.bool true) ∧ Below w.heap.size w w' := by
  by_cases h0 : Lgt N0
  · by_cases h1 : Lgt N1
    · by_cases hl : z4.length ≤ 200
      · exact walk_in t0 a0 cap0 N0 t1 a1 cap1 N1 w w0 s0 w1 s1 a2 a3 a4 cap4 z4 w4 a5 h0 h1 hl
      · exact walk_long t0 a0 cap0 N0 t1 a1 cap1 N1 w w0 s0 w1 s1 a2 a3 a4 cap4 z4 w4 a5 h0 h1 (by omega)
    · exact walk_out01 t0 a0 cap0 N0 t1 a1 cap1 N1 w w0 s0 w1 s1 a2 a3 a4 cap4 z4 w4 a5 h0 h1
  · by_cases h1 : Lgt N1
    · exact walk_out10 t0 a0 cap0 N0 t1 a1 cap1 N1 w w0 s0 w1 s1 a2 a3 a4 cap4 z4 w4 a5 h0 h1
    · exact walk_out11 t0 a0 cap0 N0 t1 a1 cap1 N1 w w0 s0 w1 s1 a2 a3 a4 cap4 z4 w4 a5 h0 h1

set_option maxRecDepth 100000 in
theorem lifted (os : Os) (started : os.Started) (H : Type) (enc : TypeId × Value → H) :
    ReturnsInHanded {} Try.checked os 3 .any (Rows.treeFormsSpec.pre6 enc Try.prog Try.f3 Rows.treeFormsRow.domain false) (Rows.treeFormsSpec.post enc Try.prog Try.f3 false true false false) := by
  refine returnsInHanded_of_change_sized (C := Try.checked) own started (by kernel_rfl) Try.func3
    (ChangeSpec.witness6 (enc := enc) (C := Try.checked) false ⟨#[], #[.agg #[.int .i64 0, .slice none 0 0], .agg #[.int .i64 0, .slice none 0 0], .int .i64 0, .int .i64 0, .slice none 0 0, .int .i64 0], []⟩ 8 (by kernel_rfl) (by kernel_rfl) (by kernel_rfl) (by kernel_rfl)) ?_
  intro W base args ds gs before hval0 hW hcnd hsz _
  have hval : ∀ (j : Nat) t v, Try.f3.params[j]? = some t → args[j]? = some v → Value.okWide Try.prog W .any base t v := hval0
  have hW' := hW
  obtain ⟨p, q, hA0, hV, rfl, hfz, hnd⟩ := hW
  have hA : DataW.TrodAll enc Try.prog W 0 (fun _ => true) true Try.f3.params.toList args.toList ds p := hA0
  rw [Try.params3] at hA hval
  obtain ⟨v0, vs0, d0, ds0, p0, q0, hargs, rfl, rfl, h0, r0⟩ := trodAll_cons hA
  obtain ⟨v1, vs1, d1, ds1, p1, q1, rfl, rfl, rfl, h1, r1⟩ := trodAll_cons r0
  obtain ⟨v2, vs2, d2, ds2, p2, q2, rfl, rfl, rfl, h2, r2⟩ := trodAll_cons r1
  obtain ⟨v3, vs3, d3, ds3, p3, q3, rfl, rfl, rfl, h3, r3⟩ := trodAll_cons r2
  obtain ⟨v4, vs4, d4, ds4, p4, q4, rfl, rfl, rfl, h4, r4⟩ := trodAll_cons r3
  obtain ⟨v5, vs5, d5, ds5, p5, q5, rfl, rfl, rfl, h5, r5⟩ := trodAll_cons r4
  obtain ⟨rfl, rfl, rfl⟩ := trodAll_nil r5
  obtain rfl : args = #[v0, v1, v2, v3, v4, v5] := by cases args; simp_all
  obtain ⟨rfl, rfl⟩ := trodVars_none hV
  have k0 := h0
  have lt0 : ∀ x ∈ p0, x.block < W.heap.size := by obtain ⟨m, hm⟩ := k0; exact DataW.trod_lt m _ _ _ hm
  obtain ⟨u0, rfl, _⟩ := okWide_struct Try.underlying24 (hval 0 24 v0 rfl rfl)
  obtain ⟨t0_, a0, cap0, N0, e0, w0, s0⟩ := fields_tree (enc := enc) (w := W) (cs := u0.toList) (fuel := h0.choose) (by simpa [Value.cells] using h0.choose_spec) (fun n hn => by simpa using List.all_eq_true.1 hsz n (DataW.weights_mem_each (j := 0) rfl rfl n hn))
  obtain rfl : u0 = #[.int .i64 t0_, .slice a0 N0.length cap0] := by cases u0; simp_all
  have k1 := h1
  have lt1 : ∀ x ∈ p1, x.block < W.heap.size := by obtain ⟨m, hm⟩ := k1; exact DataW.trod_lt m _ _ _ hm
  obtain ⟨u1, rfl, _⟩ := okWide_struct Try.underlying24 (hval 1 24 v1 rfl rfl)
  obtain ⟨t1_, a1, cap1, N1, e1, w1, s1⟩ := fields_tree (enc := enc) (w := W) (cs := u1.toList) (fuel := h1.choose) (by simpa [Value.cells] using h1.choose_spec) (fun n hn => by simpa using List.all_eq_true.1 hsz n (DataW.weights_mem_each (j := 1) rfl rfl n hn))
  obtain rfl : u1 = #[.int .i64 t1_, .slice a1 N1.length cap1] := by cases u1; simp_all
  have k2 := h2
  have lt2 : ∀ x ∈ p2, x.block < W.heap.size := by obtain ⟨m, hm⟩ := k2; exact DataW.trod_lt m _ _ _ hm
  obtain ⟨a2, rfl, rfl, rfl, w2⟩ := open_int Try.underlying3 (hval 2 3 v2 rfl rfl) h2
  have k3 := h3
  have lt3 : ∀ x ∈ p3, x.block < W.heap.size := by obtain ⟨m, hm⟩ := k3; exact DataW.trod_lt m _ _ _ hm
  obtain ⟨a3, rfl, rfl, rfl, w3⟩ := open_int Try.underlying3 (hval 3 3 v3 rfl rfl) h3
  have k4 := h4
  have lt4 : ∀ x ∈ p4, x.block < W.heap.size := by obtain ⟨m, hm⟩ := k4; exact DataW.trod_lt m _ _ _ hm
  obtain ⟨b4, l4, c4, rfl⟩ := okWide_slice Try.underlying25 (hval 4 25 v4 rfl rfl)
  obtain ⟨a4, cap4, z4, e4, w4⟩ := open_pairs (enc := enc) (w := W) (v := .slice b4 l4 c4) (fuel := h4.choose) (by simpa [Value.cells] using h4.choose_spec)
  rw [e4] at hval k4 h4 hW' hval0 hA0
  have k5 := h5
  have lt5 : ∀ x ∈ p5, x.block < W.heap.size := by obtain ⟨m, hm⟩ := k5; exact DataW.trod_lt m _ _ _ hm
  obtain ⟨a5, rfl, rfl, rfl, w5⟩ := open_int Try.underlying3 (hval 5 3 v5 rfl rfl) h5
  clear hA0 hval0
  rw [e4]; refine (walk t0_ a0 cap0 N0 t1_ a1 cap1 N1 a2 a3 a4 cap4 z4 a5 W w0 s0 w1 s1 w2 w3 w4 w5).mono fun e W' ⟨he, bel⟩ => ?_
  subst he
  exact ⟨_, rfl, _, _, _, [], _, [], hW', trodAll_mk1 (shut_bool Try.underlying4 _), (trodAll_cons_mk (Below.trod laidOut (by kernel_rfl) (of_decide_eq_true (by kernel_rfl)) k0 bel lt0) (trodAll_cons_mk (Below.trod laidOut (by kernel_rfl) (of_decide_eq_true (by kernel_rfl)) k1 bel lt1) (trodAll_cons_mk (Below.trod laidOut (by kernel_rfl) (of_decide_eq_true (by kernel_rfl)) k2 bel lt2) (trodAll_cons_mk (Below.trod laidOut (by kernel_rfl) (of_decide_eq_true (by kernel_rfl)) k3 bel lt3) (trodAll_cons_mk (Below.trod laidOut (by kernel_rfl) (of_decide_eq_true (by kernel_rfl)) k4 bel lt4) (trodAll_cons_mk (Below.trod laidOut (by kernel_rfl) (of_decide_eq_true (by kernel_rfl)) k5 bel lt5) trodAll_mk0)))))), rfl, bel.frame _, fun h => by cases h⟩

theorem over : Rows.treeFormsRow.holds Try.pinned (OpenSpec.ofChange Rows.treeFormsSpec) :=
  OpenClaim.holds_of_wide 3 Try.f3 rfl rfl rfl rfl rfl rfl rfl ⟨rfl, rfl, rfl, rfl, rfl⟩ rfl rfl rfl rfl rfl (by kernel_rfl) Try.func3 (by kernel_rfl)
    (of_decide_eq_true (by kernel_rfl)) (by unfold Func.isWrapper; first | (rw [if_pos (by decide +kernel)]; kernel_rfl) | (rw [if_neg (by decide +kernel)]; exact ⟨rfl, rfl⟩))
    (fun os started H enc _ => lifted os started H enc)

theorem treeFormsHolds : Rows.TreeFormsSaid := over
#print axioms treeFormsHolds
end Go.Proofs.Ytlpjbgojijkdjaa.treeForms
