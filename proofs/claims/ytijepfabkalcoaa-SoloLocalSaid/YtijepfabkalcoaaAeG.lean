/- adapt.Bend exactly, of trees with room for two nodes more whose pairs are not too many. No condition: lemmas. -/
import Derived.Test.YtijepfabkalcoaaAeE
import Derived.Test.YtijepfabkalcoaaStH
namespace Go.Proofs.Ytijepfabkalcoaa
open Go.RowKit
set_option linter.all false

/-- What holds all along. -/
structure KB (w : World) (t : Int) (a : Option Addr) (cap : Nat) (N : List Nd) (h l c u m : Int) (W : World) : Prop where
  g : Tq W w.heap.size t a N.length cap
  p : Pl W (w.heap.size + 1) h l c u m
  r : Rq W (w.heap.size + 2)
  b : Below w.heap.size w W
section
variable {w W W' : World} {t : Int} {a : Option Addr} {cap : Nat} {N : List Nd} {h l c u m : Int}
theorem KB.keep (H : KB w t a cap N h l c u m W) (hb : Below W.heap.size W W') : KB w t a cap N h l c u m W' := ⟨H.g.keep hb, H.p.keep hb, H.r.keep hb, bel2 H.b hb⟩
theorem KB.conj (H : KB w t a cap N h l c u m W) {p : Addr} {x : Value} (hx : w.cell? p = some x) : W.cell? ⟨w.heap.size, 0, none⟩ = some (.int .i64 t) ∧ W.cell? ⟨w.heap.size, 1, none⟩ = some (.slice a N.length cap) ∧ W.cell? ⟨w.heap.size + 1, 0, none⟩ = some (.int .i64 h) ∧ W.cell? ⟨w.heap.size + 1, 1, none⟩ = some (.int .i64 l) ∧ W.cell? ⟨w.heap.size + 1, 2, none⟩ = some (.int .i64 c) ∧ W.cell? ⟨w.heap.size + 1, 3, none⟩ = some (.int .i64 u) ∧ W.cell? ⟨w.heap.size + 1, 4, none⟩ = some (.int .i64 m) ∧ W.cell? p = some x ∧ KB w t a cap N h l c u m W :=
  ⟨H.g.c0, H.g.c1, H.p.1, H.p.2.1, H.p.2.2.1, H.p.2.2.2.1, H.p.2.2.2.2, kc H.b hx, H⟩
theorem KB.new (w : World) (t : Int) (a : Option Addr) (cap : Nat) (N : List Nd) (h l c u m : Int) : KB w t a cap N h l c u m (((w.alloc (.cells #[.int .i64 t, .slice a N.length cap] 24)).alloc (.cells #[.int .i64 h, .int .i64 l, .int .i64 c, .int .i64 u, .int .i64 m] 26)).alloc (.cells #[.int .i64 0, .slice none 0 0] 24)) := by
  refine ⟨((Tq.new w t a N.length cap).keep (al1 _)).keep (al1 _), ?_, ?_, bel1 (bel1 (al1 _) _) _⟩
  · have h1 := (Pl.new (h := h) (l := l) (c := c) (u := u) (m := m) (w.alloc (.cells #[.int .i64 t, .slice a N.length cap] 24)) 26).keep (al1 (.cells #[.int .i64 0, .slice none 0 0] 24))
    simp only [World.size_alloc] at h1; exact h1
  · have h1 := Rq.new ((w.alloc (.cells #[.int .i64 t, .slice a N.length cap] 24)).alloc (.cells #[.int .i64 h, .int .i64 l, .int .i64 c, .int .i64 u, .int .i64 m] 26))
    simp only [World.size_alloc] at h1; exact h1
end
/-- What tells a tree and what was done. -/
def BnO (w : World) (d : Int) (Q : List Nd) (e : Ending) (w' : World) : Prop := ∃ ao cp, e = .returned (.tuple #[.agg #[.int .i64 0, .slice ao Q.length cp], .int .i64 d]) ∧ NsO w.heap.size w' ao cp Q ∧ Below w.heap.size w w'
set_option maxRecDepth 100000 in
set_option maxHeartbeats 6400000 in
theorem bend_no (t : Int) (a : Option Addr) (cap : Nat) (N : List Nd) (h l c u m y : Int) (w : World) (hN : Ns w a cap N) (hsm : Small N) (hno : ¬ ∃ s i, LfAt N t y s i) :
    Calls Try.prog 99 #[trv t a cap N, .agg #[.int .i64 h, .int .i64 l, .int .i64 c, .int .i64 u, .int .i64 m], .int .i64 y] w (BnO w 0 []) := by
  have K1 := Lib.hid (KB.new w t a cap N h l c u m)
  have ci := fun W (hb : Below w.heap.size w W) => ailf_any t a cap N y W (hN.keep hb) hsm false ⟨fun e => (by cases e), fun e => absurd e hno⟩
  unfold trv at ci ⊢
  clear hN hno hsm
  go_enter Try.func99, Try.ntmps99
  go_wp2_with (go_at_call 110; ((with_reducible refine (ci _ K1.out.b).mono ?_); clear ci; rintro e w3 ⟨rfl, hb3⟩; have K3 := Lib.hid (K1.out.keep hb3); clear hb3; have r0 := K3.out.r.c0; have r1 := K3.out.r.c1; have f0 := K3.out.r.fr 0; have f1 := K3.out.r.fr 1))
  exact bodyPost_ret (v := .tuple #[.agg #[.int .i64 0, .slice none 0 0], .int .i64 0]) (by simp [results, Try.results99, go_sem, r0, r1]) rfl ⟨none, 0, rfl, NsO.none _ _, ret_below K3.out.b (by omega) _ _⟩
set_option maxRecDepth 100000 in
set_option maxHeartbeats 6400000 in
theorem bend_s (t : Int) (a : Option Addr) (cap : Nat) (N : List Nd) (h l c u m h' l' c' u' m' : Int) (s : Sh) (i : Nat) (w : World) (hN : Ns w a cap N) (hsm : Small N) (hle : N.length + 2 ≤ 2000) (hT : ∀ s, Tr N s t → (allP N s.lvs).length ≤ 1100000) (hA : LfAt N t (i : Int) s i) (hC : Cl h l c u m h' l' c' u' m') (hv : dc h' l' (nd N i).s = 1) (Q : List Nd) (hO : SplO N t (i : Int) true Q) :
    Calls Try.prog 99 #[trv t a cap N, .agg #[.int .i64 h, .int .i64 l, .int .i64 c, .int .i64 u, .int .i64 m], .int .i64 (i : Int)] w (BnO w 1 Q) := by
  have K1 := Lib.hid (KB.new w t a cap N h l c u m)
  have ci := fun W (hb : Below w.heap.size w W) => ailf_any t a cap N (i : Int) W (hN.keep hb) hsm true ⟨fun _ => ⟨s, i, hA⟩, fun _ => rfl⟩
  have hil := hA.1.hg.lt i (lvs_pre s i hA.2.2)
  have hc1 := hN.1
  have hc2 := hN.2.1
  unfold maxLen at hc2
  have hi0 : (0 : Int) ≤ (i : Int) := by omega
  have hi1 : (i : Int) < (N.length : Int) := by omega
  have HN := Lib.hid hN
  obtain ⟨b, o, pa, pc, rfl, hni⟩ := hN.2.2 i _ (nd_get hil)
  have HE := Lib.hid hni.c5
  generalize (nd N i).s = st at HE hv
  have cd := fun W => decide_to h l c u m h' l' c' u' m' st hC W
  rw [hv] at cd
  have cx := fun W (hb : Below w.heap.size w W) => split_own t (some ⟨b, o, none⟩) cap N (i : Int) W (hN.keep hb) hsm hle true Q hO
  unfold trv PlBO at cx
  unfold trv at ci ⊢
  clear hN hsm hA hC hv hni hil hT hle hO
  go_enter Try.func99, Try.ntmps99
  go_upto_region 3 with (go_at_call 110; ((with_reducible refine (ci _ K1.out.b).mono ?_); clear ci; rintro e w3 ⟨rfl, hb3⟩; have K3 := Lib.hid (K1.out.keep hb3); clear hb3))
  refine wp_region_held_drew (S := (fun W => W.cell? ⟨w.heap.size, 0, none⟩ = some (.int .i64 t) ∧ W.cell? ⟨w.heap.size, 1, none⟩ = some (.slice (some ⟨b, o, none⟩) N.length cap) ∧ W.cell? ⟨w.heap.size + 1, 0, none⟩ = some (.int .i64 h) ∧ W.cell? ⟨w.heap.size + 1, 1, none⟩ = some (.int .i64 l) ∧ W.cell? ⟨w.heap.size + 1, 2, none⟩ = some (.int .i64 c) ∧ W.cell? ⟨w.heap.size + 1, 3, none⟩ = some (.int .i64 u) ∧ W.cell? ⟨w.heap.size + 1, 4, none⟩ = some (.int .i64 m) ∧ W.cell? ⟨b, o + i * 6 + 5, none⟩ = some (.int .i64 st) ∧ KB w t (some ⟨b, o, none⟩) cap N h l c u m W)) (by kernel_rfl) (by first | exact KB.conj K3.out HE.out | exact KB.conj (K3.out.keep (Below.refl _ _).drew) HE.out) (fun hHeld => ?_)
  refine tk 0 ?_ rfl (by kernel_rfl) (fun _ _ _ h => h) ⟨by rfl, ?_⟩ hHeld ?_; rotate_left
  · intro wS hSw; (try dsimp only at hSw); (try go_split_ands); go_simp; try with_reducible rfl
  refine tk 1 ?_ rfl (by kernel_rfl) (fun _ _ _ h => h) ⟨by rfl, ?_⟩ hHeld ?_; rotate_left
  · intro wS hSw; (try dsimp only at hSw); (try go_split_ands); go_simp; try with_reducible rfl
  refine tk 2 ?_ rfl (by kernel_rfl) (fun _ _ _ h => h) ⟨by rfl, ?_⟩ hHeld ?_; rotate_left
  · intro wS hSw; (try dsimp only at hSw); (try go_split_ands); go_simp; try with_reducible rfl
  refine tk 3 ?_ rfl (by kernel_rfl) (fun _ _ _ h => h) ⟨by rfl, ?_⟩ hHeld ?_; rotate_left
  · intro wS hSw; (try dsimp only at hSw); (try go_split_ands); go_simp; try with_reducible rfl
  refine tk 4 ?_ rfl (by kernel_rfl) (fun _ _ _ h => h) ⟨by rfl, ?_⟩ hHeld ?_; rotate_left
  · intro wS hSw; (try dsimp only at hSw); (try go_split_ands); go_simp; try with_reducible rfl
  refine tk 5 ?_ rfl (by kernel_rfl) (fun _ _ _ h => h) ⟨by rfl, ?_⟩ hHeld ?_; rotate_left
  · intro wS hSw; (try dsimp only at hSw); (try go_split_ands); go_simp; try with_reducible rfl
  refine tk 6 ?_ rfl (by kernel_rfl) (fun _ _ _ h => h) ⟨by rfl, ?_⟩ hHeld ?_; rotate_left
  · intro wS hSw; (try dsimp only at hSw); (try go_split_ands); go_simp; try with_reducible rfl
  try simp only [List.getElem_toArray, List.getElem_cons_succ, List.getElem_cons_zero, Act.put, List.setIfInBounds_toArray, List.set_cons_zero, List.set_cons_succ]
  refine wpAnyH_ready (rs := [7]) (by kernel_rfl) (by simp) ?_
  refine AllReadyH.cons rfl (fun K hK => ?_) AllReadyH.nil
  go_simp
  (go_at_call 111; ((with_reducible refine (cd _).mono ?_); rintro e X ⟨rfl, hbX⟩))
  refine hK.out _ _ ?_ (fun hNext => ?_)
  · exact KB.conj (hHeld.2.2.2.2.2.2.2.2.keep hbX) HE.out
  have K4 := Lib.hid (hHeld.2.2.2.2.2.2.2.2.keep hbX)
  clear hbX
  clear hK K hHeld
  have hHeld := hNext
  clear hNext
  try simp only [List.getElem_toArray, List.getElem_cons_succ, List.getElem_cons_zero, Act.put, List.setIfInBounds_toArray, List.set_cons_zero, List.set_cons_succ]
  refine wpAnyH_done (by kernel_rfl) ?_ _
  clear hHeld
  have k0 := K4.out.g.c0
  have k1 := K4.out.g.c1
  go_wp2_with (first
    | (go_at_call 112; ((with_reducible refine (cx _ K4.out.b).mono ?_); clear cx k0 k1; rintro e W5 ⟨a5, c5, rfl, hn5, hb5⟩; have K5 := Lib.hid ((K4.out.keep hb5).keep (al1 (.cells #[.int .i64 0, .slice a5 Q.length c5] 24))); have N5 := Lib.hid ((hn5.low (B' := w.heap.size + 3) (by have := K4.out.r.lt; omega)).keep (al1 (.cells #[.int .i64 0, .slice a5 Q.length c5] 24))); clear hn5 hb5; have r0 := K5.out.r.c0; have r1 := K5.out.r.c1; have f0 := K5.out.r.fr 0; have f1 := K5.out.r.fr 1))
    | fail)
  exact bodyPost_ret (v := .tuple #[.agg #[.int .i64 0, .slice a5 Q.length c5], .int .i64 1]) (by simp [results, Try.results99, go_sem, r0, r1]) rfl ⟨a5, c5, rfl, (N5.out.ret (q := w.heap.size + 2) (by omega) _ _).low (by omega), ret_below K5.out.b (by omega) _ _⟩
set_option maxRecDepth 100000 in
set_option maxHeartbeats 6400000 in
theorem bend_j (t : Int) (a : Option Addr) (cap : Nat) (N : List Nd) (h l c u m h' l' c' u' m' : Int) (s : Sh) (i : Nat) (w : World) (hN : Ns w a cap N) (hsm : Small N) (hle : N.length + 2 ≤ 2000) (hT : ∀ s, Tr N s t → (allP N s.lvs).length ≤ 1100000) (hA : LfAt N t (i : Int) s i) (hC : Cl h l c u m h' l' c' u' m') (hv : dc h' l' (nd N i).s = 2) (Q : List Nd) (hO : JoiO N t (i : Int) true Q) :
    Calls Try.prog 99 #[trv t a cap N, .agg #[.int .i64 h, .int .i64 l, .int .i64 c, .int .i64 u, .int .i64 m], .int .i64 (i : Int)] w (BnO w 2 Q) := by
  have K1 := Lib.hid (KB.new w t a cap N h l c u m)
  have ci := fun W (hb : Below w.heap.size w W) => ailf_any t a cap N (i : Int) W (hN.keep hb) hsm true ⟨fun _ => ⟨s, i, hA⟩, fun _ => rfl⟩
  have hil := hA.1.hg.lt i (lvs_pre s i hA.2.2)
  have hc1 := hN.1
  have hc2 := hN.2.1
  unfold maxLen at hc2
  have hi0 : (0 : Int) ≤ (i : Int) := by omega
  have hi1 : (i : Int) < (N.length : Int) := by omega
  have HN := Lib.hid hN
  obtain ⟨b, o, pa, pc, rfl, hni⟩ := hN.2.2 i _ (nd_get hil)
  have HE := Lib.hid hni.c5
  generalize (nd N i).s = st at HE hv
  have cd := fun W => decide_to h l c u m h' l' c' u' m' st hC W
  rw [hv] at cd
  have cx := fun W (hb : Below w.heap.size w W) => join_own t (some ⟨b, o, none⟩) cap N (i : Int) W (hN.keep hb) hsm hT true Q hO
  unfold trv PlBO at cx
  unfold trv at ci ⊢
  clear hN hsm hA hC hv hni hil hT hle hO
  go_enter Try.func99, Try.ntmps99
  go_upto_region 3 with (go_at_call 110; ((with_reducible refine (ci _ K1.out.b).mono ?_); clear ci; rintro e w3 ⟨rfl, hb3⟩; have K3 := Lib.hid (K1.out.keep hb3); clear hb3))
  refine wp_region_held_drew (S := (fun W => W.cell? ⟨w.heap.size, 0, none⟩ = some (.int .i64 t) ∧ W.cell? ⟨w.heap.size, 1, none⟩ = some (.slice (some ⟨b, o, none⟩) N.length cap) ∧ W.cell? ⟨w.heap.size + 1, 0, none⟩ = some (.int .i64 h) ∧ W.cell? ⟨w.heap.size + 1, 1, none⟩ = some (.int .i64 l) ∧ W.cell? ⟨w.heap.size + 1, 2, none⟩ = some (.int .i64 c) ∧ W.cell? ⟨w.heap.size + 1, 3, none⟩ = some (.int .i64 u) ∧ W.cell? ⟨w.heap.size + 1, 4, none⟩ = some (.int .i64 m) ∧ W.cell? ⟨b, o + i * 6 + 5, none⟩ = some (.int .i64 st) ∧ KB w t (some ⟨b, o, none⟩) cap N h l c u m W)) (by kernel_rfl) (by first | exact KB.conj K3.out HE.out | exact KB.conj (K3.out.keep (Below.refl _ _).drew) HE.out) (fun hHeld => ?_)
  refine tk 0 ?_ rfl (by kernel_rfl) (fun _ _ _ h => h) ⟨by rfl, ?_⟩ hHeld ?_; rotate_left
  · intro wS hSw; (try dsimp only at hSw); (try go_split_ands); go_simp; try with_reducible rfl
  refine tk 1 ?_ rfl (by kernel_rfl) (fun _ _ _ h => h) ⟨by rfl, ?_⟩ hHeld ?_; rotate_left
  · intro wS hSw; (try dsimp only at hSw); (try go_split_ands); go_simp; try with_reducible rfl
  refine tk 2 ?_ rfl (by kernel_rfl) (fun _ _ _ h => h) ⟨by rfl, ?_⟩ hHeld ?_; rotate_left
  · intro wS hSw; (try dsimp only at hSw); (try go_split_ands); go_simp; try with_reducible rfl
  refine tk 3 ?_ rfl (by kernel_rfl) (fun _ _ _ h => h) ⟨by rfl, ?_⟩ hHeld ?_; rotate_left
  · intro wS hSw; (try dsimp only at hSw); (try go_split_ands); go_simp; try with_reducible rfl
  refine tk 4 ?_ rfl (by kernel_rfl) (fun _ _ _ h => h) ⟨by rfl, ?_⟩ hHeld ?_; rotate_left
  · intro wS hSw; (try dsimp only at hSw); (try go_split_ands); go_simp; try with_reducible rfl
  refine tk 5 ?_ rfl (by kernel_rfl) (fun _ _ _ h => h) ⟨by rfl, ?_⟩ hHeld ?_; rotate_left
  · intro wS hSw; (try dsimp only at hSw); (try go_split_ands); go_simp; try with_reducible rfl
  refine tk 6 ?_ rfl (by kernel_rfl) (fun _ _ _ h => h) ⟨by rfl, ?_⟩ hHeld ?_; rotate_left
  · intro wS hSw; (try dsimp only at hSw); (try go_split_ands); go_simp; try with_reducible rfl
  try simp only [List.getElem_toArray, List.getElem_cons_succ, List.getElem_cons_zero, Act.put, List.setIfInBounds_toArray, List.set_cons_zero, List.set_cons_succ]
  refine wpAnyH_ready (rs := [7]) (by kernel_rfl) (by simp) ?_
  refine AllReadyH.cons rfl (fun K hK => ?_) AllReadyH.nil
  go_simp
  (go_at_call 111; ((with_reducible refine (cd _).mono ?_); rintro e X ⟨rfl, hbX⟩))
  refine hK.out _ _ ?_ (fun hNext => ?_)
  · exact KB.conj (hHeld.2.2.2.2.2.2.2.2.keep hbX) HE.out
  have K4 := Lib.hid (hHeld.2.2.2.2.2.2.2.2.keep hbX)
  clear hbX
  clear hK K hHeld
  have hHeld := hNext
  clear hNext
  try simp only [List.getElem_toArray, List.getElem_cons_succ, List.getElem_cons_zero, Act.put, List.setIfInBounds_toArray, List.set_cons_zero, List.set_cons_succ]
  refine wpAnyH_done (by kernel_rfl) ?_ _
  clear hHeld
  have k0 := K4.out.g.c0
  have k1 := K4.out.g.c1
  go_wp2_with (first
    | (go_at_call 113; ((with_reducible refine (cx _ K4.out.b).mono ?_); clear cx k0 k1; rintro e W5 ⟨a5, c5, rfl, hn5, hb5⟩; have K5 := Lib.hid ((K4.out.keep hb5).keep (al1 (.cells #[.int .i64 0, .slice a5 Q.length c5] 24))); have N5 := Lib.hid ((hn5.low (B' := w.heap.size + 3) (by have := K4.out.r.lt; omega)).keep (al1 (.cells #[.int .i64 0, .slice a5 Q.length c5] 24))); clear hn5 hb5; have r0 := K5.out.r.c0; have r1 := K5.out.r.c1; have f0 := K5.out.r.fr 0; have f1 := K5.out.r.fr 1))
    | fail)
  exact bodyPost_ret (v := .tuple #[.agg #[.int .i64 0, .slice a5 Q.length c5], .int .i64 2]) (by simp [results, Try.results99, go_sem, r0, r1]) rfl ⟨a5, c5, rfl, (N5.out.ret (q := w.heap.size + 2) (by omega) _ _).low (by omega), ret_below K5.out.b (by omega) _ _⟩
set_option maxRecDepth 100000 in
set_option maxHeartbeats 6400000 in
theorem bend_s0 (t : Int) (a : Option Addr) (cap : Nat) (N : List Nd) (h l c u m h' l' c' u' m' : Int) (s : Sh) (i : Nat) (w : World) (hN : Ns w a cap N) (hsm : Small N) (hle : N.length + 2 ≤ 2000) (hT : ∀ s, Tr N s t → (allP N s.lvs).length ≤ 1100000) (hA : LfAt N t (i : Int) s i) (hC : Cl h l c u m h' l' c' u' m') (hv : dc h' l' (nd N i).s = 1) (Q : List Nd) (hO : SplO N t (i : Int) false Q) :
    Calls Try.prog 99 #[trv t a cap N, .agg #[.int .i64 h, .int .i64 l, .int .i64 c, .int .i64 u, .int .i64 m], .int .i64 (i : Int)] w (BnO w 0 (lay N s 0)) := by
  have K1 := Lib.hid (KB.new w t a cap N h l c u m)
  have ci := fun W (hb : Below w.heap.size w W) => ailf_any t a cap N (i : Int) W (hN.keep hb) hsm true ⟨fun _ => ⟨s, i, hA⟩, fun _ => rfl⟩
  have hil := hA.1.hg.lt i (lvs_pre s i hA.2.2)
  have hc1 := hN.1
  have hc2 := hN.2.1
  unfold maxLen at hc2
  have hi0 : (0 : Int) ≤ (i : Int) := by omega
  have hi1 : (i : Int) < (N.length : Int) := by omega
  have HN := Lib.hid hN
  obtain ⟨b, o, pa, pc, rfl, hni⟩ := hN.2.2 i _ (nd_get hil)
  have HE := Lib.hid hni.c5
  generalize (nd N i).s = st at HE hv
  have cd := fun W => decide_to h l c u m h' l' c' u' m' st hC W
  rw [hv] at cd
  have cx := fun W (hb : Below w.heap.size w W) => split_own t (some ⟨b, o, none⟩) cap N (i : Int) W (hN.keep hb) hsm hle false Q hO
  unfold trv PlBO at cx
  have cp := fun W (hb : Below w.heap.size w W) => tplain_own t (some ⟨b, o, none⟩) cap N W (hN.keep hb) hsm s hA.1
  unfold PlW trv at cp
  unfold trv at ci ⊢
  clear hN hsm hA hC hv hni hil hT hle hO
  go_enter Try.func99, Try.ntmps99
  go_upto_region 3 with (go_at_call 110; ((with_reducible refine (ci _ K1.out.b).mono ?_); clear ci; rintro e w3 ⟨rfl, hb3⟩; have K3 := Lib.hid (K1.out.keep hb3); clear hb3))
  refine wp_region_held_drew (S := (fun W => W.cell? ⟨w.heap.size, 0, none⟩ = some (.int .i64 t) ∧ W.cell? ⟨w.heap.size, 1, none⟩ = some (.slice (some ⟨b, o, none⟩) N.length cap) ∧ W.cell? ⟨w.heap.size + 1, 0, none⟩ = some (.int .i64 h) ∧ W.cell? ⟨w.heap.size + 1, 1, none⟩ = some (.int .i64 l) ∧ W.cell? ⟨w.heap.size + 1, 2, none⟩ = some (.int .i64 c) ∧ W.cell? ⟨w.heap.size + 1, 3, none⟩ = some (.int .i64 u) ∧ W.cell? ⟨w.heap.size + 1, 4, none⟩ = some (.int .i64 m) ∧ W.cell? ⟨b, o + i * 6 + 5, none⟩ = some (.int .i64 st) ∧ KB w t (some ⟨b, o, none⟩) cap N h l c u m W)) (by kernel_rfl) (by first | exact KB.conj K3.out HE.out | exact KB.conj (K3.out.keep (Below.refl _ _).drew) HE.out) (fun hHeld => ?_)
  refine tk 0 ?_ rfl (by kernel_rfl) (fun _ _ _ h => h) ⟨by rfl, ?_⟩ hHeld ?_; rotate_left
  · intro wS hSw; (try dsimp only at hSw); (try go_split_ands); go_simp; try with_reducible rfl
  refine tk 1 ?_ rfl (by kernel_rfl) (fun _ _ _ h => h) ⟨by rfl, ?_⟩ hHeld ?_; rotate_left
  · intro wS hSw; (try dsimp only at hSw); (try go_split_ands); go_simp; try with_reducible rfl
  refine tk 2 ?_ rfl (by kernel_rfl) (fun _ _ _ h => h) ⟨by rfl, ?_⟩ hHeld ?_; rotate_left
  · intro wS hSw; (try dsimp only at hSw); (try go_split_ands); go_simp; try with_reducible rfl
  refine tk 3 ?_ rfl (by kernel_rfl) (fun _ _ _ h => h) ⟨by rfl, ?_⟩ hHeld ?_; rotate_left
  · intro wS hSw; (try dsimp only at hSw); (try go_split_ands); go_simp; try with_reducible rfl
  refine tk 4 ?_ rfl (by kernel_rfl) (fun _ _ _ h => h) ⟨by rfl, ?_⟩ hHeld ?_; rotate_left
  · intro wS hSw; (try dsimp only at hSw); (try go_split_ands); go_simp; try with_reducible rfl
  refine tk 5 ?_ rfl (by kernel_rfl) (fun _ _ _ h => h) ⟨by rfl, ?_⟩ hHeld ?_; rotate_left
  · intro wS hSw; (try dsimp only at hSw); (try go_split_ands); go_simp; try with_reducible rfl
  refine tk 6 ?_ rfl (by kernel_rfl) (fun _ _ _ h => h) ⟨by rfl, ?_⟩ hHeld ?_; rotate_left
  · intro wS hSw; (try dsimp only at hSw); (try go_split_ands); go_simp; try with_reducible rfl
  try simp only [List.getElem_toArray, List.getElem_cons_succ, List.getElem_cons_zero, Act.put, List.setIfInBounds_toArray, List.set_cons_zero, List.set_cons_succ]
  refine wpAnyH_ready (rs := [7]) (by kernel_rfl) (by simp) ?_
  refine AllReadyH.cons rfl (fun K hK => ?_) AllReadyH.nil
  go_simp
  (go_at_call 111; ((with_reducible refine (cd _).mono ?_); rintro e X ⟨rfl, hbX⟩))
  refine hK.out _ _ ?_ (fun hNext => ?_)
  · exact KB.conj (hHeld.2.2.2.2.2.2.2.2.keep hbX) HE.out
  have K4 := Lib.hid (hHeld.2.2.2.2.2.2.2.2.keep hbX)
  clear hbX
  clear hK K hHeld
  have hHeld := hNext
  clear hNext
  try simp only [List.getElem_toArray, List.getElem_cons_succ, List.getElem_cons_zero, Act.put, List.setIfInBounds_toArray, List.set_cons_zero, List.set_cons_succ]
  refine wpAnyH_done (by kernel_rfl) ?_ _
  clear hHeld
  have k0 := K4.out.g.c0
  have k1 := K4.out.g.c1
  go_wp2_with (first
    | (go_at_call 112; ((with_reducible refine (cx _ K4.out.b).mono ?_); clear cx k0 k1; rintro e W5 ⟨a5, c5, rfl, hn5, hb5⟩; have K5 := Lib.hid ((K4.out.keep hb5).keep (al1 (.cells #[.int .i64 0, .slice a5 Q.length c5] 24))); have N5 := Lib.hid ((hn5.low (B' := w.heap.size + 3) (by have := K4.out.r.lt; omega)).keep (al1 (.cells #[.int .i64 0, .slice a5 Q.length c5] 24))); clear hn5 hb5; have k0 := K5.out.g.c0; have k1 := K5.out.g.c1))
    | (go_at_call 73; ((with_reducible refine (cp _ K5.out.b).mono ?_); clear cp k0 k1; rintro e W6 ⟨a6, c6, rfl, hn6, hb6⟩; have K6 := Lib.hid ((K5.out.keep hb6).keep (al1 (.cells #[.int .i64 0, .slice a6 (lay N s 0).length c6] 24))); have N6 := Lib.hid ((hn6.low (B' := w.heap.size + 3) (by have := K5.out.r.lt; omega)).keep (al1 (.cells #[.int .i64 0, .slice a6 (lay N s 0).length c6] 24))); clear hn6 hb6; have r0 := K6.out.r.c0; have r1 := K6.out.r.c1; have f0 := K6.out.r.fr 0; have f1 := K6.out.r.fr 1))
    | fail)
  exact bodyPost_ret (v := .tuple #[.agg #[.int .i64 0, .slice a6 (lay N s 0).length c6], .int .i64 0]) (by simp [results, Try.results99, go_sem, r0, r1]) rfl ⟨a6, c6, rfl, (N6.out.ret (q := w.heap.size + 2) (by omega) _ _).low (by omega), ret_below K6.out.b (by omega) _ _⟩
set_option maxRecDepth 100000 in
set_option maxHeartbeats 6400000 in
theorem bend_j0 (t : Int) (a : Option Addr) (cap : Nat) (N : List Nd) (h l c u m h' l' c' u' m' : Int) (s : Sh) (i : Nat) (w : World) (hN : Ns w a cap N) (hsm : Small N) (hle : N.length + 2 ≤ 2000) (hT : ∀ s, Tr N s t → (allP N s.lvs).length ≤ 1100000) (hA : LfAt N t (i : Int) s i) (hC : Cl h l c u m h' l' c' u' m') (hv : dc h' l' (nd N i).s = 2) (Q : List Nd) (hO : JoiO N t (i : Int) false Q) :
    Calls Try.prog 99 #[trv t a cap N, .agg #[.int .i64 h, .int .i64 l, .int .i64 c, .int .i64 u, .int .i64 m], .int .i64 (i : Int)] w (BnO w 0 (lay N s 0)) := by
  have K1 := Lib.hid (KB.new w t a cap N h l c u m)
  have ci := fun W (hb : Below w.heap.size w W) => ailf_any t a cap N (i : Int) W (hN.keep hb) hsm true ⟨fun _ => ⟨s, i, hA⟩, fun _ => rfl⟩
  have hil := hA.1.hg.lt i (lvs_pre s i hA.2.2)
  have hc1 := hN.1
  have hc2 := hN.2.1
  unfold maxLen at hc2
  have hi0 : (0 : Int) ≤ (i : Int) := by omega
  have hi1 : (i : Int) < (N.length : Int) := by omega
  have HN := Lib.hid hN
  obtain ⟨b, o, pa, pc, rfl, hni⟩ := hN.2.2 i _ (nd_get hil)
  have HE := Lib.hid hni.c5
  generalize (nd N i).s = st at HE hv
  have cd := fun W => decide_to h l c u m h' l' c' u' m' st hC W
  rw [hv] at cd
  have cx := fun W (hb : Below w.heap.size w W) => join_own t (some ⟨b, o, none⟩) cap N (i : Int) W (hN.keep hb) hsm hT false Q hO
  unfold trv PlBO at cx
  have cp := fun W (hb : Below w.heap.size w W) => tplain_own t (some ⟨b, o, none⟩) cap N W (hN.keep hb) hsm s hA.1
  unfold PlW trv at cp
  unfold trv at ci ⊢
  clear hN hsm hA hC hv hni hil hT hle hO
  go_enter Try.func99, Try.ntmps99
  go_upto_region 3 with (go_at_call 110; ((with_reducible refine (ci _ K1.out.b).mono ?_); clear ci; rintro e w3 ⟨rfl, hb3⟩; have K3 := Lib.hid (K1.out.keep hb3); clear hb3))
  refine wp_region_held_drew (S := (fun W => W.cell? ⟨w.heap.size, 0, none⟩ = some (.int .i64 t) ∧ W.cell? ⟨w.heap.size, 1, none⟩ = some (.slice (some ⟨b, o, none⟩) N.length cap) ∧ W.cell? ⟨w.heap.size + 1, 0, none⟩ = some (.int .i64 h) ∧ W.cell? ⟨w.heap.size + 1, 1, none⟩ = some (.int .i64 l) ∧ W.cell? ⟨w.heap.size + 1, 2, none⟩ = some (.int .i64 c) ∧ W.cell? ⟨w.heap.size + 1, 3, none⟩ = some (.int .i64 u) ∧ W.cell? ⟨w.heap.size + 1, 4, none⟩ = some (.int .i64 m) ∧ W.cell? ⟨b, o + i * 6 + 5, none⟩ = some (.int .i64 st) ∧ KB w t (some ⟨b, o, none⟩) cap N h l c u m W)) (by kernel_rfl) (by first | exact KB.conj K3.out HE.out | exact KB.conj (K3.out.keep (Below.refl _ _).drew) HE.out) (fun hHeld => ?_)
  refine tk 0 ?_ rfl (by kernel_rfl) (fun _ _ _ h => h) ⟨by rfl, ?_⟩ hHeld ?_; rotate_left
  · intro wS hSw; (try dsimp only at hSw); (try go_split_ands); go_simp; try with_reducible rfl
  refine tk 1 ?_ rfl (by kernel_rfl) (fun _ _ _ h => h) ⟨by rfl, ?_⟩ hHeld ?_; rotate_left
  · intro wS hSw; (try dsimp only at hSw); (try go_split_ands); go_simp; try with_reducible rfl
  refine tk 2 ?_ rfl (by kernel_rfl) (fun _ _ _ h => h) ⟨by rfl, ?_⟩ hHeld ?_; rotate_left
  · intro wS hSw; (try dsimp only at hSw); (try go_split_ands); go_simp; try with_reducible rfl
  refine tk 3 ?_ rfl (by kernel_rfl) (fun _ _ _ h => h) ⟨by rfl, ?_⟩ hHeld ?_; rotate_left
  · intro wS hSw; (try dsimp only at hSw); (try go_split_ands); go_simp; try with_reducible rfl
  refine tk 4 ?_ rfl (by kernel_rfl) (fun _ _ _ h => h) ⟨by rfl, ?_⟩ hHeld ?_; rotate_left
  · intro wS hSw; (try dsimp only at hSw); (try go_split_ands); go_simp; try with_reducible rfl
  refine tk 5 ?_ rfl (by kernel_rfl) (fun _ _ _ h => h) ⟨by rfl, ?_⟩ hHeld ?_; rotate_left
  · intro wS hSw; (try dsimp only at hSw); (try go_split_ands); go_simp; try with_reducible rfl
  refine tk 6 ?_ rfl (by kernel_rfl) (fun _ _ _ h => h) ⟨by rfl, ?_⟩ hHeld ?_; rotate_left
  · intro wS hSw; (try dsimp only at hSw); (try go_split_ands); go_simp; try with_reducible rfl
  try simp only [List.getElem_toArray, List.getElem_cons_succ, List.getElem_cons_zero, Act.put, List.setIfInBounds_toArray, List.set_cons_zero, List.set_cons_succ]
  refine wpAnyH_ready (rs := [7]) (by kernel_rfl) (by simp) ?_
  refine AllReadyH.cons rfl (fun K hK => ?_) AllReadyH.nil
  go_simp
  (go_at_call 111; ((with_reducible refine (cd _).mono ?_); rintro e X ⟨rfl, hbX⟩))
  refine hK.out _ _ ?_ (fun hNext => ?_)
  · exact KB.conj (hHeld.2.2.2.2.2.2.2.2.keep hbX) HE.out
  have K4 := Lib.hid (hHeld.2.2.2.2.2.2.2.2.keep hbX)
  clear hbX
  clear hK K hHeld
  have hHeld := hNext
  clear hNext
  try simp only [List.getElem_toArray, List.getElem_cons_succ, List.getElem_cons_zero, Act.put, List.setIfInBounds_toArray, List.set_cons_zero, List.set_cons_succ]
  refine wpAnyH_done (by kernel_rfl) ?_ _
  clear hHeld
  have k0 := K4.out.g.c0
  have k1 := K4.out.g.c1
  go_wp2_with (first
    | (go_at_call 113; ((with_reducible refine (cx _ K4.out.b).mono ?_); clear cx k0 k1; rintro e W5 ⟨a5, c5, rfl, hn5, hb5⟩; have K5 := Lib.hid ((K4.out.keep hb5).keep (al1 (.cells #[.int .i64 0, .slice a5 Q.length c5] 24))); have N5 := Lib.hid ((hn5.low (B' := w.heap.size + 3) (by have := K4.out.r.lt; omega)).keep (al1 (.cells #[.int .i64 0, .slice a5 Q.length c5] 24))); clear hn5 hb5; have k0 := K5.out.g.c0; have k1 := K5.out.g.c1))
    | (go_at_call 73; ((with_reducible refine (cp _ K5.out.b).mono ?_); clear cp k0 k1; rintro e W6 ⟨a6, c6, rfl, hn6, hb6⟩; have K6 := Lib.hid ((K5.out.keep hb6).keep (al1 (.cells #[.int .i64 0, .slice a6 (lay N s 0).length c6] 24))); have N6 := Lib.hid ((hn6.low (B' := w.heap.size + 3) (by have := K5.out.r.lt; omega)).keep (al1 (.cells #[.int .i64 0, .slice a6 (lay N s 0).length c6] 24))); clear hn6 hb6; have r0 := K6.out.r.c0; have r1 := K6.out.r.c1; have f0 := K6.out.r.fr 0; have f1 := K6.out.r.fr 1))
    | fail)
  exact bodyPost_ret (v := .tuple #[.agg #[.int .i64 0, .slice a6 (lay N s 0).length c6], .int .i64 0]) (by simp [results, Try.results99, go_sem, r0, r1]) rfl ⟨a6, c6, rfl, (N6.out.ret (q := w.heap.size + 2) (by omega) _ _).low (by omega), ret_below K6.out.b (by omega) _ _⟩
set_option maxRecDepth 100000 in
set_option maxHeartbeats 6400000 in
theorem bend_0 (t : Int) (a : Option Addr) (cap : Nat) (N : List Nd) (h l c u m h' l' c' u' m' : Int) (s : Sh) (i : Nat) (w : World) (hN : Ns w a cap N) (hsm : Small N) (hle : N.length + 2 ≤ 2000) (hT : ∀ s, Tr N s t → (allP N s.lvs).length ≤ 1100000) (hA : LfAt N t (i : Int) s i) (hC : Cl h l c u m h' l' c' u' m') (hv : dc h' l' (nd N i).s = 0) :
    Calls Try.prog 99 #[trv t a cap N, .agg #[.int .i64 h, .int .i64 l, .int .i64 c, .int .i64 u, .int .i64 m], .int .i64 (i : Int)] w (BnO w 0 (lay N s 0)) := by
  have K1 := Lib.hid (KB.new w t a cap N h l c u m)
  have ci := fun W (hb : Below w.heap.size w W) => ailf_any t a cap N (i : Int) W (hN.keep hb) hsm true ⟨fun _ => ⟨s, i, hA⟩, fun _ => rfl⟩
  have hil := hA.1.hg.lt i (lvs_pre s i hA.2.2)
  have hc1 := hN.1
  have hc2 := hN.2.1
  unfold maxLen at hc2
  have hi0 : (0 : Int) ≤ (i : Int) := by omega
  have hi1 : (i : Int) < (N.length : Int) := by omega
  have HN := Lib.hid hN
  obtain ⟨b, o, pa, pc, rfl, hni⟩ := hN.2.2 i _ (nd_get hil)
  have HE := Lib.hid hni.c5
  generalize (nd N i).s = st at HE hv
  have cd := fun W => decide_to h l c u m h' l' c' u' m' st hC W
  rw [hv] at cd
  have cp := fun W (hb : Below w.heap.size w W) => tplain_own t (some ⟨b, o, none⟩) cap N W (hN.keep hb) hsm s hA.1
  unfold PlW trv at cp
  unfold trv at ci ⊢
  clear hN hsm hA hC hv hni hil hT hle
  go_enter Try.func99, Try.ntmps99
  go_upto_region 3 with (go_at_call 110; ((with_reducible refine (ci _ K1.out.b).mono ?_); clear ci; rintro e w3 ⟨rfl, hb3⟩; have K3 := Lib.hid (K1.out.keep hb3); clear hb3))
  refine wp_region_held_drew (S := (fun W => W.cell? ⟨w.heap.size, 0, none⟩ = some (.int .i64 t) ∧ W.cell? ⟨w.heap.size, 1, none⟩ = some (.slice (some ⟨b, o, none⟩) N.length cap) ∧ W.cell? ⟨w.heap.size + 1, 0, none⟩ = some (.int .i64 h) ∧ W.cell? ⟨w.heap.size + 1, 1, none⟩ = some (.int .i64 l) ∧ W.cell? ⟨w.heap.size + 1, 2, none⟩ = some (.int .i64 c) ∧ W.cell? ⟨w.heap.size + 1, 3, none⟩ = some (.int .i64 u) ∧ W.cell? ⟨w.heap.size + 1, 4, none⟩ = some (.int .i64 m) ∧ W.cell? ⟨b, o + i * 6 + 5, none⟩ = some (.int .i64 st) ∧ KB w t (some ⟨b, o, none⟩) cap N h l c u m W)) (by kernel_rfl) (by first | exact KB.conj K3.out HE.out | exact KB.conj (K3.out.keep (Below.refl _ _).drew) HE.out) (fun hHeld => ?_)
  refine tk 0 ?_ rfl (by kernel_rfl) (fun _ _ _ h => h) ⟨by rfl, ?_⟩ hHeld ?_; rotate_left
  · intro wS hSw; (try dsimp only at hSw); (try go_split_ands); go_simp; try with_reducible rfl
  refine tk 1 ?_ rfl (by kernel_rfl) (fun _ _ _ h => h) ⟨by rfl, ?_⟩ hHeld ?_; rotate_left
  · intro wS hSw; (try dsimp only at hSw); (try go_split_ands); go_simp; try with_reducible rfl
  refine tk 2 ?_ rfl (by kernel_rfl) (fun _ _ _ h => h) ⟨by rfl, ?_⟩ hHeld ?_; rotate_left
  · intro wS hSw; (try dsimp only at hSw); (try go_split_ands); go_simp; try with_reducible rfl
  refine tk 3 ?_ rfl (by kernel_rfl) (fun _ _ _ h => h) ⟨by rfl, ?_⟩ hHeld ?_; rotate_left
  · intro wS hSw; (try dsimp only at hSw); (try go_split_ands); go_simp; try with_reducible rfl
  refine tk 4 ?_ rfl (by kernel_rfl) (fun _ _ _ h => h) ⟨by rfl, ?_⟩ hHeld ?_; rotate_left
  · intro wS hSw; (try dsimp only at hSw); (try go_split_ands); go_simp; try with_reducible rfl
  refine tk 5 ?_ rfl (by kernel_rfl) (fun _ _ _ h => h) ⟨by rfl, ?_⟩ hHeld ?_; rotate_left
  · intro wS hSw; (try dsimp only at hSw); (try go_split_ands); go_simp; try with_reducible rfl
  refine tk 6 ?_ rfl (by kernel_rfl) (fun _ _ _ h => h) ⟨by rfl, ?_⟩ hHeld ?_; rotate_left
  · intro wS hSw; (try dsimp only at hSw); (try go_split_ands); go_simp; try with_reducible rfl
  try simp only [List.getElem_toArray, List.getElem_cons_succ, List.getElem_cons_zero, Act.put, List.setIfInBounds_toArray, List.set_cons_zero, List.set_cons_succ]
  refine wpAnyH_ready (rs := [7]) (by kernel_rfl) (by simp) ?_
  refine AllReadyH.cons rfl (fun K hK => ?_) AllReadyH.nil
  go_simp
  (go_at_call 111; ((with_reducible refine (cd _).mono ?_); rintro e X ⟨rfl, hbX⟩))
  refine hK.out _ _ ?_ (fun hNext => ?_)
  · exact KB.conj (hHeld.2.2.2.2.2.2.2.2.keep hbX) HE.out
  have K4 := Lib.hid (hHeld.2.2.2.2.2.2.2.2.keep hbX)
  clear hbX
  clear hK K hHeld
  have hHeld := hNext
  clear hNext
  try simp only [List.getElem_toArray, List.getElem_cons_succ, List.getElem_cons_zero, Act.put, List.setIfInBounds_toArray, List.set_cons_zero, List.set_cons_succ]
  refine wpAnyH_done (by kernel_rfl) ?_ _
  clear hHeld
  have k0 := K4.out.g.c0
  have k1 := K4.out.g.c1
  go_wp2_with (first
    | (go_at_call 73; ((with_reducible refine (cp _ K4.out.b).mono ?_); clear cp k0 k1; rintro e W6 ⟨a6, c6, rfl, hn6, hb6⟩; have K6 := Lib.hid ((K4.out.keep hb6).keep (al1 (.cells #[.int .i64 0, .slice a6 (lay N s 0).length c6] 24))); have N6 := Lib.hid ((hn6.low (B' := w.heap.size + 3) (by have := K4.out.r.lt; omega)).keep (al1 (.cells #[.int .i64 0, .slice a6 (lay N s 0).length c6] 24))); clear hn6 hb6; have r0 := K6.out.r.c0; have r1 := K6.out.r.c1; have f0 := K6.out.r.fr 0; have f1 := K6.out.r.fr 1))
    | fail)
  exact bodyPost_ret (v := .tuple #[.agg #[.int .i64 0, .slice a6 (lay N s 0).length c6], .int .i64 0]) (by simp [results, Try.results99, go_sem, r0, r1]) rfl ⟨a6, c6, rfl, (N6.out.ret (q := w.heap.size + 2) (by omega) _ _).low (by omega), ret_below K6.out.b (by omega) _ _⟩
/-- Bend's answer. -/
def BndO (N : List Nd) (t y : Int) (D : Int → Int) (d : Int) (Q : List Nd) : Prop :=
  (∃ s i, LfAt N t y s i ∧ ((D (nd N i).s = 1 ∧ SplO N t y true Q ∧ d = 1) ∨ (D (nd N i).s = 2 ∧ JoiO N t y true Q ∧ d = 2) ∨
    (d = 0 ∧ Q = lay N s 0 ∧ ((D (nd N i).s = 1 ∧ SplO N t y false []) ∨ (D (nd N i).s = 2 ∧ JoiO N t y false []) ∨ D (nd N i).s = 0)))) ∨
  ((¬ ∃ s i, LfAt N t y s i) ∧ d = 0 ∧ Q = [])
theorem dc_three (h l s : Int) : dc h l s = 1 ∨ dc h l s = 2 ∨ dc h l s = 0 := by unfold dc; split; exact .inl rfl; split; exact .inr (.inl rfl); exact .inr (.inr rfl)
theorem bndO_ex (N : List Nd) (t y h l : Int) : ∃ d Q, BndO N t y (dc h l) d Q := by
  rcases Classical.em (∃ s i, LfAt N t y s i) with ⟨s, i, hA⟩ | hA
  · rcases dc_three h l (nd N i).s with e | e | e
    · obtain ⟨x, Q, hS⟩ := splO_ex N t y
      cases x
      · have := hS
        rcases hS with ⟨hh, _⟩ | ⟨_, rfl, _⟩
        · cases hh
        · exact ⟨0, _, .inl ⟨s, i, hA, .inr (.inr ⟨rfl, rfl, .inl ⟨e, this⟩⟩)⟩⟩
      · exact ⟨1, Q, .inl ⟨s, i, hA, .inl ⟨e, hS, rfl⟩⟩⟩
    · obtain ⟨x, Q, hS⟩ := joiO_ex N t y
      cases x
      · have := hS
        rcases hS with ⟨hh, _⟩ | ⟨_, rfl, _⟩
        · cases hh
        · exact ⟨0, _, .inl ⟨s, i, hA, .inr (.inr ⟨rfl, rfl, .inr (.inl ⟨e, this⟩)⟩)⟩⟩
      · exact ⟨2, Q, .inl ⟨s, i, hA, .inr (.inl ⟨e, hS, rfl⟩)⟩⟩
    · exact ⟨0, _, .inl ⟨s, i, hA, .inr (.inr ⟨rfl, rfl, .inr (.inr e)⟩)⟩⟩
  · exact ⟨0, [], .inr ⟨hA, rfl, rfl⟩⟩
/-- adapt.Bend. -/
theorem bend_own (t : Int) (a : Option Addr) (cap : Nat) (N : List Nd) (h l c u m h' l' c' u' m' y : Int) (w : World) (hN : Ns w a cap N) (hsm : Small N) (hle : N.length + 2 ≤ 2000) (hT : ∀ s, Tr N s t → (allP N s.lvs).length ≤ 1100000) (hC : Cl h l c u m h' l' c' u' m') (d : Int) (Q : List Nd) (hB : BndO N t y (dc h' l') d Q) :
    Calls Try.prog 99 #[trv t a cap N, .agg #[.int .i64 h, .int .i64 l, .int .i64 c, .int .i64 u, .int .i64 m], .int .i64 y] w (BnO w d Q) := by
  rcases hB with ⟨s, i, hA, hh⟩ | ⟨hno, rfl, rfl⟩
  · obtain rfl := hA.2.1
    rcases hh with ⟨e, hO, rfl⟩ | ⟨e, hO, rfl⟩ | ⟨rfl, rfl, ⟨e, hO⟩ | ⟨e, hO⟩ | e⟩
    · exact bend_s t a cap N h l c u m h' l' c' u' m' s i w hN hsm hle hT hA hC e Q hO
    · exact bend_j t a cap N h l c u m h' l' c' u' m' s i w hN hsm hle hT hA hC e Q hO
    · exact bend_s0 t a cap N h l c u m h' l' c' u' m' s i w hN hsm hle hT hA hC e [] hO
    · exact bend_j0 t a cap N h l c u m h' l' c' u' m' s i w hN hsm hle hT hA hC e [] hO
    · exact bend_0 t a cap N h l c u m h' l' c' u' m' s i w hN hsm hle hT hA hC e
  · exact bend_no t a cap N h l c u m y w hN hsm hno
end Go.Proofs.Ytijepfabkalcoaa

