/- osierref1.Bend exactly, of trees with room for two nodes more whose pairs are not too many. No condition: lemmas. -/
import Derived.Test.YteebceecohhegaaAeX
import Derived.Test.YteebceecohhegaaAeG
namespace Go.Proofs.Yteebceecohhegaa
open Go.RowKit
set_option linter.all false

set_option maxRecDepth 100000 in
set_option maxHeartbeats 6400000 in
theorem rbend_no (t : Int) (a : Option Addr) (cap : Nat) (N : List Nd) (h l c u m y : Int) (w : World) (hN : Ns w a cap N) (hsm : Small N) (hno : ¬ ∃ s i, LfAt N t y s i) :
    Calls Try.prog 15 #[trv t a cap N, .agg #[.int .i64 h, .int .i64 l, .int .i64 c, .int .i64 u, .int .i64 m], .int .i64 y] w (BnIs w 0 []) := by
  have K1 := Lib.hid (KB.new w t a cap N h l c u m)
  have ci := fun W (hb : Below w.heap.size w W) => rlf_any t a cap N y W (hN.keep hb) hsm false ⟨fun e => (by cases e), fun e => absurd e hno⟩
  unfold trv at ci ⊢
  clear hN hno hsm
  go_enter Try.func15, Try.ntmps15
  go_wp2_with (go_at_call 32; ((with_reducible refine (ci _ K1.out.b).mono ?_); clear ci; rintro e w3 ⟨rfl, hb3⟩; have K3 := Lib.hid (K1.out.keep hb3); clear hb3; have r0 := K3.out.r.c0; have r1 := K3.out.r.c1; have f0 := K3.out.r.fr 0; have f1 := K3.out.r.fr 1))
  exact bodyPost_ret (v := .tuple #[.agg #[.int .i64 0, .slice none 0 0], .int .i64 0]) (by simp [results, Try.results15, go_sem, r0, r1]) rfl ⟨none, 0, rfl, Ns.none _, ret_below K3.out.b (by omega) _ _⟩
set_option maxRecDepth 100000 in
set_option maxHeartbeats 6400000 in
theorem rb_1tt (t : Int) (a : Option Addr) (cap : Nat) (N : List Nd) (h l c u m h' l' c' u' m' : Int) (s : Sh) (i : Nat) (w : World) (hN : Ns w a cap N) (hsm : Small N) (hle : N.length + 2 ≤ 2000) (hT : ∀ s, Tr N s t → (allP N s.lvs).length ≤ 2100) (hA : LfAt N t (i : Int) s i) (hC : Cl h l c u m h' l' c' u' m') (hv : dc h' l' (nd N i).s = 1) (Qs Qj : List Nd) (hS : SplO N t (i : Int) true Qs) (hJ : JoiO N t (i : Int) true Qj) :
    Calls Try.prog 15 #[trv t a cap N, .agg #[.int .i64 h, .int .i64 l, .int .i64 c, .int .i64 u, .int .i64 m], .int .i64 (i : Int)] w (BnIs w 1 Qs) := by
  have K1 := Lib.hid (KB.new w t a cap N h l c u m)
  have ci := fun W (hb : Below w.heap.size w W) => rlf_any t a cap N (i : Int) W (hN.keep hb) hsm true ⟨fun _ => ⟨s, i, hA⟩, fun _ => rfl⟩
  have hil := hA.1.hg.lt i (lvs_pre s i hA.2.2)
  have hc1 := hN.1
  have hc2 := hN.2.1
  unfold maxLen at hc2
  have hi0 : (0 : Int) ≤ (i : Int) := by omega
  have hi1 : (i : Int) < (N.length : Int) := by omega
  have HN := Lib.hid hN
  obtain ⟨b, o, pa, pc, rfl, hni⟩ := hN.2.2 i _ (nd_get hil)
  have HE := Lib.hid hni.c5
  generalize (nd N i).s = st at HE hv
  have cd := fun W => rdecide_to h l c u m h' l' c' u' m' st hC W
  rw [hv] at cd
  have cs := fun W (hb : Below w.heap.size w W) => rspl_any t (some ⟨b, o, none⟩) cap N (i : Int) W (hN.keep hb) hsm hle true Qs hS
  have cj := fun W (hb : Below w.heap.size w W) => rjl_any t (some ⟨b, o, none⟩) cap N (i : Int) W (hN.keep hb) hsm hT true Qj hJ
  have cp := fun W (hb : Below w.heap.size w W) => rplain_yes t (some ⟨b, o, none⟩) cap N W (hN.keep hb) hsm s hA.1
  unfold trv PlB at cs cj
  unfold PlIs trv at cp
  unfold trv at ci ⊢
  clear hN hsm hA hC hv hni hil hT hle hS hJ
  go_enter Try.func15, Try.ntmps15
  go_upto_region 3 with (go_at_call 32; ((with_reducible refine (ci _ K1.out.b).mono ?_); clear ci; rintro e w3 ⟨rfl, hb3⟩; have K3 := Lib.hid (K1.out.keep hb3); clear hb3))
  refine wp_region_held_drew (S := (fun W => W.cell? ⟨w.heap.size, 0, none⟩ = some (.int .i64 t) ∧ W.cell? ⟨w.heap.size, 1, none⟩ = some (.slice (some ⟨b, o, none⟩) N.length cap) ∧ W.cell? ⟨w.heap.size + 1, 0, none⟩ = some (.int .i64 h) ∧ W.cell? ⟨w.heap.size + 1, 1, none⟩ = some (.int .i64 l) ∧ W.cell? ⟨w.heap.size + 1, 2, none⟩ = some (.int .i64 c) ∧ W.cell? ⟨w.heap.size + 1, 3, none⟩ = some (.int .i64 u) ∧ W.cell? ⟨w.heap.size + 1, 4, none⟩ = some (.int .i64 m) ∧ W.cell? ⟨b, o + i * 6 + 5, none⟩ = some (.int .i64 st) ∧ KB w t (some ⟨b, o, none⟩) cap N h l c u m W)) (by kernel_rfl) (by first | exact KB.conj K3.out HE.out | exact KB.conj (K3.out.keep (Below.refl _ _).drew) HE.out) (fun hHeld => ?_)
  refine wpAnyH_take (i := 0) (v := ?_) rfl (by kernel_rfl) (by kernel_rfl) (by kernel_rfl) (fun _ _ _ h => h) (Or.inl ⟨by rfl, ?_⟩) hHeld ?_
  rotate_left
  · (intro wS hSw; (try dsimp only at hSw); (try go_split_ands); go_simp; try with_reducible rfl)
  try simp only [List.getElem_toArray, List.getElem_cons_succ, List.getElem_cons_zero, Act.put, List.setIfInBounds_toArray, List.set_cons_zero, List.set_cons_succ]
  refine wpAnyH_take (i := 1) (v := ?_) rfl (by kernel_rfl) (by kernel_rfl) (by kernel_rfl) (fun _ _ _ h => h) (Or.inl ⟨by rfl, ?_⟩) hHeld ?_
  rotate_left
  · (intro wS hSw; (try dsimp only at hSw); (try go_split_ands); go_simp; try with_reducible rfl)
  try simp only [List.getElem_toArray, List.getElem_cons_succ, List.getElem_cons_zero, Act.put, List.setIfInBounds_toArray, List.set_cons_zero, List.set_cons_succ]
  refine wpAnyH_take (i := 2) (v := ?_) rfl (by kernel_rfl) (by kernel_rfl) (by kernel_rfl) (fun _ _ _ h => h) (Or.inl ⟨by rfl, ?_⟩) hHeld ?_
  rotate_left
  · (intro wS hSw; (try dsimp only at hSw); (try go_split_ands); go_simp; try with_reducible rfl)
  try simp only [List.getElem_toArray, List.getElem_cons_succ, List.getElem_cons_zero, Act.put, List.setIfInBounds_toArray, List.set_cons_zero, List.set_cons_succ]
  refine wpAnyH_take (i := 3) (v := ?_) rfl (by kernel_rfl) (by kernel_rfl) (by kernel_rfl) (fun _ _ _ h => h) (Or.inl ⟨by rfl, ?_⟩) hHeld ?_
  rotate_left
  · (intro wS hSw; (try dsimp only at hSw); (try go_split_ands); go_simp; try with_reducible rfl)
  try simp only [List.getElem_toArray, List.getElem_cons_succ, List.getElem_cons_zero, Act.put, List.setIfInBounds_toArray, List.set_cons_zero, List.set_cons_succ]
  refine wpAnyH_take (i := 4) (v := ?_) rfl (by kernel_rfl) (by kernel_rfl) (by kernel_rfl) (fun _ _ _ h => h) (Or.inl ⟨by rfl, ?_⟩) hHeld ?_
  rotate_left
  · (intro wS hSw; (try dsimp only at hSw); (try go_split_ands); go_simp; try with_reducible rfl)
  try simp only [List.getElem_toArray, List.getElem_cons_succ, List.getElem_cons_zero, Act.put, List.setIfInBounds_toArray, List.set_cons_zero, List.set_cons_succ]
  refine wpAnyH_take (i := 5) (v := ?_) rfl (by kernel_rfl) (by kernel_rfl) (by kernel_rfl) (fun _ _ _ h => h) (Or.inl ⟨by rfl, ?_⟩) hHeld ?_
  rotate_left
  · (intro wS hSw; (try dsimp only at hSw); (try go_split_ands); go_simp; try with_reducible rfl)
  try simp only [List.getElem_toArray, List.getElem_cons_succ, List.getElem_cons_zero, Act.put, List.setIfInBounds_toArray, List.set_cons_zero, List.set_cons_succ]
  refine wpAnyH_take (i := 6) (v := ?_) rfl (by kernel_rfl) (by kernel_rfl) (by kernel_rfl) (fun _ _ _ h => h) (Or.inl ⟨by rfl, ?_⟩) hHeld ?_
  rotate_left
  · (intro wS hSw; (try dsimp only at hSw); (try go_split_ands); go_simp; try with_reducible rfl)
  try simp only [List.getElem_toArray, List.getElem_cons_succ, List.getElem_cons_zero, Act.put, List.setIfInBounds_toArray, List.set_cons_zero, List.set_cons_succ]
  refine wpAnyH_ready (rs := [7]) (by kernel_rfl) (by simp) ?_
  refine AllReadyH.cons rfl (fun K hK => ?_) AllReadyH.nil
  go_simp
  (go_at_call 27; ((with_reducible refine (cd _).mono ?_); rintro e X ⟨rfl, hbX⟩))
  refine hK.out _ _ ?_ (fun hNext => ?_)
  · exact KB.conj (hHeld.2.2.2.2.2.2.2.2.keep hbX) HE.out
  have K4 := Lib.hid (hHeld.2.2.2.2.2.2.2.2.keep hbX)
  clear hbX
  clear hK K hHeld
  have hHeld := hNext
  clear hNext
  try simp only [List.getElem_toArray, List.getElem_cons_succ, List.getElem_cons_zero, Act.put, List.setIfInBounds_toArray, List.set_cons_zero, List.set_cons_succ]
  refine wpAnyH_take (i := 8) (v := ?_) rfl (by kernel_rfl) (by kernel_rfl) (by kernel_rfl) (fun _ _ _ h => h) (Or.inl ⟨by rfl, ?_⟩) hHeld ?_
  rotate_left
  · (intro wS hSw; (try dsimp only at hSw); (try go_split_ands); go_simp; try with_reducible rfl)
  try simp only [List.getElem_toArray, List.getElem_cons_succ, List.getElem_cons_zero, Act.put, List.setIfInBounds_toArray, List.set_cons_zero, List.set_cons_succ]
  refine wpAnyH_done (by kernel_rfl) ?_ _
  clear hHeld
  have k0 := K4.out.g.c0
  have k1 := K4.out.g.c1
  go_wp2_with (first
    | (go_at_call 11; ((with_reducible refine (cs _ K4.out.b).mono ?_); clear cs k0 k1; rintro e W5 ⟨a5, c5, rfl, hn5, hb5⟩; have K5 := Lib.hid ((K4.out.keep hb5).keep (al1 (.cells #[.int .i64 0, .slice a5 Qs.length c5] 24))); have N5 := Lib.hid (hn5.keep (al1 (.cells #[.int .i64 0, .slice a5 Qs.length c5] 24))); clear hn5 hb5; have r0 := K5.out.r.c0; have r1 := K5.out.r.c1; have f0 := K5.out.r.fr 0; have f1 := K5.out.r.fr 1))
    | fail)
  exact bodyPost_ret (v := .tuple #[.agg #[.int .i64 0, .slice a5 Qs.length c5], .int .i64 1]) (by simp [results, Try.results15, go_sem, r0, r1]) rfl ⟨a5, c5, rfl, ns_ret K5.out.r N5.out _ _, ret_below K5.out.b (by omega) _ _⟩
set_option maxRecDepth 100000 in
set_option maxHeartbeats 6400000 in
theorem rb_1tf (t : Int) (a : Option Addr) (cap : Nat) (N : List Nd) (h l c u m h' l' c' u' m' : Int) (s : Sh) (i : Nat) (w : World) (hN : Ns w a cap N) (hsm : Small N) (hle : N.length + 2 ≤ 2000) (hT : ∀ s, Tr N s t → (allP N s.lvs).length ≤ 2100) (hA : LfAt N t (i : Int) s i) (hC : Cl h l c u m h' l' c' u' m') (hv : dc h' l' (nd N i).s = 1) (Qs Qj : List Nd) (hS : SplO N t (i : Int) true Qs) (hJ : JoiO N t (i : Int) false Qj) :
    Calls Try.prog 15 #[trv t a cap N, .agg #[.int .i64 h, .int .i64 l, .int .i64 c, .int .i64 u, .int .i64 m], .int .i64 (i : Int)] w (BnIs w 1 Qs) := by
  have K1 := Lib.hid (KB.new w t a cap N h l c u m)
  have ci := fun W (hb : Below w.heap.size w W) => rlf_any t a cap N (i : Int) W (hN.keep hb) hsm true ⟨fun _ => ⟨s, i, hA⟩, fun _ => rfl⟩
  have hil := hA.1.hg.lt i (lvs_pre s i hA.2.2)
  have hc1 := hN.1
  have hc2 := hN.2.1
  unfold maxLen at hc2
  have hi0 : (0 : Int) ≤ (i : Int) := by omega
  have hi1 : (i : Int) < (N.length : Int) := by omega
  have HN := Lib.hid hN
  obtain ⟨b, o, pa, pc, rfl, hni⟩ := hN.2.2 i _ (nd_get hil)
  have HE := Lib.hid hni.c5
  generalize (nd N i).s = st at HE hv
  have cd := fun W => rdecide_to h l c u m h' l' c' u' m' st hC W
  rw [hv] at cd
  have cs := fun W (hb : Below w.heap.size w W) => rspl_any t (some ⟨b, o, none⟩) cap N (i : Int) W (hN.keep hb) hsm hle true Qs hS
  have cj := fun W (hb : Below w.heap.size w W) => rjl_any t (some ⟨b, o, none⟩) cap N (i : Int) W (hN.keep hb) hsm hT false Qj hJ
  have cp := fun W (hb : Below w.heap.size w W) => rplain_yes t (some ⟨b, o, none⟩) cap N W (hN.keep hb) hsm s hA.1
  unfold trv PlB at cs cj
  unfold PlIs trv at cp
  unfold trv at ci ⊢
  clear hN hsm hA hC hv hni hil hT hle hS hJ
  go_enter Try.func15, Try.ntmps15
  go_upto_region 3 with (go_at_call 32; ((with_reducible refine (ci _ K1.out.b).mono ?_); clear ci; rintro e w3 ⟨rfl, hb3⟩; have K3 := Lib.hid (K1.out.keep hb3); clear hb3))
  refine wp_region_held_drew (S := (fun W => W.cell? ⟨w.heap.size, 0, none⟩ = some (.int .i64 t) ∧ W.cell? ⟨w.heap.size, 1, none⟩ = some (.slice (some ⟨b, o, none⟩) N.length cap) ∧ W.cell? ⟨w.heap.size + 1, 0, none⟩ = some (.int .i64 h) ∧ W.cell? ⟨w.heap.size + 1, 1, none⟩ = some (.int .i64 l) ∧ W.cell? ⟨w.heap.size + 1, 2, none⟩ = some (.int .i64 c) ∧ W.cell? ⟨w.heap.size + 1, 3, none⟩ = some (.int .i64 u) ∧ W.cell? ⟨w.heap.size + 1, 4, none⟩ = some (.int .i64 m) ∧ W.cell? ⟨b, o + i * 6 + 5, none⟩ = some (.int .i64 st) ∧ KB w t (some ⟨b, o, none⟩) cap N h l c u m W)) (by kernel_rfl) (by first | exact KB.conj K3.out HE.out | exact KB.conj (K3.out.keep (Below.refl _ _).drew) HE.out) (fun hHeld => ?_)
  refine wpAnyH_take (i := 0) (v := ?_) rfl (by kernel_rfl) (by kernel_rfl) (by kernel_rfl) (fun _ _ _ h => h) (Or.inl ⟨by rfl, ?_⟩) hHeld ?_
  rotate_left
  · (intro wS hSw; (try dsimp only at hSw); (try go_split_ands); go_simp; try with_reducible rfl)
  try simp only [List.getElem_toArray, List.getElem_cons_succ, List.getElem_cons_zero, Act.put, List.setIfInBounds_toArray, List.set_cons_zero, List.set_cons_succ]
  refine wpAnyH_take (i := 1) (v := ?_) rfl (by kernel_rfl) (by kernel_rfl) (by kernel_rfl) (fun _ _ _ h => h) (Or.inl ⟨by rfl, ?_⟩) hHeld ?_
  rotate_left
  · (intro wS hSw; (try dsimp only at hSw); (try go_split_ands); go_simp; try with_reducible rfl)
  try simp only [List.getElem_toArray, List.getElem_cons_succ, List.getElem_cons_zero, Act.put, List.setIfInBounds_toArray, List.set_cons_zero, List.set_cons_succ]
  refine wpAnyH_take (i := 2) (v := ?_) rfl (by kernel_rfl) (by kernel_rfl) (by kernel_rfl) (fun _ _ _ h => h) (Or.inl ⟨by rfl, ?_⟩) hHeld ?_
  rotate_left
  · (intro wS hSw; (try dsimp only at hSw); (try go_split_ands); go_simp; try with_reducible rfl)
  try simp only [List.getElem_toArray, List.getElem_cons_succ, List.getElem_cons_zero, Act.put, List.setIfInBounds_toArray, List.set_cons_zero, List.set_cons_succ]
  refine wpAnyH_take (i := 3) (v := ?_) rfl (by kernel_rfl) (by kernel_rfl) (by kernel_rfl) (fun _ _ _ h => h) (Or.inl ⟨by rfl, ?_⟩) hHeld ?_
  rotate_left
  · (intro wS hSw; (try dsimp only at hSw); (try go_split_ands); go_simp; try with_reducible rfl)
  try simp only [List.getElem_toArray, List.getElem_cons_succ, List.getElem_cons_zero, Act.put, List.setIfInBounds_toArray, List.set_cons_zero, List.set_cons_succ]
  refine wpAnyH_take (i := 4) (v := ?_) rfl (by kernel_rfl) (by kernel_rfl) (by kernel_rfl) (fun _ _ _ h => h) (Or.inl ⟨by rfl, ?_⟩) hHeld ?_
  rotate_left
  · (intro wS hSw; (try dsimp only at hSw); (try go_split_ands); go_simp; try with_reducible rfl)
  try simp only [List.getElem_toArray, List.getElem_cons_succ, List.getElem_cons_zero, Act.put, List.setIfInBounds_toArray, List.set_cons_zero, List.set_cons_succ]
  refine wpAnyH_take (i := 5) (v := ?_) rfl (by kernel_rfl) (by kernel_rfl) (by kernel_rfl) (fun _ _ _ h => h) (Or.inl ⟨by rfl, ?_⟩) hHeld ?_
  rotate_left
  · (intro wS hSw; (try dsimp only at hSw); (try go_split_ands); go_simp; try with_reducible rfl)
  try simp only [List.getElem_toArray, List.getElem_cons_succ, List.getElem_cons_zero, Act.put, List.setIfInBounds_toArray, List.set_cons_zero, List.set_cons_succ]
  refine wpAnyH_take (i := 6) (v := ?_) rfl (by kernel_rfl) (by kernel_rfl) (by kernel_rfl) (fun _ _ _ h => h) (Or.inl ⟨by rfl, ?_⟩) hHeld ?_
  rotate_left
  · (intro wS hSw; (try dsimp only at hSw); (try go_split_ands); go_simp; try with_reducible rfl)
  try simp only [List.getElem_toArray, List.getElem_cons_succ, List.getElem_cons_zero, Act.put, List.setIfInBounds_toArray, List.set_cons_zero, List.set_cons_succ]
  refine wpAnyH_ready (rs := [7]) (by kernel_rfl) (by simp) ?_
  refine AllReadyH.cons rfl (fun K hK => ?_) AllReadyH.nil
  go_simp
  (go_at_call 27; ((with_reducible refine (cd _).mono ?_); rintro e X ⟨rfl, hbX⟩))
  refine hK.out _ _ ?_ (fun hNext => ?_)
  · exact KB.conj (hHeld.2.2.2.2.2.2.2.2.keep hbX) HE.out
  have K4 := Lib.hid (hHeld.2.2.2.2.2.2.2.2.keep hbX)
  clear hbX
  clear hK K hHeld
  have hHeld := hNext
  clear hNext
  try simp only [List.getElem_toArray, List.getElem_cons_succ, List.getElem_cons_zero, Act.put, List.setIfInBounds_toArray, List.set_cons_zero, List.set_cons_succ]
  refine wpAnyH_take (i := 8) (v := ?_) rfl (by kernel_rfl) (by kernel_rfl) (by kernel_rfl) (fun _ _ _ h => h) (Or.inl ⟨by rfl, ?_⟩) hHeld ?_
  rotate_left
  · (intro wS hSw; (try dsimp only at hSw); (try go_split_ands); go_simp; try with_reducible rfl)
  try simp only [List.getElem_toArray, List.getElem_cons_succ, List.getElem_cons_zero, Act.put, List.setIfInBounds_toArray, List.set_cons_zero, List.set_cons_succ]
  refine wpAnyH_done (by kernel_rfl) ?_ _
  clear hHeld
  have k0 := K4.out.g.c0
  have k1 := K4.out.g.c1
  go_wp2_with (first
    | (go_at_call 11; ((with_reducible refine (cs _ K4.out.b).mono ?_); clear cs k0 k1; rintro e W5 ⟨a5, c5, rfl, hn5, hb5⟩; have K5 := Lib.hid ((K4.out.keep hb5).keep (al1 (.cells #[.int .i64 0, .slice a5 Qs.length c5] 24))); have N5 := Lib.hid (hn5.keep (al1 (.cells #[.int .i64 0, .slice a5 Qs.length c5] 24))); clear hn5 hb5; have r0 := K5.out.r.c0; have r1 := K5.out.r.c1; have f0 := K5.out.r.fr 0; have f1 := K5.out.r.fr 1))
    | fail)
  exact bodyPost_ret (v := .tuple #[.agg #[.int .i64 0, .slice a5 Qs.length c5], .int .i64 1]) (by simp [results, Try.results15, go_sem, r0, r1]) rfl ⟨a5, c5, rfl, ns_ret K5.out.r N5.out _ _, ret_below K5.out.b (by omega) _ _⟩
set_option maxRecDepth 100000 in
set_option maxHeartbeats 6400000 in
theorem rb_1ft (t : Int) (a : Option Addr) (cap : Nat) (N : List Nd) (h l c u m h' l' c' u' m' : Int) (s : Sh) (i : Nat) (w : World) (hN : Ns w a cap N) (hsm : Small N) (hle : N.length + 2 ≤ 2000) (hT : ∀ s, Tr N s t → (allP N s.lvs).length ≤ 2100) (hA : LfAt N t (i : Int) s i) (hC : Cl h l c u m h' l' c' u' m') (hv : dc h' l' (nd N i).s = 1) (Qs Qj : List Nd) (hS : SplO N t (i : Int) false Qs) (hJ : JoiO N t (i : Int) true Qj) :
    Calls Try.prog 15 #[trv t a cap N, .agg #[.int .i64 h, .int .i64 l, .int .i64 c, .int .i64 u, .int .i64 m], .int .i64 (i : Int)] w (BnIs w 0 (lay N s 0)) := by
  have K1 := Lib.hid (KB.new w t a cap N h l c u m)
  have ci := fun W (hb : Below w.heap.size w W) => rlf_any t a cap N (i : Int) W (hN.keep hb) hsm true ⟨fun _ => ⟨s, i, hA⟩, fun _ => rfl⟩
  have hil := hA.1.hg.lt i (lvs_pre s i hA.2.2)
  have hc1 := hN.1
  have hc2 := hN.2.1
  unfold maxLen at hc2
  have hi0 : (0 : Int) ≤ (i : Int) := by omega
  have hi1 : (i : Int) < (N.length : Int) := by omega
  have HN := Lib.hid hN
  obtain ⟨b, o, pa, pc, rfl, hni⟩ := hN.2.2 i _ (nd_get hil)
  have HE := Lib.hid hni.c5
  generalize (nd N i).s = st at HE hv
  have cd := fun W => rdecide_to h l c u m h' l' c' u' m' st hC W
  rw [hv] at cd
  have cs := fun W (hb : Below w.heap.size w W) => rspl_any t (some ⟨b, o, none⟩) cap N (i : Int) W (hN.keep hb) hsm hle false Qs hS
  have cj := fun W (hb : Below w.heap.size w W) => rjl_any t (some ⟨b, o, none⟩) cap N (i : Int) W (hN.keep hb) hsm hT true Qj hJ
  have cp := fun W (hb : Below w.heap.size w W) => rplain_yes t (some ⟨b, o, none⟩) cap N W (hN.keep hb) hsm s hA.1
  unfold trv PlB at cs cj
  unfold PlIs trv at cp
  unfold trv at ci ⊢
  clear hN hsm hA hC hv hni hil hT hle hS hJ
  go_enter Try.func15, Try.ntmps15
  go_upto_region 3 with (go_at_call 32; ((with_reducible refine (ci _ K1.out.b).mono ?_); clear ci; rintro e w3 ⟨rfl, hb3⟩; have K3 := Lib.hid (K1.out.keep hb3); clear hb3))
  refine wp_region_held_drew (S := (fun W => W.cell? ⟨w.heap.size, 0, none⟩ = some (.int .i64 t) ∧ W.cell? ⟨w.heap.size, 1, none⟩ = some (.slice (some ⟨b, o, none⟩) N.length cap) ∧ W.cell? ⟨w.heap.size + 1, 0, none⟩ = some (.int .i64 h) ∧ W.cell? ⟨w.heap.size + 1, 1, none⟩ = some (.int .i64 l) ∧ W.cell? ⟨w.heap.size + 1, 2, none⟩ = some (.int .i64 c) ∧ W.cell? ⟨w.heap.size + 1, 3, none⟩ = some (.int .i64 u) ∧ W.cell? ⟨w.heap.size + 1, 4, none⟩ = some (.int .i64 m) ∧ W.cell? ⟨b, o + i * 6 + 5, none⟩ = some (.int .i64 st) ∧ KB w t (some ⟨b, o, none⟩) cap N h l c u m W)) (by kernel_rfl) (by first | exact KB.conj K3.out HE.out | exact KB.conj (K3.out.keep (Below.refl _ _).drew) HE.out) (fun hHeld => ?_)
  refine wpAnyH_take (i := 0) (v := ?_) rfl (by kernel_rfl) (by kernel_rfl) (by kernel_rfl) (fun _ _ _ h => h) (Or.inl ⟨by rfl, ?_⟩) hHeld ?_
  rotate_left
  · (intro wS hSw; (try dsimp only at hSw); (try go_split_ands); go_simp; try with_reducible rfl)
  try simp only [List.getElem_toArray, List.getElem_cons_succ, List.getElem_cons_zero, Act.put, List.setIfInBounds_toArray, List.set_cons_zero, List.set_cons_succ]
  refine wpAnyH_take (i := 1) (v := ?_) rfl (by kernel_rfl) (by kernel_rfl) (by kernel_rfl) (fun _ _ _ h => h) (Or.inl ⟨by rfl, ?_⟩) hHeld ?_
  rotate_left
  · (intro wS hSw; (try dsimp only at hSw); (try go_split_ands); go_simp; try with_reducible rfl)
  try simp only [List.getElem_toArray, List.getElem_cons_succ, List.getElem_cons_zero, Act.put, List.setIfInBounds_toArray, List.set_cons_zero, List.set_cons_succ]
  refine wpAnyH_take (i := 2) (v := ?_) rfl (by kernel_rfl) (by kernel_rfl) (by kernel_rfl) (fun _ _ _ h => h) (Or.inl ⟨by rfl, ?_⟩) hHeld ?_
  rotate_left
  · (intro wS hSw; (try dsimp only at hSw); (try go_split_ands); go_simp; try with_reducible rfl)
  try simp only [List.getElem_toArray, List.getElem_cons_succ, List.getElem_cons_zero, Act.put, List.setIfInBounds_toArray, List.set_cons_zero, List.set_cons_succ]
  refine wpAnyH_take (i := 3) (v := ?_) rfl (by kernel_rfl) (by kernel_rfl) (by kernel_rfl) (fun _ _ _ h => h) (Or.inl ⟨by rfl, ?_⟩) hHeld ?_
  rotate_left
  · (intro wS hSw; (try dsimp only at hSw); (try go_split_ands); go_simp; try with_reducible rfl)
  try simp only [List.getElem_toArray, List.getElem_cons_succ, List.getElem_cons_zero, Act.put, List.setIfInBounds_toArray, List.set_cons_zero, List.set_cons_succ]
  refine wpAnyH_take (i := 4) (v := ?_) rfl (by kernel_rfl) (by kernel_rfl) (by kernel_rfl) (fun _ _ _ h => h) (Or.inl ⟨by rfl, ?_⟩) hHeld ?_
  rotate_left
  · (intro wS hSw; (try dsimp only at hSw); (try go_split_ands); go_simp; try with_reducible rfl)
  try simp only [List.getElem_toArray, List.getElem_cons_succ, List.getElem_cons_zero, Act.put, List.setIfInBounds_toArray, List.set_cons_zero, List.set_cons_succ]
  refine wpAnyH_take (i := 5) (v := ?_) rfl (by kernel_rfl) (by kernel_rfl) (by kernel_rfl) (fun _ _ _ h => h) (Or.inl ⟨by rfl, ?_⟩) hHeld ?_
  rotate_left
  · (intro wS hSw; (try dsimp only at hSw); (try go_split_ands); go_simp; try with_reducible rfl)
  try simp only [List.getElem_toArray, List.getElem_cons_succ, List.getElem_cons_zero, Act.put, List.setIfInBounds_toArray, List.set_cons_zero, List.set_cons_succ]
  refine wpAnyH_take (i := 6) (v := ?_) rfl (by kernel_rfl) (by kernel_rfl) (by kernel_rfl) (fun _ _ _ h => h) (Or.inl ⟨by rfl, ?_⟩) hHeld ?_
  rotate_left
  · (intro wS hSw; (try dsimp only at hSw); (try go_split_ands); go_simp; try with_reducible rfl)
  try simp only [List.getElem_toArray, List.getElem_cons_succ, List.getElem_cons_zero, Act.put, List.setIfInBounds_toArray, List.set_cons_zero, List.set_cons_succ]
  refine wpAnyH_ready (rs := [7]) (by kernel_rfl) (by simp) ?_
  refine AllReadyH.cons rfl (fun K hK => ?_) AllReadyH.nil
  go_simp
  (go_at_call 27; ((with_reducible refine (cd _).mono ?_); rintro e X ⟨rfl, hbX⟩))
  refine hK.out _ _ ?_ (fun hNext => ?_)
  · exact KB.conj (hHeld.2.2.2.2.2.2.2.2.keep hbX) HE.out
  have K4 := Lib.hid (hHeld.2.2.2.2.2.2.2.2.keep hbX)
  clear hbX
  clear hK K hHeld
  have hHeld := hNext
  clear hNext
  try simp only [List.getElem_toArray, List.getElem_cons_succ, List.getElem_cons_zero, Act.put, List.setIfInBounds_toArray, List.set_cons_zero, List.set_cons_succ]
  refine wpAnyH_take (i := 8) (v := ?_) rfl (by kernel_rfl) (by kernel_rfl) (by kernel_rfl) (fun _ _ _ h => h) (Or.inl ⟨by rfl, ?_⟩) hHeld ?_
  rotate_left
  · (intro wS hSw; (try dsimp only at hSw); (try go_split_ands); go_simp; try with_reducible rfl)
  try simp only [List.getElem_toArray, List.getElem_cons_succ, List.getElem_cons_zero, Act.put, List.setIfInBounds_toArray, List.set_cons_zero, List.set_cons_succ]
  refine wpAnyH_done (by kernel_rfl) ?_ _
  clear hHeld
  have k0 := K4.out.g.c0
  have k1 := K4.out.g.c1
  go_wp2_with (first
    | (go_at_call 11; ((with_reducible refine (cs _ K4.out.b).mono ?_); clear cs k0 k1; rintro e W5 ⟨a5, c5, rfl, hn5, hb5⟩; have K5 := Lib.hid ((K4.out.keep hb5).keep (al1 (.cells #[.int .i64 0, .slice a5 Qs.length c5] 24))); have N5 := Lib.hid (hn5.keep (al1 (.cells #[.int .i64 0, .slice a5 Qs.length c5] 24))); clear hn5 hb5; have k0 := K5.out.g.c0; have k1 := K5.out.g.c1))
    | (go_at_call 13; ((with_reducible refine (cj _ K5.out.b).mono ?_); clear cj k0 k1; rintro e W6 ⟨a6, c6, rfl, hn6, hb6⟩; have K6 := Lib.hid ((K5.out.keep hb6).keep (al1 (.cells #[.int .i64 0, .slice a6 Qj.length c6] 24))); have N6 := Lib.hid (hn6.keep (al1 (.cells #[.int .i64 0, .slice a6 Qj.length c6] 24))); clear hn6 hb6; have k0 := K6.out.g.c0; have k1 := K6.out.g.c1))
    | (go_at_call 34; ((with_reducible refine (cp _ K6.out.b).mono ?_); clear cp k0 k1; rintro e W7 ⟨a7, c7, rfl, hn7, hb7⟩; have K7 := Lib.hid ((K6.out.keep hb7).keep (al1 (.cells #[.int .i64 0, .slice a7 (lay N s 0).length c7] 24))); have N7 := Lib.hid (hn7.keep (al1 (.cells #[.int .i64 0, .slice a7 (lay N s 0).length c7] 24))); clear hn7 hb7; have r0 := K7.out.r.c0; have r1 := K7.out.r.c1; have f0 := K7.out.r.fr 0; have f1 := K7.out.r.fr 1))
    | fail)
  exact bodyPost_ret (v := .tuple #[.agg #[.int .i64 0, .slice a7 (lay N s 0).length c7], .int .i64 0]) (by simp [results, Try.results15, go_sem, r0, r1]) rfl ⟨a7, c7, rfl, ns_ret K7.out.r N7.out _ _, ret_below K7.out.b (by omega) _ _⟩
set_option maxRecDepth 100000 in
set_option maxHeartbeats 6400000 in
theorem rb_1ff (t : Int) (a : Option Addr) (cap : Nat) (N : List Nd) (h l c u m h' l' c' u' m' : Int) (s : Sh) (i : Nat) (w : World) (hN : Ns w a cap N) (hsm : Small N) (hle : N.length + 2 ≤ 2000) (hT : ∀ s, Tr N s t → (allP N s.lvs).length ≤ 2100) (hA : LfAt N t (i : Int) s i) (hC : Cl h l c u m h' l' c' u' m') (hv : dc h' l' (nd N i).s = 1) (Qs Qj : List Nd) (hS : SplO N t (i : Int) false Qs) (hJ : JoiO N t (i : Int) false Qj) :
    Calls Try.prog 15 #[trv t a cap N, .agg #[.int .i64 h, .int .i64 l, .int .i64 c, .int .i64 u, .int .i64 m], .int .i64 (i : Int)] w (BnIs w 0 (lay N s 0)) := by
  have K1 := Lib.hid (KB.new w t a cap N h l c u m)
  have ci := fun W (hb : Below w.heap.size w W) => rlf_any t a cap N (i : Int) W (hN.keep hb) hsm true ⟨fun _ => ⟨s, i, hA⟩, fun _ => rfl⟩
  have hil := hA.1.hg.lt i (lvs_pre s i hA.2.2)
  have hc1 := hN.1
  have hc2 := hN.2.1
  unfold maxLen at hc2
  have hi0 : (0 : Int) ≤ (i : Int) := by omega
  have hi1 : (i : Int) < (N.length : Int) := by omega
  have HN := Lib.hid hN
  obtain ⟨b, o, pa, pc, rfl, hni⟩ := hN.2.2 i _ (nd_get hil)
  have HE := Lib.hid hni.c5
  generalize (nd N i).s = st at HE hv
  have cd := fun W => rdecide_to h l c u m h' l' c' u' m' st hC W
  rw [hv] at cd
  have cs := fun W (hb : Below w.heap.size w W) => rspl_any t (some ⟨b, o, none⟩) cap N (i : Int) W (hN.keep hb) hsm hle false Qs hS
  have cj := fun W (hb : Below w.heap.size w W) => rjl_any t (some ⟨b, o, none⟩) cap N (i : Int) W (hN.keep hb) hsm hT false Qj hJ
  have cp := fun W (hb : Below w.heap.size w W) => rplain_yes t (some ⟨b, o, none⟩) cap N W (hN.keep hb) hsm s hA.1
  unfold trv PlB at cs cj
  unfold PlIs trv at cp
  unfold trv at ci ⊢
  clear hN hsm hA hC hv hni hil hT hle hS hJ
  go_enter Try.func15, Try.ntmps15
  go_upto_region 3 with (go_at_call 32; ((with_reducible refine (ci _ K1.out.b).mono ?_); clear ci; rintro e w3 ⟨rfl, hb3⟩; have K3 := Lib.hid (K1.out.keep hb3); clear hb3))
  refine wp_region_held_drew (S := (fun W => W.cell? ⟨w.heap.size, 0, none⟩ = some (.int .i64 t) ∧ W.cell? ⟨w.heap.size, 1, none⟩ = some (.slice (some ⟨b, o, none⟩) N.length cap) ∧ W.cell? ⟨w.heap.size + 1, 0, none⟩ = some (.int .i64 h) ∧ W.cell? ⟨w.heap.size + 1, 1, none⟩ = some (.int .i64 l) ∧ W.cell? ⟨w.heap.size + 1, 2, none⟩ = some (.int .i64 c) ∧ W.cell? ⟨w.heap.size + 1, 3, none⟩ = some (.int .i64 u) ∧ W.cell? ⟨w.heap.size + 1, 4, none⟩ = some (.int .i64 m) ∧ W.cell? ⟨b, o + i * 6 + 5, none⟩ = some (.int .i64 st) ∧ KB w t (some ⟨b, o, none⟩) cap N h l c u m W)) (by kernel_rfl) (by first | exact KB.conj K3.out HE.out | exact KB.conj (K3.out.keep (Below.refl _ _).drew) HE.out) (fun hHeld => ?_)
  refine wpAnyH_take (i := 0) (v := ?_) rfl (by kernel_rfl) (by kernel_rfl) (by kernel_rfl) (fun _ _ _ h => h) (Or.inl ⟨by rfl, ?_⟩) hHeld ?_
  rotate_left
  · (intro wS hSw; (try dsimp only at hSw); (try go_split_ands); go_simp; try with_reducible rfl)
  try simp only [List.getElem_toArray, List.getElem_cons_succ, List.getElem_cons_zero, Act.put, List.setIfInBounds_toArray, List.set_cons_zero, List.set_cons_succ]
  refine wpAnyH_take (i := 1) (v := ?_) rfl (by kernel_rfl) (by kernel_rfl) (by kernel_rfl) (fun _ _ _ h => h) (Or.inl ⟨by rfl, ?_⟩) hHeld ?_
  rotate_left
  · (intro wS hSw; (try dsimp only at hSw); (try go_split_ands); go_simp; try with_reducible rfl)
  try simp only [List.getElem_toArray, List.getElem_cons_succ, List.getElem_cons_zero, Act.put, List.setIfInBounds_toArray, List.set_cons_zero, List.set_cons_succ]
  refine wpAnyH_take (i := 2) (v := ?_) rfl (by kernel_rfl) (by kernel_rfl) (by kernel_rfl) (fun _ _ _ h => h) (Or.inl ⟨by rfl, ?_⟩) hHeld ?_
  rotate_left
  · (intro wS hSw; (try dsimp only at hSw); (try go_split_ands); go_simp; try with_reducible rfl)
  try simp only [List.getElem_toArray, List.getElem_cons_succ, List.getElem_cons_zero, Act.put, List.setIfInBounds_toArray, List.set_cons_zero, List.set_cons_succ]
  refine wpAnyH_take (i := 3) (v := ?_) rfl (by kernel_rfl) (by kernel_rfl) (by kernel_rfl) (fun _ _ _ h => h) (Or.inl ⟨by rfl, ?_⟩) hHeld ?_
  rotate_left
  · (intro wS hSw; (try dsimp only at hSw); (try go_split_ands); go_simp; try with_reducible rfl)
  try simp only [List.getElem_toArray, List.getElem_cons_succ, List.getElem_cons_zero, Act.put, List.setIfInBounds_toArray, List.set_cons_zero, List.set_cons_succ]
  refine wpAnyH_take (i := 4) (v := ?_) rfl (by kernel_rfl) (by kernel_rfl) (by kernel_rfl) (fun _ _ _ h => h) (Or.inl ⟨by rfl, ?_⟩) hHeld ?_
  rotate_left
  · (intro wS hSw; (try dsimp only at hSw); (try go_split_ands); go_simp; try with_reducible rfl)
  try simp only [List.getElem_toArray, List.getElem_cons_succ, List.getElem_cons_zero, Act.put, List.setIfInBounds_toArray, List.set_cons_zero, List.set_cons_succ]
  refine wpAnyH_take (i := 5) (v := ?_) rfl (by kernel_rfl) (by kernel_rfl) (by kernel_rfl) (fun _ _ _ h => h) (Or.inl ⟨by rfl, ?_⟩) hHeld ?_
  rotate_left
  · (intro wS hSw; (try dsimp only at hSw); (try go_split_ands); go_simp; try with_reducible rfl)
  try simp only [List.getElem_toArray, List.getElem_cons_succ, List.getElem_cons_zero, Act.put, List.setIfInBounds_toArray, List.set_cons_zero, List.set_cons_succ]
  refine wpAnyH_take (i := 6) (v := ?_) rfl (by kernel_rfl) (by kernel_rfl) (by kernel_rfl) (fun _ _ _ h => h) (Or.inl ⟨by rfl, ?_⟩) hHeld ?_
  rotate_left
  · (intro wS hSw; (try dsimp only at hSw); (try go_split_ands); go_simp; try with_reducible rfl)
  try simp only [List.getElem_toArray, List.getElem_cons_succ, List.getElem_cons_zero, Act.put, List.setIfInBounds_toArray, List.set_cons_zero, List.set_cons_succ]
  refine wpAnyH_ready (rs := [7]) (by kernel_rfl) (by simp) ?_
  refine AllReadyH.cons rfl (fun K hK => ?_) AllReadyH.nil
  go_simp
  (go_at_call 27; ((with_reducible refine (cd _).mono ?_); rintro e X ⟨rfl, hbX⟩))
  refine hK.out _ _ ?_ (fun hNext => ?_)
  · exact KB.conj (hHeld.2.2.2.2.2.2.2.2.keep hbX) HE.out
  have K4 := Lib.hid (hHeld.2.2.2.2.2.2.2.2.keep hbX)
  clear hbX
  clear hK K hHeld
  have hHeld := hNext
  clear hNext
  try simp only [List.getElem_toArray, List.getElem_cons_succ, List.getElem_cons_zero, Act.put, List.setIfInBounds_toArray, List.set_cons_zero, List.set_cons_succ]
  refine wpAnyH_take (i := 8) (v := ?_) rfl (by kernel_rfl) (by kernel_rfl) (by kernel_rfl) (fun _ _ _ h => h) (Or.inl ⟨by rfl, ?_⟩) hHeld ?_
  rotate_left
  · (intro wS hSw; (try dsimp only at hSw); (try go_split_ands); go_simp; try with_reducible rfl)
  try simp only [List.getElem_toArray, List.getElem_cons_succ, List.getElem_cons_zero, Act.put, List.setIfInBounds_toArray, List.set_cons_zero, List.set_cons_succ]
  refine wpAnyH_done (by kernel_rfl) ?_ _
  clear hHeld
  have k0 := K4.out.g.c0
  have k1 := K4.out.g.c1
  go_wp2_with (first
    | (go_at_call 11; ((with_reducible refine (cs _ K4.out.b).mono ?_); clear cs k0 k1; rintro e W5 ⟨a5, c5, rfl, hn5, hb5⟩; have K5 := Lib.hid ((K4.out.keep hb5).keep (al1 (.cells #[.int .i64 0, .slice a5 Qs.length c5] 24))); have N5 := Lib.hid (hn5.keep (al1 (.cells #[.int .i64 0, .slice a5 Qs.length c5] 24))); clear hn5 hb5; have k0 := K5.out.g.c0; have k1 := K5.out.g.c1))
    | (go_at_call 13; ((with_reducible refine (cj _ K5.out.b).mono ?_); clear cj k0 k1; rintro e W6 ⟨a6, c6, rfl, hn6, hb6⟩; have K6 := Lib.hid ((K5.out.keep hb6).keep (al1 (.cells #[.int .i64 0, .slice a6 Qj.length c6] 24))); have N6 := Lib.hid (hn6.keep (al1 (.cells #[.int .i64 0, .slice a6 Qj.length c6] 24))); clear hn6 hb6; have k0 := K6.out.g.c0; have k1 := K6.out.g.c1))
    | (go_at_call 34; ((with_reducible refine (cp _ K6.out.b).mono ?_); clear cp k0 k1; rintro e W7 ⟨a7, c7, rfl, hn7, hb7⟩; have K7 := Lib.hid ((K6.out.keep hb7).keep (al1 (.cells #[.int .i64 0, .slice a7 (lay N s 0).length c7] 24))); have N7 := Lib.hid (hn7.keep (al1 (.cells #[.int .i64 0, .slice a7 (lay N s 0).length c7] 24))); clear hn7 hb7; have r0 := K7.out.r.c0; have r1 := K7.out.r.c1; have f0 := K7.out.r.fr 0; have f1 := K7.out.r.fr 1))
    | fail)
  exact bodyPost_ret (v := .tuple #[.agg #[.int .i64 0, .slice a7 (lay N s 0).length c7], .int .i64 0]) (by simp [results, Try.results15, go_sem, r0, r1]) rfl ⟨a7, c7, rfl, ns_ret K7.out.r N7.out _ _, ret_below K7.out.b (by omega) _ _⟩
set_option maxRecDepth 100000 in
set_option maxHeartbeats 6400000 in
theorem rb_2tt (t : Int) (a : Option Addr) (cap : Nat) (N : List Nd) (h l c u m h' l' c' u' m' : Int) (s : Sh) (i : Nat) (w : World) (hN : Ns w a cap N) (hsm : Small N) (hle : N.length + 2 ≤ 2000) (hT : ∀ s, Tr N s t → (allP N s.lvs).length ≤ 2100) (hA : LfAt N t (i : Int) s i) (hC : Cl h l c u m h' l' c' u' m') (hv : dc h' l' (nd N i).s = 2) (Qs Qj : List Nd) (hS : SplO N t (i : Int) true Qs) (hJ : JoiO N t (i : Int) true Qj) :
    Calls Try.prog 15 #[trv t a cap N, .agg #[.int .i64 h, .int .i64 l, .int .i64 c, .int .i64 u, .int .i64 m], .int .i64 (i : Int)] w (BnIs w 2 Qj) := by
  have K1 := Lib.hid (KB.new w t a cap N h l c u m)
  have ci := fun W (hb : Below w.heap.size w W) => rlf_any t a cap N (i : Int) W (hN.keep hb) hsm true ⟨fun _ => ⟨s, i, hA⟩, fun _ => rfl⟩
  have hil := hA.1.hg.lt i (lvs_pre s i hA.2.2)
  have hc1 := hN.1
  have hc2 := hN.2.1
  unfold maxLen at hc2
  have hi0 : (0 : Int) ≤ (i : Int) := by omega
  have hi1 : (i : Int) < (N.length : Int) := by omega
  have HN := Lib.hid hN
  obtain ⟨b, o, pa, pc, rfl, hni⟩ := hN.2.2 i _ (nd_get hil)
  have HE := Lib.hid hni.c5
  generalize (nd N i).s = st at HE hv
  have cd := fun W => rdecide_to h l c u m h' l' c' u' m' st hC W
  rw [hv] at cd
  have cs := fun W (hb : Below w.heap.size w W) => rspl_any t (some ⟨b, o, none⟩) cap N (i : Int) W (hN.keep hb) hsm hle true Qs hS
  have cj := fun W (hb : Below w.heap.size w W) => rjl_any t (some ⟨b, o, none⟩) cap N (i : Int) W (hN.keep hb) hsm hT true Qj hJ
  have cp := fun W (hb : Below w.heap.size w W) => rplain_yes t (some ⟨b, o, none⟩) cap N W (hN.keep hb) hsm s hA.1
  unfold trv PlB at cs cj
  unfold PlIs trv at cp
  unfold trv at ci ⊢
  clear hN hsm hA hC hv hni hil hT hle hS hJ
  go_enter Try.func15, Try.ntmps15
  go_upto_region 3 with (go_at_call 32; ((with_reducible refine (ci _ K1.out.b).mono ?_); clear ci; rintro e w3 ⟨rfl, hb3⟩; have K3 := Lib.hid (K1.out.keep hb3); clear hb3))
  refine wp_region_held_drew (S := (fun W => W.cell? ⟨w.heap.size, 0, none⟩ = some (.int .i64 t) ∧ W.cell? ⟨w.heap.size, 1, none⟩ = some (.slice (some ⟨b, o, none⟩) N.length cap) ∧ W.cell? ⟨w.heap.size + 1, 0, none⟩ = some (.int .i64 h) ∧ W.cell? ⟨w.heap.size + 1, 1, none⟩ = some (.int .i64 l) ∧ W.cell? ⟨w.heap.size + 1, 2, none⟩ = some (.int .i64 c) ∧ W.cell? ⟨w.heap.size + 1, 3, none⟩ = some (.int .i64 u) ∧ W.cell? ⟨w.heap.size + 1, 4, none⟩ = some (.int .i64 m) ∧ W.cell? ⟨b, o + i * 6 + 5, none⟩ = some (.int .i64 st) ∧ KB w t (some ⟨b, o, none⟩) cap N h l c u m W)) (by kernel_rfl) (by first | exact KB.conj K3.out HE.out | exact KB.conj (K3.out.keep (Below.refl _ _).drew) HE.out) (fun hHeld => ?_)
  refine wpAnyH_take (i := 0) (v := ?_) rfl (by kernel_rfl) (by kernel_rfl) (by kernel_rfl) (fun _ _ _ h => h) (Or.inl ⟨by rfl, ?_⟩) hHeld ?_
  rotate_left
  · (intro wS hSw; (try dsimp only at hSw); (try go_split_ands); go_simp; try with_reducible rfl)
  try simp only [List.getElem_toArray, List.getElem_cons_succ, List.getElem_cons_zero, Act.put, List.setIfInBounds_toArray, List.set_cons_zero, List.set_cons_succ]
  refine wpAnyH_take (i := 1) (v := ?_) rfl (by kernel_rfl) (by kernel_rfl) (by kernel_rfl) (fun _ _ _ h => h) (Or.inl ⟨by rfl, ?_⟩) hHeld ?_
  rotate_left
  · (intro wS hSw; (try dsimp only at hSw); (try go_split_ands); go_simp; try with_reducible rfl)
  try simp only [List.getElem_toArray, List.getElem_cons_succ, List.getElem_cons_zero, Act.put, List.setIfInBounds_toArray, List.set_cons_zero, List.set_cons_succ]
  refine wpAnyH_take (i := 2) (v := ?_) rfl (by kernel_rfl) (by kernel_rfl) (by kernel_rfl) (fun _ _ _ h => h) (Or.inl ⟨by rfl, ?_⟩) hHeld ?_
  rotate_left
  · (intro wS hSw; (try dsimp only at hSw); (try go_split_ands); go_simp; try with_reducible rfl)
  try simp only [List.getElem_toArray, List.getElem_cons_succ, List.getElem_cons_zero, Act.put, List.setIfInBounds_toArray, List.set_cons_zero, List.set_cons_succ]
  refine wpAnyH_take (i := 3) (v := ?_) rfl (by kernel_rfl) (by kernel_rfl) (by kernel_rfl) (fun _ _ _ h => h) (Or.inl ⟨by rfl, ?_⟩) hHeld ?_
  rotate_left
  · (intro wS hSw; (try dsimp only at hSw); (try go_split_ands); go_simp; try with_reducible rfl)
  try simp only [List.getElem_toArray, List.getElem_cons_succ, List.getElem_cons_zero, Act.put, List.setIfInBounds_toArray, List.set_cons_zero, List.set_cons_succ]
  refine wpAnyH_take (i := 4) (v := ?_) rfl (by kernel_rfl) (by kernel_rfl) (by kernel_rfl) (fun _ _ _ h => h) (Or.inl ⟨by rfl, ?_⟩) hHeld ?_
  rotate_left
  · (intro wS hSw; (try dsimp only at hSw); (try go_split_ands); go_simp; try with_reducible rfl)
  try simp only [List.getElem_toArray, List.getElem_cons_succ, List.getElem_cons_zero, Act.put, List.setIfInBounds_toArray, List.set_cons_zero, List.set_cons_succ]
  refine wpAnyH_take (i := 5) (v := ?_) rfl (by kernel_rfl) (by kernel_rfl) (by kernel_rfl) (fun _ _ _ h => h) (Or.inl ⟨by rfl, ?_⟩) hHeld ?_
  rotate_left
  · (intro wS hSw; (try dsimp only at hSw); (try go_split_ands); go_simp; try with_reducible rfl)
  try simp only [List.getElem_toArray, List.getElem_cons_succ, List.getElem_cons_zero, Act.put, List.setIfInBounds_toArray, List.set_cons_zero, List.set_cons_succ]
  refine wpAnyH_take (i := 6) (v := ?_) rfl (by kernel_rfl) (by kernel_rfl) (by kernel_rfl) (fun _ _ _ h => h) (Or.inl ⟨by rfl, ?_⟩) hHeld ?_
  rotate_left
  · (intro wS hSw; (try dsimp only at hSw); (try go_split_ands); go_simp; try with_reducible rfl)
  try simp only [List.getElem_toArray, List.getElem_cons_succ, List.getElem_cons_zero, Act.put, List.setIfInBounds_toArray, List.set_cons_zero, List.set_cons_succ]
  refine wpAnyH_ready (rs := [7]) (by kernel_rfl) (by simp) ?_
  refine AllReadyH.cons rfl (fun K hK => ?_) AllReadyH.nil
  go_simp
  (go_at_call 27; ((with_reducible refine (cd _).mono ?_); rintro e X ⟨rfl, hbX⟩))
  refine hK.out _ _ ?_ (fun hNext => ?_)
  · exact KB.conj (hHeld.2.2.2.2.2.2.2.2.keep hbX) HE.out
  have K4 := Lib.hid (hHeld.2.2.2.2.2.2.2.2.keep hbX)
  clear hbX
  clear hK K hHeld
  have hHeld := hNext
  clear hNext
  try simp only [List.getElem_toArray, List.getElem_cons_succ, List.getElem_cons_zero, Act.put, List.setIfInBounds_toArray, List.set_cons_zero, List.set_cons_succ]
  refine wpAnyH_take (i := 8) (v := ?_) rfl (by kernel_rfl) (by kernel_rfl) (by kernel_rfl) (fun _ _ _ h => h) (Or.inl ⟨by rfl, ?_⟩) hHeld ?_
  rotate_left
  · (intro wS hSw; (try dsimp only at hSw); (try go_split_ands); go_simp; try with_reducible rfl)
  try simp only [List.getElem_toArray, List.getElem_cons_succ, List.getElem_cons_zero, Act.put, List.setIfInBounds_toArray, List.set_cons_zero, List.set_cons_succ]
  refine wpAnyH_done (by kernel_rfl) ?_ _
  clear hHeld
  have k0 := K4.out.g.c0
  have k1 := K4.out.g.c1
  go_wp2_with (first
    | (go_at_call 11; ((with_reducible refine (cs _ K4.out.b).mono ?_); clear cs k0 k1; rintro e W5 ⟨a5, c5, rfl, hn5, hb5⟩; have K5 := Lib.hid ((K4.out.keep hb5).keep (al1 (.cells #[.int .i64 0, .slice a5 Qs.length c5] 24))); have N5 := Lib.hid (hn5.keep (al1 (.cells #[.int .i64 0, .slice a5 Qs.length c5] 24))); clear hn5 hb5; have k0 := K5.out.g.c0; have k1 := K5.out.g.c1))
    | (go_at_call 13; ((with_reducible refine (cj _ K5.out.b).mono ?_); clear cj k0 k1; rintro e W6 ⟨a6, c6, rfl, hn6, hb6⟩; have K6 := Lib.hid ((K5.out.keep hb6).keep (al1 (.cells #[.int .i64 0, .slice a6 Qj.length c6] 24))); have N6 := Lib.hid (hn6.keep (al1 (.cells #[.int .i64 0, .slice a6 Qj.length c6] 24))); clear hn6 hb6; have r0 := K6.out.r.c0; have r1 := K6.out.r.c1; have f0 := K6.out.r.fr 0; have f1 := K6.out.r.fr 1))
    | fail)
  exact bodyPost_ret (v := .tuple #[.agg #[.int .i64 0, .slice a6 Qj.length c6], .int .i64 2]) (by simp [results, Try.results15, go_sem, r0, r1]) rfl ⟨a6, c6, rfl, ns_ret K6.out.r N6.out _ _, ret_below K6.out.b (by omega) _ _⟩
set_option maxRecDepth 100000 in
set_option maxHeartbeats 6400000 in
theorem rb_2tf (t : Int) (a : Option Addr) (cap : Nat) (N : List Nd) (h l c u m h' l' c' u' m' : Int) (s : Sh) (i : Nat) (w : World) (hN : Ns w a cap N) (hsm : Small N) (hle : N.length + 2 ≤ 2000) (hT : ∀ s, Tr N s t → (allP N s.lvs).length ≤ 2100) (hA : LfAt N t (i : Int) s i) (hC : Cl h l c u m h' l' c' u' m') (hv : dc h' l' (nd N i).s = 2) (Qs Qj : List Nd) (hS : SplO N t (i : Int) true Qs) (hJ : JoiO N t (i : Int) false Qj) :
    Calls Try.prog 15 #[trv t a cap N, .agg #[.int .i64 h, .int .i64 l, .int .i64 c, .int .i64 u, .int .i64 m], .int .i64 (i : Int)] w (BnIs w 0 (lay N s 0)) := by
  have K1 := Lib.hid (KB.new w t a cap N h l c u m)
  have ci := fun W (hb : Below w.heap.size w W) => rlf_any t a cap N (i : Int) W (hN.keep hb) hsm true ⟨fun _ => ⟨s, i, hA⟩, fun _ => rfl⟩
  have hil := hA.1.hg.lt i (lvs_pre s i hA.2.2)
  have hc1 := hN.1
  have hc2 := hN.2.1
  unfold maxLen at hc2
  have hi0 : (0 : Int) ≤ (i : Int) := by omega
  have hi1 : (i : Int) < (N.length : Int) := by omega
  have HN := Lib.hid hN
  obtain ⟨b, o, pa, pc, rfl, hni⟩ := hN.2.2 i _ (nd_get hil)
  have HE := Lib.hid hni.c5
  generalize (nd N i).s = st at HE hv
  have cd := fun W => rdecide_to h l c u m h' l' c' u' m' st hC W
  rw [hv] at cd
  have cs := fun W (hb : Below w.heap.size w W) => rspl_any t (some ⟨b, o, none⟩) cap N (i : Int) W (hN.keep hb) hsm hle true Qs hS
  have cj := fun W (hb : Below w.heap.size w W) => rjl_any t (some ⟨b, o, none⟩) cap N (i : Int) W (hN.keep hb) hsm hT false Qj hJ
  have cp := fun W (hb : Below w.heap.size w W) => rplain_yes t (some ⟨b, o, none⟩) cap N W (hN.keep hb) hsm s hA.1
  unfold trv PlB at cs cj
  unfold PlIs trv at cp
  unfold trv at ci ⊢
  clear hN hsm hA hC hv hni hil hT hle hS hJ
  go_enter Try.func15, Try.ntmps15
  go_upto_region 3 with (go_at_call 32; ((with_reducible refine (ci _ K1.out.b).mono ?_); clear ci; rintro e w3 ⟨rfl, hb3⟩; have K3 := Lib.hid (K1.out.keep hb3); clear hb3))
  refine wp_region_held_drew (S := (fun W => W.cell? ⟨w.heap.size, 0, none⟩ = some (.int .i64 t) ∧ W.cell? ⟨w.heap.size, 1, none⟩ = some (.slice (some ⟨b, o, none⟩) N.length cap) ∧ W.cell? ⟨w.heap.size + 1, 0, none⟩ = some (.int .i64 h) ∧ W.cell? ⟨w.heap.size + 1, 1, none⟩ = some (.int .i64 l) ∧ W.cell? ⟨w.heap.size + 1, 2, none⟩ = some (.int .i64 c) ∧ W.cell? ⟨w.heap.size + 1, 3, none⟩ = some (.int .i64 u) ∧ W.cell? ⟨w.heap.size + 1, 4, none⟩ = some (.int .i64 m) ∧ W.cell? ⟨b, o + i * 6 + 5, none⟩ = some (.int .i64 st) ∧ KB w t (some ⟨b, o, none⟩) cap N h l c u m W)) (by kernel_rfl) (by first | exact KB.conj K3.out HE.out | exact KB.conj (K3.out.keep (Below.refl _ _).drew) HE.out) (fun hHeld => ?_)
  refine wpAnyH_take (i := 0) (v := ?_) rfl (by kernel_rfl) (by kernel_rfl) (by kernel_rfl) (fun _ _ _ h => h) (Or.inl ⟨by rfl, ?_⟩) hHeld ?_
  rotate_left
  · (intro wS hSw; (try dsimp only at hSw); (try go_split_ands); go_simp; try with_reducible rfl)
  try simp only [List.getElem_toArray, List.getElem_cons_succ, List.getElem_cons_zero, Act.put, List.setIfInBounds_toArray, List.set_cons_zero, List.set_cons_succ]
  refine wpAnyH_take (i := 1) (v := ?_) rfl (by kernel_rfl) (by kernel_rfl) (by kernel_rfl) (fun _ _ _ h => h) (Or.inl ⟨by rfl, ?_⟩) hHeld ?_
  rotate_left
  · (intro wS hSw; (try dsimp only at hSw); (try go_split_ands); go_simp; try with_reducible rfl)
  try simp only [List.getElem_toArray, List.getElem_cons_succ, List.getElem_cons_zero, Act.put, List.setIfInBounds_toArray, List.set_cons_zero, List.set_cons_succ]
  refine wpAnyH_take (i := 2) (v := ?_) rfl (by kernel_rfl) (by kernel_rfl) (by kernel_rfl) (fun _ _ _ h => h) (Or.inl ⟨by rfl, ?_⟩) hHeld ?_
  rotate_left
  · (intro wS hSw; (try dsimp only at hSw); (try go_split_ands); go_simp; try with_reducible rfl)
  try simp only [List.getElem_toArray, List.getElem_cons_succ, List.getElem_cons_zero, Act.put, List.setIfInBounds_toArray, List.set_cons_zero, List.set_cons_succ]
  refine wpAnyH_take (i := 3) (v := ?_) rfl (by kernel_rfl) (by kernel_rfl) (by kernel_rfl) (fun _ _ _ h => h) (Or.inl ⟨by rfl, ?_⟩) hHeld ?_
  rotate_left
  · (intro wS hSw; (try dsimp only at hSw); (try go_split_ands); go_simp; try with_reducible rfl)
  try simp only [List.getElem_toArray, List.getElem_cons_succ, List.getElem_cons_zero, Act.put, List.setIfInBounds_toArray, List.set_cons_zero, List.set_cons_succ]
  refine wpAnyH_take (i := 4) (v := ?_) rfl (by kernel_rfl) (by kernel_rfl) (by kernel_rfl) (fun _ _ _ h => h) (Or.inl ⟨by rfl, ?_⟩) hHeld ?_
  rotate_left
  · (intro wS hSw; (try dsimp only at hSw); (try go_split_ands); go_simp; try with_reducible rfl)
  try simp only [List.getElem_toArray, List.getElem_cons_succ, List.getElem_cons_zero, Act.put, List.setIfInBounds_toArray, List.set_cons_zero, List.set_cons_succ]
  refine wpAnyH_take (i := 5) (v := ?_) rfl (by kernel_rfl) (by kernel_rfl) (by kernel_rfl) (fun _ _ _ h => h) (Or.inl ⟨by rfl, ?_⟩) hHeld ?_
  rotate_left
  · (intro wS hSw; (try dsimp only at hSw); (try go_split_ands); go_simp; try with_reducible rfl)
  try simp only [List.getElem_toArray, List.getElem_cons_succ, List.getElem_cons_zero, Act.put, List.setIfInBounds_toArray, List.set_cons_zero, List.set_cons_succ]
  refine wpAnyH_take (i := 6) (v := ?_) rfl (by kernel_rfl) (by kernel_rfl) (by kernel_rfl) (fun _ _ _ h => h) (Or.inl ⟨by rfl, ?_⟩) hHeld ?_
  rotate_left
  · (intro wS hSw; (try dsimp only at hSw); (try go_split_ands); go_simp; try with_reducible rfl)
  try simp only [List.getElem_toArray, List.getElem_cons_succ, List.getElem_cons_zero, Act.put, List.setIfInBounds_toArray, List.set_cons_zero, List.set_cons_succ]
  refine wpAnyH_ready (rs := [7]) (by kernel_rfl) (by simp) ?_
  refine AllReadyH.cons rfl (fun K hK => ?_) AllReadyH.nil
  go_simp
  (go_at_call 27; ((with_reducible refine (cd _).mono ?_); rintro e X ⟨rfl, hbX⟩))
  refine hK.out _ _ ?_ (fun hNext => ?_)
  · exact KB.conj (hHeld.2.2.2.2.2.2.2.2.keep hbX) HE.out
  have K4 := Lib.hid (hHeld.2.2.2.2.2.2.2.2.keep hbX)
  clear hbX
  clear hK K hHeld
  have hHeld := hNext
  clear hNext
  try simp only [List.getElem_toArray, List.getElem_cons_succ, List.getElem_cons_zero, Act.put, List.setIfInBounds_toArray, List.set_cons_zero, List.set_cons_succ]
  refine wpAnyH_take (i := 8) (v := ?_) rfl (by kernel_rfl) (by kernel_rfl) (by kernel_rfl) (fun _ _ _ h => h) (Or.inl ⟨by rfl, ?_⟩) hHeld ?_
  rotate_left
  · (intro wS hSw; (try dsimp only at hSw); (try go_split_ands); go_simp; try with_reducible rfl)
  try simp only [List.getElem_toArray, List.getElem_cons_succ, List.getElem_cons_zero, Act.put, List.setIfInBounds_toArray, List.set_cons_zero, List.set_cons_succ]
  refine wpAnyH_done (by kernel_rfl) ?_ _
  clear hHeld
  have k0 := K4.out.g.c0
  have k1 := K4.out.g.c1
  go_wp2_with (first
    | (go_at_call 11; ((with_reducible refine (cs _ K4.out.b).mono ?_); clear cs k0 k1; rintro e W5 ⟨a5, c5, rfl, hn5, hb5⟩; have K5 := Lib.hid ((K4.out.keep hb5).keep (al1 (.cells #[.int .i64 0, .slice a5 Qs.length c5] 24))); have N5 := Lib.hid (hn5.keep (al1 (.cells #[.int .i64 0, .slice a5 Qs.length c5] 24))); clear hn5 hb5; have k0 := K5.out.g.c0; have k1 := K5.out.g.c1))
    | (go_at_call 13; ((with_reducible refine (cj _ K5.out.b).mono ?_); clear cj k0 k1; rintro e W6 ⟨a6, c6, rfl, hn6, hb6⟩; have K6 := Lib.hid ((K5.out.keep hb6).keep (al1 (.cells #[.int .i64 0, .slice a6 Qj.length c6] 24))); have N6 := Lib.hid (hn6.keep (al1 (.cells #[.int .i64 0, .slice a6 Qj.length c6] 24))); clear hn6 hb6; have k0 := K6.out.g.c0; have k1 := K6.out.g.c1))
    | (go_at_call 34; ((with_reducible refine (cp _ K6.out.b).mono ?_); clear cp k0 k1; rintro e W7 ⟨a7, c7, rfl, hn7, hb7⟩; have K7 := Lib.hid ((K6.out.keep hb7).keep (al1 (.cells #[.int .i64 0, .slice a7 (lay N s 0).length c7] 24))); have N7 := Lib.hid (hn7.keep (al1 (.cells #[.int .i64 0, .slice a7 (lay N s 0).length c7] 24))); clear hn7 hb7; have r0 := K7.out.r.c0; have r1 := K7.out.r.c1; have f0 := K7.out.r.fr 0; have f1 := K7.out.r.fr 1))
    | fail)
  exact bodyPost_ret (v := .tuple #[.agg #[.int .i64 0, .slice a7 (lay N s 0).length c7], .int .i64 0]) (by simp [results, Try.results15, go_sem, r0, r1]) rfl ⟨a7, c7, rfl, ns_ret K7.out.r N7.out _ _, ret_below K7.out.b (by omega) _ _⟩
set_option maxRecDepth 100000 in
set_option maxHeartbeats 6400000 in
theorem rb_2ft (t : Int) (a : Option Addr) (cap : Nat) (N : List Nd) (h l c u m h' l' c' u' m' : Int) (s : Sh) (i : Nat) (w : World) (hN : Ns w a cap N) (hsm : Small N) (hle : N.length + 2 ≤ 2000) (hT : ∀ s, Tr N s t → (allP N s.lvs).length ≤ 2100) (hA : LfAt N t (i : Int) s i) (hC : Cl h l c u m h' l' c' u' m') (hv : dc h' l' (nd N i).s = 2) (Qs Qj : List Nd) (hS : SplO N t (i : Int) false Qs) (hJ : JoiO N t (i : Int) true Qj) :
    Calls Try.prog 15 #[trv t a cap N, .agg #[.int .i64 h, .int .i64 l, .int .i64 c, .int .i64 u, .int .i64 m], .int .i64 (i : Int)] w (BnIs w 2 Qj) := by
  have K1 := Lib.hid (KB.new w t a cap N h l c u m)
  have ci := fun W (hb : Below w.heap.size w W) => rlf_any t a cap N (i : Int) W (hN.keep hb) hsm true ⟨fun _ => ⟨s, i, hA⟩, fun _ => rfl⟩
  have hil := hA.1.hg.lt i (lvs_pre s i hA.2.2)
  have hc1 := hN.1
  have hc2 := hN.2.1
  unfold maxLen at hc2
  have hi0 : (0 : Int) ≤ (i : Int) := by omega
  have hi1 : (i : Int) < (N.length : Int) := by omega
  have HN := Lib.hid hN
  obtain ⟨b, o, pa, pc, rfl, hni⟩ := hN.2.2 i _ (nd_get hil)
  have HE := Lib.hid hni.c5
  generalize (nd N i).s = st at HE hv
  have cd := fun W => rdecide_to h l c u m h' l' c' u' m' st hC W
  rw [hv] at cd
  have cs := fun W (hb : Below w.heap.size w W) => rspl_any t (some ⟨b, o, none⟩) cap N (i : Int) W (hN.keep hb) hsm hle false Qs hS
  have cj := fun W (hb : Below w.heap.size w W) => rjl_any t (some ⟨b, o, none⟩) cap N (i : Int) W (hN.keep hb) hsm hT true Qj hJ
  have cp := fun W (hb : Below w.heap.size w W) => rplain_yes t (some ⟨b, o, none⟩) cap N W (hN.keep hb) hsm s hA.1
  unfold trv PlB at cs cj
  unfold PlIs trv at cp
  unfold trv at ci ⊢
  clear hN hsm hA hC hv hni hil hT hle hS hJ
  go_enter Try.func15, Try.ntmps15
  go_upto_region 3 with (go_at_call 32; ((with_reducible refine (ci _ K1.out.b).mono ?_); clear ci; rintro e w3 ⟨rfl, hb3⟩; have K3 := Lib.hid (K1.out.keep hb3); clear hb3))
  refine wp_region_held_drew (S := (fun W => W.cell? ⟨w.heap.size, 0, none⟩ = some (.int .i64 t) ∧ W.cell? ⟨w.heap.size, 1, none⟩ = some (.slice (some ⟨b, o, none⟩) N.length cap) ∧ W.cell? ⟨w.heap.size + 1, 0, none⟩ = some (.int .i64 h) ∧ W.cell? ⟨w.heap.size + 1, 1, none⟩ = some (.int .i64 l) ∧ W.cell? ⟨w.heap.size + 1, 2, none⟩ = some (.int .i64 c) ∧ W.cell? ⟨w.heap.size + 1, 3, none⟩ = some (.int .i64 u) ∧ W.cell? ⟨w.heap.size + 1, 4, none⟩ = some (.int .i64 m) ∧ W.cell? ⟨b, o + i * 6 + 5, none⟩ = some (.int .i64 st) ∧ KB w t (some ⟨b, o, none⟩) cap N h l c u m W)) (by kernel_rfl) (by first | exact KB.conj K3.out HE.out | exact KB.conj (K3.out.keep (Below.refl _ _).drew) HE.out) (fun hHeld => ?_)
  refine wpAnyH_take (i := 0) (v := ?_) rfl (by kernel_rfl) (by kernel_rfl) (by kernel_rfl) (fun _ _ _ h => h) (Or.inl ⟨by rfl, ?_⟩) hHeld ?_
  rotate_left
  · (intro wS hSw; (try dsimp only at hSw); (try go_split_ands); go_simp; try with_reducible rfl)
  try simp only [List.getElem_toArray, List.getElem_cons_succ, List.getElem_cons_zero, Act.put, List.setIfInBounds_toArray, List.set_cons_zero, List.set_cons_succ]
  refine wpAnyH_take (i := 1) (v := ?_) rfl (by kernel_rfl) (by kernel_rfl) (by kernel_rfl) (fun _ _ _ h => h) (Or.inl ⟨by rfl, ?_⟩) hHeld ?_
  rotate_left
  · (intro wS hSw; (try dsimp only at hSw); (try go_split_ands); go_simp; try with_reducible rfl)
  try simp only [List.getElem_toArray, List.getElem_cons_succ, List.getElem_cons_zero, Act.put, List.setIfInBounds_toArray, List.set_cons_zero, List.set_cons_succ]
  refine wpAnyH_take (i := 2) (v := ?_) rfl (by kernel_rfl) (by kernel_rfl) (by kernel_rfl) (fun _ _ _ h => h) (Or.inl ⟨by rfl, ?_⟩) hHeld ?_
  rotate_left
  · (intro wS hSw; (try dsimp only at hSw); (try go_split_ands); go_simp; try with_reducible rfl)
  try simp only [List.getElem_toArray, List.getElem_cons_succ, List.getElem_cons_zero, Act.put, List.setIfInBounds_toArray, List.set_cons_zero, List.set_cons_succ]
  refine wpAnyH_take (i := 3) (v := ?_) rfl (by kernel_rfl) (by kernel_rfl) (by kernel_rfl) (fun _ _ _ h => h) (Or.inl ⟨by rfl, ?_⟩) hHeld ?_
  rotate_left
  · (intro wS hSw; (try dsimp only at hSw); (try go_split_ands); go_simp; try with_reducible rfl)
  try simp only [List.getElem_toArray, List.getElem_cons_succ, List.getElem_cons_zero, Act.put, List.setIfInBounds_toArray, List.set_cons_zero, List.set_cons_succ]
  refine wpAnyH_take (i := 4) (v := ?_) rfl (by kernel_rfl) (by kernel_rfl) (by kernel_rfl) (fun _ _ _ h => h) (Or.inl ⟨by rfl, ?_⟩) hHeld ?_
  rotate_left
  · (intro wS hSw; (try dsimp only at hSw); (try go_split_ands); go_simp; try with_reducible rfl)
  try simp only [List.getElem_toArray, List.getElem_cons_succ, List.getElem_cons_zero, Act.put, List.setIfInBounds_toArray, List.set_cons_zero, List.set_cons_succ]
  refine wpAnyH_take (i := 5) (v := ?_) rfl (by kernel_rfl) (by kernel_rfl) (by kernel_rfl) (fun _ _ _ h => h) (Or.inl ⟨by rfl, ?_⟩) hHeld ?_
  rotate_left
  · (intro wS hSw; (try dsimp only at hSw); (try go_split_ands); go_simp; try with_reducible rfl)
  try simp only [List.getElem_toArray, List.getElem_cons_succ, List.getElem_cons_zero, Act.put, List.setIfInBounds_toArray, List.set_cons_zero, List.set_cons_succ]
  refine wpAnyH_take (i := 6) (v := ?_) rfl (by kernel_rfl) (by kernel_rfl) (by kernel_rfl) (fun _ _ _ h => h) (Or.inl ⟨by rfl, ?_⟩) hHeld ?_
  rotate_left
  · (intro wS hSw; (try dsimp only at hSw); (try go_split_ands); go_simp; try with_reducible rfl)
  try simp only [List.getElem_toArray, List.getElem_cons_succ, List.getElem_cons_zero, Act.put, List.setIfInBounds_toArray, List.set_cons_zero, List.set_cons_succ]
  refine wpAnyH_ready (rs := [7]) (by kernel_rfl) (by simp) ?_
  refine AllReadyH.cons rfl (fun K hK => ?_) AllReadyH.nil
  go_simp
  (go_at_call 27; ((with_reducible refine (cd _).mono ?_); rintro e X ⟨rfl, hbX⟩))
  refine hK.out _ _ ?_ (fun hNext => ?_)
  · exact KB.conj (hHeld.2.2.2.2.2.2.2.2.keep hbX) HE.out
  have K4 := Lib.hid (hHeld.2.2.2.2.2.2.2.2.keep hbX)
  clear hbX
  clear hK K hHeld
  have hHeld := hNext
  clear hNext
  try simp only [List.getElem_toArray, List.getElem_cons_succ, List.getElem_cons_zero, Act.put, List.setIfInBounds_toArray, List.set_cons_zero, List.set_cons_succ]
  refine wpAnyH_take (i := 8) (v := ?_) rfl (by kernel_rfl) (by kernel_rfl) (by kernel_rfl) (fun _ _ _ h => h) (Or.inl ⟨by rfl, ?_⟩) hHeld ?_
  rotate_left
  · (intro wS hSw; (try dsimp only at hSw); (try go_split_ands); go_simp; try with_reducible rfl)
  try simp only [List.getElem_toArray, List.getElem_cons_succ, List.getElem_cons_zero, Act.put, List.setIfInBounds_toArray, List.set_cons_zero, List.set_cons_succ]
  refine wpAnyH_done (by kernel_rfl) ?_ _
  clear hHeld
  have k0 := K4.out.g.c0
  have k1 := K4.out.g.c1
  go_wp2_with (first
    | (go_at_call 11; ((with_reducible refine (cs _ K4.out.b).mono ?_); clear cs k0 k1; rintro e W5 ⟨a5, c5, rfl, hn5, hb5⟩; have K5 := Lib.hid ((K4.out.keep hb5).keep (al1 (.cells #[.int .i64 0, .slice a5 Qs.length c5] 24))); have N5 := Lib.hid (hn5.keep (al1 (.cells #[.int .i64 0, .slice a5 Qs.length c5] 24))); clear hn5 hb5; have k0 := K5.out.g.c0; have k1 := K5.out.g.c1))
    | (go_at_call 13; ((with_reducible refine (cj _ K5.out.b).mono ?_); clear cj k0 k1; rintro e W6 ⟨a6, c6, rfl, hn6, hb6⟩; have K6 := Lib.hid ((K5.out.keep hb6).keep (al1 (.cells #[.int .i64 0, .slice a6 Qj.length c6] 24))); have N6 := Lib.hid (hn6.keep (al1 (.cells #[.int .i64 0, .slice a6 Qj.length c6] 24))); clear hn6 hb6; have r0 := K6.out.r.c0; have r1 := K6.out.r.c1; have f0 := K6.out.r.fr 0; have f1 := K6.out.r.fr 1))
    | fail)
  exact bodyPost_ret (v := .tuple #[.agg #[.int .i64 0, .slice a6 Qj.length c6], .int .i64 2]) (by simp [results, Try.results15, go_sem, r0, r1]) rfl ⟨a6, c6, rfl, ns_ret K6.out.r N6.out _ _, ret_below K6.out.b (by omega) _ _⟩
set_option maxRecDepth 100000 in
set_option maxHeartbeats 6400000 in
theorem rb_2ff (t : Int) (a : Option Addr) (cap : Nat) (N : List Nd) (h l c u m h' l' c' u' m' : Int) (s : Sh) (i : Nat) (w : World) (hN : Ns w a cap N) (hsm : Small N) (hle : N.length + 2 ≤ 2000) (hT : ∀ s, Tr N s t → (allP N s.lvs).length ≤ 2100) (hA : LfAt N t (i : Int) s i) (hC : Cl h l c u m h' l' c' u' m') (hv : dc h' l' (nd N i).s = 2) (Qs Qj : List Nd) (hS : SplO N t (i : Int) false Qs) (hJ : JoiO N t (i : Int) false Qj) :
    Calls Try.prog 15 #[trv t a cap N, .agg #[.int .i64 h, .int .i64 l, .int .i64 c, .int .i64 u, .int .i64 m], .int .i64 (i : Int)] w (BnIs w 0 (lay N s 0)) := by
  have K1 := Lib.hid (KB.new w t a cap N h l c u m)
  have ci := fun W (hb : Below w.heap.size w W) => rlf_any t a cap N (i : Int) W (hN.keep hb) hsm true ⟨fun _ => ⟨s, i, hA⟩, fun _ => rfl⟩
  have hil := hA.1.hg.lt i (lvs_pre s i hA.2.2)
  have hc1 := hN.1
  have hc2 := hN.2.1
  unfold maxLen at hc2
  have hi0 : (0 : Int) ≤ (i : Int) := by omega
  have hi1 : (i : Int) < (N.length : Int) := by omega
  have HN := Lib.hid hN
  obtain ⟨b, o, pa, pc, rfl, hni⟩ := hN.2.2 i _ (nd_get hil)
  have HE := Lib.hid hni.c5
  generalize (nd N i).s = st at HE hv
  have cd := fun W => rdecide_to h l c u m h' l' c' u' m' st hC W
  rw [hv] at cd
  have cs := fun W (hb : Below w.heap.size w W) => rspl_any t (some ⟨b, o, none⟩) cap N (i : Int) W (hN.keep hb) hsm hle false Qs hS
  have cj := fun W (hb : Below w.heap.size w W) => rjl_any t (some ⟨b, o, none⟩) cap N (i : Int) W (hN.keep hb) hsm hT false Qj hJ
  have cp := fun W (hb : Below w.heap.size w W) => rplain_yes t (some ⟨b, o, none⟩) cap N W (hN.keep hb) hsm s hA.1
  unfold trv PlB at cs cj
  unfold PlIs trv at cp
  unfold trv at ci ⊢
  clear hN hsm hA hC hv hni hil hT hle hS hJ
  go_enter Try.func15, Try.ntmps15
  go_upto_region 3 with (go_at_call 32; ((with_reducible refine (ci _ K1.out.b).mono ?_); clear ci; rintro e w3 ⟨rfl, hb3⟩; have K3 := Lib.hid (K1.out.keep hb3); clear hb3))
  refine wp_region_held_drew (S := (fun W => W.cell? ⟨w.heap.size, 0, none⟩ = some (.int .i64 t) ∧ W.cell? ⟨w.heap.size, 1, none⟩ = some (.slice (some ⟨b, o, none⟩) N.length cap) ∧ W.cell? ⟨w.heap.size + 1, 0, none⟩ = some (.int .i64 h) ∧ W.cell? ⟨w.heap.size + 1, 1, none⟩ = some (.int .i64 l) ∧ W.cell? ⟨w.heap.size + 1, 2, none⟩ = some (.int .i64 c) ∧ W.cell? ⟨w.heap.size + 1, 3, none⟩ = some (.int .i64 u) ∧ W.cell? ⟨w.heap.size + 1, 4, none⟩ = some (.int .i64 m) ∧ W.cell? ⟨b, o + i * 6 + 5, none⟩ = some (.int .i64 st) ∧ KB w t (some ⟨b, o, none⟩) cap N h l c u m W)) (by kernel_rfl) (by first | exact KB.conj K3.out HE.out | exact KB.conj (K3.out.keep (Below.refl _ _).drew) HE.out) (fun hHeld => ?_)
  refine wpAnyH_take (i := 0) (v := ?_) rfl (by kernel_rfl) (by kernel_rfl) (by kernel_rfl) (fun _ _ _ h => h) (Or.inl ⟨by rfl, ?_⟩) hHeld ?_
  rotate_left
  · (intro wS hSw; (try dsimp only at hSw); (try go_split_ands); go_simp; try with_reducible rfl)
  try simp only [List.getElem_toArray, List.getElem_cons_succ, List.getElem_cons_zero, Act.put, List.setIfInBounds_toArray, List.set_cons_zero, List.set_cons_succ]
  refine wpAnyH_take (i := 1) (v := ?_) rfl (by kernel_rfl) (by kernel_rfl) (by kernel_rfl) (fun _ _ _ h => h) (Or.inl ⟨by rfl, ?_⟩) hHeld ?_
  rotate_left
  · (intro wS hSw; (try dsimp only at hSw); (try go_split_ands); go_simp; try with_reducible rfl)
  try simp only [List.getElem_toArray, List.getElem_cons_succ, List.getElem_cons_zero, Act.put, List.setIfInBounds_toArray, List.set_cons_zero, List.set_cons_succ]
  refine wpAnyH_take (i := 2) (v := ?_) rfl (by kernel_rfl) (by kernel_rfl) (by kernel_rfl) (fun _ _ _ h => h) (Or.inl ⟨by rfl, ?_⟩) hHeld ?_
  rotate_left
  · (intro wS hSw; (try dsimp only at hSw); (try go_split_ands); go_simp; try with_reducible rfl)
  try simp only [List.getElem_toArray, List.getElem_cons_succ, List.getElem_cons_zero, Act.put, List.setIfInBounds_toArray, List.set_cons_zero, List.set_cons_succ]
  refine wpAnyH_take (i := 3) (v := ?_) rfl (by kernel_rfl) (by kernel_rfl) (by kernel_rfl) (fun _ _ _ h => h) (Or.inl ⟨by rfl, ?_⟩) hHeld ?_
  rotate_left
  · (intro wS hSw; (try dsimp only at hSw); (try go_split_ands); go_simp; try with_reducible rfl)
  try simp only [List.getElem_toArray, List.getElem_cons_succ, List.getElem_cons_zero, Act.put, List.setIfInBounds_toArray, List.set_cons_zero, List.set_cons_succ]
  refine wpAnyH_take (i := 4) (v := ?_) rfl (by kernel_rfl) (by kernel_rfl) (by kernel_rfl) (fun _ _ _ h => h) (Or.inl ⟨by rfl, ?_⟩) hHeld ?_
  rotate_left
  · (intro wS hSw; (try dsimp only at hSw); (try go_split_ands); go_simp; try with_reducible rfl)
  try simp only [List.getElem_toArray, List.getElem_cons_succ, List.getElem_cons_zero, Act.put, List.setIfInBounds_toArray, List.set_cons_zero, List.set_cons_succ]
  refine wpAnyH_take (i := 5) (v := ?_) rfl (by kernel_rfl) (by kernel_rfl) (by kernel_rfl) (fun _ _ _ h => h) (Or.inl ⟨by rfl, ?_⟩) hHeld ?_
  rotate_left
  · (intro wS hSw; (try dsimp only at hSw); (try go_split_ands); go_simp; try with_reducible rfl)
  try simp only [List.getElem_toArray, List.getElem_cons_succ, List.getElem_cons_zero, Act.put, List.setIfInBounds_toArray, List.set_cons_zero, List.set_cons_succ]
  refine wpAnyH_take (i := 6) (v := ?_) rfl (by kernel_rfl) (by kernel_rfl) (by kernel_rfl) (fun _ _ _ h => h) (Or.inl ⟨by rfl, ?_⟩) hHeld ?_
  rotate_left
  · (intro wS hSw; (try dsimp only at hSw); (try go_split_ands); go_simp; try with_reducible rfl)
  try simp only [List.getElem_toArray, List.getElem_cons_succ, List.getElem_cons_zero, Act.put, List.setIfInBounds_toArray, List.set_cons_zero, List.set_cons_succ]
  refine wpAnyH_ready (rs := [7]) (by kernel_rfl) (by simp) ?_
  refine AllReadyH.cons rfl (fun K hK => ?_) AllReadyH.nil
  go_simp
  (go_at_call 27; ((with_reducible refine (cd _).mono ?_); rintro e X ⟨rfl, hbX⟩))
  refine hK.out _ _ ?_ (fun hNext => ?_)
  · exact KB.conj (hHeld.2.2.2.2.2.2.2.2.keep hbX) HE.out
  have K4 := Lib.hid (hHeld.2.2.2.2.2.2.2.2.keep hbX)
  clear hbX
  clear hK K hHeld
  have hHeld := hNext
  clear hNext
  try simp only [List.getElem_toArray, List.getElem_cons_succ, List.getElem_cons_zero, Act.put, List.setIfInBounds_toArray, List.set_cons_zero, List.set_cons_succ]
  refine wpAnyH_take (i := 8) (v := ?_) rfl (by kernel_rfl) (by kernel_rfl) (by kernel_rfl) (fun _ _ _ h => h) (Or.inl ⟨by rfl, ?_⟩) hHeld ?_
  rotate_left
  · (intro wS hSw; (try dsimp only at hSw); (try go_split_ands); go_simp; try with_reducible rfl)
  try simp only [List.getElem_toArray, List.getElem_cons_succ, List.getElem_cons_zero, Act.put, List.setIfInBounds_toArray, List.set_cons_zero, List.set_cons_succ]
  refine wpAnyH_done (by kernel_rfl) ?_ _
  clear hHeld
  have k0 := K4.out.g.c0
  have k1 := K4.out.g.c1
  go_wp2_with (first
    | (go_at_call 11; ((with_reducible refine (cs _ K4.out.b).mono ?_); clear cs k0 k1; rintro e W5 ⟨a5, c5, rfl, hn5, hb5⟩; have K5 := Lib.hid ((K4.out.keep hb5).keep (al1 (.cells #[.int .i64 0, .slice a5 Qs.length c5] 24))); have N5 := Lib.hid (hn5.keep (al1 (.cells #[.int .i64 0, .slice a5 Qs.length c5] 24))); clear hn5 hb5; have k0 := K5.out.g.c0; have k1 := K5.out.g.c1))
    | (go_at_call 13; ((with_reducible refine (cj _ K5.out.b).mono ?_); clear cj k0 k1; rintro e W6 ⟨a6, c6, rfl, hn6, hb6⟩; have K6 := Lib.hid ((K5.out.keep hb6).keep (al1 (.cells #[.int .i64 0, .slice a6 Qj.length c6] 24))); have N6 := Lib.hid (hn6.keep (al1 (.cells #[.int .i64 0, .slice a6 Qj.length c6] 24))); clear hn6 hb6; have k0 := K6.out.g.c0; have k1 := K6.out.g.c1))
    | (go_at_call 34; ((with_reducible refine (cp _ K6.out.b).mono ?_); clear cp k0 k1; rintro e W7 ⟨a7, c7, rfl, hn7, hb7⟩; have K7 := Lib.hid ((K6.out.keep hb7).keep (al1 (.cells #[.int .i64 0, .slice a7 (lay N s 0).length c7] 24))); have N7 := Lib.hid (hn7.keep (al1 (.cells #[.int .i64 0, .slice a7 (lay N s 0).length c7] 24))); clear hn7 hb7; have r0 := K7.out.r.c0; have r1 := K7.out.r.c1; have f0 := K7.out.r.fr 0; have f1 := K7.out.r.fr 1))
    | fail)
  exact bodyPost_ret (v := .tuple #[.agg #[.int .i64 0, .slice a7 (lay N s 0).length c7], .int .i64 0]) (by simp [results, Try.results15, go_sem, r0, r1]) rfl ⟨a7, c7, rfl, ns_ret K7.out.r N7.out _ _, ret_below K7.out.b (by omega) _ _⟩
set_option maxRecDepth 100000 in
set_option maxHeartbeats 6400000 in
theorem rb_0tt (t : Int) (a : Option Addr) (cap : Nat) (N : List Nd) (h l c u m h' l' c' u' m' : Int) (s : Sh) (i : Nat) (w : World) (hN : Ns w a cap N) (hsm : Small N) (hle : N.length + 2 ≤ 2000) (hT : ∀ s, Tr N s t → (allP N s.lvs).length ≤ 2100) (hA : LfAt N t (i : Int) s i) (hC : Cl h l c u m h' l' c' u' m') (hv : dc h' l' (nd N i).s = 0) (Qs Qj : List Nd) (hS : SplO N t (i : Int) true Qs) (hJ : JoiO N t (i : Int) true Qj) :
    Calls Try.prog 15 #[trv t a cap N, .agg #[.int .i64 h, .int .i64 l, .int .i64 c, .int .i64 u, .int .i64 m], .int .i64 (i : Int)] w (BnIs w 0 (lay N s 0)) := by
  have K1 := Lib.hid (KB.new w t a cap N h l c u m)
  have ci := fun W (hb : Below w.heap.size w W) => rlf_any t a cap N (i : Int) W (hN.keep hb) hsm true ⟨fun _ => ⟨s, i, hA⟩, fun _ => rfl⟩
  have hil := hA.1.hg.lt i (lvs_pre s i hA.2.2)
  have hc1 := hN.1
  have hc2 := hN.2.1
  unfold maxLen at hc2
  have hi0 : (0 : Int) ≤ (i : Int) := by omega
  have hi1 : (i : Int) < (N.length : Int) := by omega
  have HN := Lib.hid hN
  obtain ⟨b, o, pa, pc, rfl, hni⟩ := hN.2.2 i _ (nd_get hil)
  have HE := Lib.hid hni.c5
  generalize (nd N i).s = st at HE hv
  have cd := fun W => rdecide_to h l c u m h' l' c' u' m' st hC W
  rw [hv] at cd
  have cs := fun W (hb : Below w.heap.size w W) => rspl_any t (some ⟨b, o, none⟩) cap N (i : Int) W (hN.keep hb) hsm hle true Qs hS
  have cj := fun W (hb : Below w.heap.size w W) => rjl_any t (some ⟨b, o, none⟩) cap N (i : Int) W (hN.keep hb) hsm hT true Qj hJ
  have cp := fun W (hb : Below w.heap.size w W) => rplain_yes t (some ⟨b, o, none⟩) cap N W (hN.keep hb) hsm s hA.1
  unfold trv PlB at cs cj
  unfold PlIs trv at cp
  unfold trv at ci ⊢
  clear hN hsm hA hC hv hni hil hT hle hS hJ
  go_enter Try.func15, Try.ntmps15
  go_upto_region 3 with (go_at_call 32; ((with_reducible refine (ci _ K1.out.b).mono ?_); clear ci; rintro e w3 ⟨rfl, hb3⟩; have K3 := Lib.hid (K1.out.keep hb3); clear hb3))
  refine wp_region_held_drew (S := (fun W => W.cell? ⟨w.heap.size, 0, none⟩ = some (.int .i64 t) ∧ W.cell? ⟨w.heap.size, 1, none⟩ = some (.slice (some ⟨b, o, none⟩) N.length cap) ∧ W.cell? ⟨w.heap.size + 1, 0, none⟩ = some (.int .i64 h) ∧ W.cell? ⟨w.heap.size + 1, 1, none⟩ = some (.int .i64 l) ∧ W.cell? ⟨w.heap.size + 1, 2, none⟩ = some (.int .i64 c) ∧ W.cell? ⟨w.heap.size + 1, 3, none⟩ = some (.int .i64 u) ∧ W.cell? ⟨w.heap.size + 1, 4, none⟩ = some (.int .i64 m) ∧ W.cell? ⟨b, o + i * 6 + 5, none⟩ = some (.int .i64 st) ∧ KB w t (some ⟨b, o, none⟩) cap N h l c u m W)) (by kernel_rfl) (by first | exact KB.conj K3.out HE.out | exact KB.conj (K3.out.keep (Below.refl _ _).drew) HE.out) (fun hHeld => ?_)
  refine wpAnyH_take (i := 0) (v := ?_) rfl (by kernel_rfl) (by kernel_rfl) (by kernel_rfl) (fun _ _ _ h => h) (Or.inl ⟨by rfl, ?_⟩) hHeld ?_
  rotate_left
  · (intro wS hSw; (try dsimp only at hSw); (try go_split_ands); go_simp; try with_reducible rfl)
  try simp only [List.getElem_toArray, List.getElem_cons_succ, List.getElem_cons_zero, Act.put, List.setIfInBounds_toArray, List.set_cons_zero, List.set_cons_succ]
  refine wpAnyH_take (i := 1) (v := ?_) rfl (by kernel_rfl) (by kernel_rfl) (by kernel_rfl) (fun _ _ _ h => h) (Or.inl ⟨by rfl, ?_⟩) hHeld ?_
  rotate_left
  · (intro wS hSw; (try dsimp only at hSw); (try go_split_ands); go_simp; try with_reducible rfl)
  try simp only [List.getElem_toArray, List.getElem_cons_succ, List.getElem_cons_zero, Act.put, List.setIfInBounds_toArray, List.set_cons_zero, List.set_cons_succ]
  refine wpAnyH_take (i := 2) (v := ?_) rfl (by kernel_rfl) (by kernel_rfl) (by kernel_rfl) (fun _ _ _ h => h) (Or.inl ⟨by rfl, ?_⟩) hHeld ?_
  rotate_left
  · (intro wS hSw; (try dsimp only at hSw); (try go_split_ands); go_simp; try with_reducible rfl)
  try simp only [List.getElem_toArray, List.getElem_cons_succ, List.getElem_cons_zero, Act.put, List.setIfInBounds_toArray, List.set_cons_zero, List.set_cons_succ]
  refine wpAnyH_take (i := 3) (v := ?_) rfl (by kernel_rfl) (by kernel_rfl) (by kernel_rfl) (fun _ _ _ h => h) (Or.inl ⟨by rfl, ?_⟩) hHeld ?_
  rotate_left
  · (intro wS hSw; (try dsimp only at hSw); (try go_split_ands); go_simp; try with_reducible rfl)
  try simp only [List.getElem_toArray, List.getElem_cons_succ, List.getElem_cons_zero, Act.put, List.setIfInBounds_toArray, List.set_cons_zero, List.set_cons_succ]
  refine wpAnyH_take (i := 4) (v := ?_) rfl (by kernel_rfl) (by kernel_rfl) (by kernel_rfl) (fun _ _ _ h => h) (Or.inl ⟨by rfl, ?_⟩) hHeld ?_
  rotate_left
  · (intro wS hSw; (try dsimp only at hSw); (try go_split_ands); go_simp; try with_reducible rfl)
  try simp only [List.getElem_toArray, List.getElem_cons_succ, List.getElem_cons_zero, Act.put, List.setIfInBounds_toArray, List.set_cons_zero, List.set_cons_succ]
  refine wpAnyH_take (i := 5) (v := ?_) rfl (by kernel_rfl) (by kernel_rfl) (by kernel_rfl) (fun _ _ _ h => h) (Or.inl ⟨by rfl, ?_⟩) hHeld ?_
  rotate_left
  · (intro wS hSw; (try dsimp only at hSw); (try go_split_ands); go_simp; try with_reducible rfl)
  try simp only [List.getElem_toArray, List.getElem_cons_succ, List.getElem_cons_zero, Act.put, List.setIfInBounds_toArray, List.set_cons_zero, List.set_cons_succ]
  refine wpAnyH_take (i := 6) (v := ?_) rfl (by kernel_rfl) (by kernel_rfl) (by kernel_rfl) (fun _ _ _ h => h) (Or.inl ⟨by rfl, ?_⟩) hHeld ?_
  rotate_left
  · (intro wS hSw; (try dsimp only at hSw); (try go_split_ands); go_simp; try with_reducible rfl)
  try simp only [List.getElem_toArray, List.getElem_cons_succ, List.getElem_cons_zero, Act.put, List.setIfInBounds_toArray, List.set_cons_zero, List.set_cons_succ]
  refine wpAnyH_ready (rs := [7]) (by kernel_rfl) (by simp) ?_
  refine AllReadyH.cons rfl (fun K hK => ?_) AllReadyH.nil
  go_simp
  (go_at_call 27; ((with_reducible refine (cd _).mono ?_); rintro e X ⟨rfl, hbX⟩))
  refine hK.out _ _ ?_ (fun hNext => ?_)
  · exact KB.conj (hHeld.2.2.2.2.2.2.2.2.keep hbX) HE.out
  have K4 := Lib.hid (hHeld.2.2.2.2.2.2.2.2.keep hbX)
  clear hbX
  clear hK K hHeld
  have hHeld := hNext
  clear hNext
  try simp only [List.getElem_toArray, List.getElem_cons_succ, List.getElem_cons_zero, Act.put, List.setIfInBounds_toArray, List.set_cons_zero, List.set_cons_succ]
  refine wpAnyH_take (i := 8) (v := ?_) rfl (by kernel_rfl) (by kernel_rfl) (by kernel_rfl) (fun _ _ _ h => h) (Or.inl ⟨by rfl, ?_⟩) hHeld ?_
  rotate_left
  · (intro wS hSw; (try dsimp only at hSw); (try go_split_ands); go_simp; try with_reducible rfl)
  try simp only [List.getElem_toArray, List.getElem_cons_succ, List.getElem_cons_zero, Act.put, List.setIfInBounds_toArray, List.set_cons_zero, List.set_cons_succ]
  refine wpAnyH_done (by kernel_rfl) ?_ _
  clear hHeld
  have k0 := K4.out.g.c0
  have k1 := K4.out.g.c1
  go_wp2_with (first
    | (go_at_call 11; ((with_reducible refine (cs _ K4.out.b).mono ?_); clear cs k0 k1; rintro e W5 ⟨a5, c5, rfl, hn5, hb5⟩; have K5 := Lib.hid ((K4.out.keep hb5).keep (al1 (.cells #[.int .i64 0, .slice a5 Qs.length c5] 24))); have N5 := Lib.hid (hn5.keep (al1 (.cells #[.int .i64 0, .slice a5 Qs.length c5] 24))); clear hn5 hb5; have k0 := K5.out.g.c0; have k1 := K5.out.g.c1))
    | (go_at_call 13; ((with_reducible refine (cj _ K5.out.b).mono ?_); clear cj k0 k1; rintro e W6 ⟨a6, c6, rfl, hn6, hb6⟩; have K6 := Lib.hid ((K5.out.keep hb6).keep (al1 (.cells #[.int .i64 0, .slice a6 Qj.length c6] 24))); have N6 := Lib.hid (hn6.keep (al1 (.cells #[.int .i64 0, .slice a6 Qj.length c6] 24))); clear hn6 hb6; have k0 := K6.out.g.c0; have k1 := K6.out.g.c1))
    | (go_at_call 34; ((with_reducible refine (cp _ K6.out.b).mono ?_); clear cp k0 k1; rintro e W7 ⟨a7, c7, rfl, hn7, hb7⟩; have K7 := Lib.hid ((K6.out.keep hb7).keep (al1 (.cells #[.int .i64 0, .slice a7 (lay N s 0).length c7] 24))); have N7 := Lib.hid (hn7.keep (al1 (.cells #[.int .i64 0, .slice a7 (lay N s 0).length c7] 24))); clear hn7 hb7; have r0 := K7.out.r.c0; have r1 := K7.out.r.c1; have f0 := K7.out.r.fr 0; have f1 := K7.out.r.fr 1))
    | fail)
  exact bodyPost_ret (v := .tuple #[.agg #[.int .i64 0, .slice a7 (lay N s 0).length c7], .int .i64 0]) (by simp [results, Try.results15, go_sem, r0, r1]) rfl ⟨a7, c7, rfl, ns_ret K7.out.r N7.out _ _, ret_below K7.out.b (by omega) _ _⟩
set_option maxRecDepth 100000 in
set_option maxHeartbeats 6400000 in
theorem rb_0tf (t : Int) (a : Option Addr) (cap : Nat) (N : List Nd) (h l c u m h' l' c' u' m' : Int) (s : Sh) (i : Nat) (w : World) (hN : Ns w a cap N) (hsm : Small N) (hle : N.length + 2 ≤ 2000) (hT : ∀ s, Tr N s t → (allP N s.lvs).length ≤ 2100) (hA : LfAt N t (i : Int) s i) (hC : Cl h l c u m h' l' c' u' m') (hv : dc h' l' (nd N i).s = 0) (Qs Qj : List Nd) (hS : SplO N t (i : Int) true Qs) (hJ : JoiO N t (i : Int) false Qj) :
    Calls Try.prog 15 #[trv t a cap N, .agg #[.int .i64 h, .int .i64 l, .int .i64 c, .int .i64 u, .int .i64 m], .int .i64 (i : Int)] w (BnIs w 0 (lay N s 0)) := by
  have K1 := Lib.hid (KB.new w t a cap N h l c u m)
  have ci := fun W (hb : Below w.heap.size w W) => rlf_any t a cap N (i : Int) W (hN.keep hb) hsm true ⟨fun _ => ⟨s, i, hA⟩, fun _ => rfl⟩
  have hil := hA.1.hg.lt i (lvs_pre s i hA.2.2)
  have hc1 := hN.1
  have hc2 := hN.2.1
  unfold maxLen at hc2
  have hi0 : (0 : Int) ≤ (i : Int) := by omega
  have hi1 : (i : Int) < (N.length : Int) := by omega
  have HN := Lib.hid hN
  obtain ⟨b, o, pa, pc, rfl, hni⟩ := hN.2.2 i _ (nd_get hil)
  have HE := Lib.hid hni.c5
  generalize (nd N i).s = st at HE hv
  have cd := fun W => rdecide_to h l c u m h' l' c' u' m' st hC W
  rw [hv] at cd
  have cs := fun W (hb : Below w.heap.size w W) => rspl_any t (some ⟨b, o, none⟩) cap N (i : Int) W (hN.keep hb) hsm hle true Qs hS
  have cj := fun W (hb : Below w.heap.size w W) => rjl_any t (some ⟨b, o, none⟩) cap N (i : Int) W (hN.keep hb) hsm hT false Qj hJ
  have cp := fun W (hb : Below w.heap.size w W) => rplain_yes t (some ⟨b, o, none⟩) cap N W (hN.keep hb) hsm s hA.1
  unfold trv PlB at cs cj
  unfold PlIs trv at cp
  unfold trv at ci ⊢
  clear hN hsm hA hC hv hni hil hT hle hS hJ
  go_enter Try.func15, Try.ntmps15
  go_upto_region 3 with (go_at_call 32; ((with_reducible refine (ci _ K1.out.b).mono ?_); clear ci; rintro e w3 ⟨rfl, hb3⟩; have K3 := Lib.hid (K1.out.keep hb3); clear hb3))
  refine wp_region_held_drew (S := (fun W => W.cell? ⟨w.heap.size, 0, none⟩ = some (.int .i64 t) ∧ W.cell? ⟨w.heap.size, 1, none⟩ = some (.slice (some ⟨b, o, none⟩) N.length cap) ∧ W.cell? ⟨w.heap.size + 1, 0, none⟩ = some (.int .i64 h) ∧ W.cell? ⟨w.heap.size + 1, 1, none⟩ = some (.int .i64 l) ∧ W.cell? ⟨w.heap.size + 1, 2, none⟩ = some (.int .i64 c) ∧ W.cell? ⟨w.heap.size + 1, 3, none⟩ = some (.int .i64 u) ∧ W.cell? ⟨w.heap.size + 1, 4, none⟩ = some (.int .i64 m) ∧ W.cell? ⟨b, o + i * 6 + 5, none⟩ = some (.int .i64 st) ∧ KB w t (some ⟨b, o, none⟩) cap N h l c u m W)) (by kernel_rfl) (by first | exact KB.conj K3.out HE.out | exact KB.conj (K3.out.keep (Below.refl _ _).drew) HE.out) (fun hHeld => ?_)
  refine wpAnyH_take (i := 0) (v := ?_) rfl (by kernel_rfl) (by kernel_rfl) (by kernel_rfl) (fun _ _ _ h => h) (Or.inl ⟨by rfl, ?_⟩) hHeld ?_
  rotate_left
  · (intro wS hSw; (try dsimp only at hSw); (try go_split_ands); go_simp; try with_reducible rfl)
  try simp only [List.getElem_toArray, List.getElem_cons_succ, List.getElem_cons_zero, Act.put, List.setIfInBounds_toArray, List.set_cons_zero, List.set_cons_succ]
  refine wpAnyH_take (i := 1) (v := ?_) rfl (by kernel_rfl) (by kernel_rfl) (by kernel_rfl) (fun _ _ _ h => h) (Or.inl ⟨by rfl, ?_⟩) hHeld ?_
  rotate_left
  · (intro wS hSw; (try dsimp only at hSw); (try go_split_ands); go_simp; try with_reducible rfl)
  try simp only [List.getElem_toArray, List.getElem_cons_succ, List.getElem_cons_zero, Act.put, List.setIfInBounds_toArray, List.set_cons_zero, List.set_cons_succ]
  refine wpAnyH_take (i := 2) (v := ?_) rfl (by kernel_rfl) (by kernel_rfl) (by kernel_rfl) (fun _ _ _ h => h) (Or.inl ⟨by rfl, ?_⟩) hHeld ?_
  rotate_left
  · (intro wS hSw; (try dsimp only at hSw); (try go_split_ands); go_simp; try with_reducible rfl)
  try simp only [List.getElem_toArray, List.getElem_cons_succ, List.getElem_cons_zero, Act.put, List.setIfInBounds_toArray, List.set_cons_zero, List.set_cons_succ]
  refine wpAnyH_take (i := 3) (v := ?_) rfl (by kernel_rfl) (by kernel_rfl) (by kernel_rfl) (fun _ _ _ h => h) (Or.inl ⟨by rfl, ?_⟩) hHeld ?_
  rotate_left
  · (intro wS hSw; (try dsimp only at hSw); (try go_split_ands); go_simp; try with_reducible rfl)
  try simp only [List.getElem_toArray, List.getElem_cons_succ, List.getElem_cons_zero, Act.put, List.setIfInBounds_toArray, List.set_cons_zero, List.set_cons_succ]
  refine wpAnyH_take (i := 4) (v := ?_) rfl (by kernel_rfl) (by kernel_rfl) (by kernel_rfl) (fun _ _ _ h => h) (Or.inl ⟨by rfl, ?_⟩) hHeld ?_
  rotate_left
  · (intro wS hSw; (try dsimp only at hSw); (try go_split_ands); go_simp; try with_reducible rfl)
  try simp only [List.getElem_toArray, List.getElem_cons_succ, List.getElem_cons_zero, Act.put, List.setIfInBounds_toArray, List.set_cons_zero, List.set_cons_succ]
  refine wpAnyH_take (i := 5) (v := ?_) rfl (by kernel_rfl) (by kernel_rfl) (by kernel_rfl) (fun _ _ _ h => h) (Or.inl ⟨by rfl, ?_⟩) hHeld ?_
  rotate_left
  · (intro wS hSw; (try dsimp only at hSw); (try go_split_ands); go_simp; try with_reducible rfl)
  try simp only [List.getElem_toArray, List.getElem_cons_succ, List.getElem_cons_zero, Act.put, List.setIfInBounds_toArray, List.set_cons_zero, List.set_cons_succ]
  refine wpAnyH_take (i := 6) (v := ?_) rfl (by kernel_rfl) (by kernel_rfl) (by kernel_rfl) (fun _ _ _ h => h) (Or.inl ⟨by rfl, ?_⟩) hHeld ?_
  rotate_left
  · (intro wS hSw; (try dsimp only at hSw); (try go_split_ands); go_simp; try with_reducible rfl)
  try simp only [List.getElem_toArray, List.getElem_cons_succ, List.getElem_cons_zero, Act.put, List.setIfInBounds_toArray, List.set_cons_zero, List.set_cons_succ]
  refine wpAnyH_ready (rs := [7]) (by kernel_rfl) (by simp) ?_
  refine AllReadyH.cons rfl (fun K hK => ?_) AllReadyH.nil
  go_simp
  (go_at_call 27; ((with_reducible refine (cd _).mono ?_); rintro e X ⟨rfl, hbX⟩))
  refine hK.out _ _ ?_ (fun hNext => ?_)
  · exact KB.conj (hHeld.2.2.2.2.2.2.2.2.keep hbX) HE.out
  have K4 := Lib.hid (hHeld.2.2.2.2.2.2.2.2.keep hbX)
  clear hbX
  clear hK K hHeld
  have hHeld := hNext
  clear hNext
  try simp only [List.getElem_toArray, List.getElem_cons_succ, List.getElem_cons_zero, Act.put, List.setIfInBounds_toArray, List.set_cons_zero, List.set_cons_succ]
  refine wpAnyH_take (i := 8) (v := ?_) rfl (by kernel_rfl) (by kernel_rfl) (by kernel_rfl) (fun _ _ _ h => h) (Or.inl ⟨by rfl, ?_⟩) hHeld ?_
  rotate_left
  · (intro wS hSw; (try dsimp only at hSw); (try go_split_ands); go_simp; try with_reducible rfl)
  try simp only [List.getElem_toArray, List.getElem_cons_succ, List.getElem_cons_zero, Act.put, List.setIfInBounds_toArray, List.set_cons_zero, List.set_cons_succ]
  refine wpAnyH_done (by kernel_rfl) ?_ _
  clear hHeld
  have k0 := K4.out.g.c0
  have k1 := K4.out.g.c1
  go_wp2_with (first
    | (go_at_call 11; ((with_reducible refine (cs _ K4.out.b).mono ?_); clear cs k0 k1; rintro e W5 ⟨a5, c5, rfl, hn5, hb5⟩; have K5 := Lib.hid ((K4.out.keep hb5).keep (al1 (.cells #[.int .i64 0, .slice a5 Qs.length c5] 24))); have N5 := Lib.hid (hn5.keep (al1 (.cells #[.int .i64 0, .slice a5 Qs.length c5] 24))); clear hn5 hb5; have k0 := K5.out.g.c0; have k1 := K5.out.g.c1))
    | (go_at_call 13; ((with_reducible refine (cj _ K5.out.b).mono ?_); clear cj k0 k1; rintro e W6 ⟨a6, c6, rfl, hn6, hb6⟩; have K6 := Lib.hid ((K5.out.keep hb6).keep (al1 (.cells #[.int .i64 0, .slice a6 Qj.length c6] 24))); have N6 := Lib.hid (hn6.keep (al1 (.cells #[.int .i64 0, .slice a6 Qj.length c6] 24))); clear hn6 hb6; have k0 := K6.out.g.c0; have k1 := K6.out.g.c1))
    | (go_at_call 34; ((with_reducible refine (cp _ K6.out.b).mono ?_); clear cp k0 k1; rintro e W7 ⟨a7, c7, rfl, hn7, hb7⟩; have K7 := Lib.hid ((K6.out.keep hb7).keep (al1 (.cells #[.int .i64 0, .slice a7 (lay N s 0).length c7] 24))); have N7 := Lib.hid (hn7.keep (al1 (.cells #[.int .i64 0, .slice a7 (lay N s 0).length c7] 24))); clear hn7 hb7; have r0 := K7.out.r.c0; have r1 := K7.out.r.c1; have f0 := K7.out.r.fr 0; have f1 := K7.out.r.fr 1))
    | fail)
  exact bodyPost_ret (v := .tuple #[.agg #[.int .i64 0, .slice a7 (lay N s 0).length c7], .int .i64 0]) (by simp [results, Try.results15, go_sem, r0, r1]) rfl ⟨a7, c7, rfl, ns_ret K7.out.r N7.out _ _, ret_below K7.out.b (by omega) _ _⟩
set_option maxRecDepth 100000 in
set_option maxHeartbeats 6400000 in
theorem rb_0ft (t : Int) (a : Option Addr) (cap : Nat) (N : List Nd) (h l c u m h' l' c' u' m' : Int) (s : Sh) (i : Nat) (w : World) (hN : Ns w a cap N) (hsm : Small N) (hle : N.length + 2 ≤ 2000) (hT : ∀ s, Tr N s t → (allP N s.lvs).length ≤ 2100) (hA : LfAt N t (i : Int) s i) (hC : Cl h l c u m h' l' c' u' m') (hv : dc h' l' (nd N i).s = 0) (Qs Qj : List Nd) (hS : SplO N t (i : Int) false Qs) (hJ : JoiO N t (i : Int) true Qj) :
    Calls Try.prog 15 #[trv t a cap N, .agg #[.int .i64 h, .int .i64 l, .int .i64 c, .int .i64 u, .int .i64 m], .int .i64 (i : Int)] w (BnIs w 0 (lay N s 0)) := by
  have K1 := Lib.hid (KB.new w t a cap N h l c u m)
  have ci := fun W (hb : Below w.heap.size w W) => rlf_any t a cap N (i : Int) W (hN.keep hb) hsm true ⟨fun _ => ⟨s, i, hA⟩, fun _ => rfl⟩
  have hil := hA.1.hg.lt i (lvs_pre s i hA.2.2)
  have hc1 := hN.1
  have hc2 := hN.2.1
  unfold maxLen at hc2
  have hi0 : (0 : Int) ≤ (i : Int) := by omega
  have hi1 : (i : Int) < (N.length : Int) := by omega
  have HN := Lib.hid hN
  obtain ⟨b, o, pa, pc, rfl, hni⟩ := hN.2.2 i _ (nd_get hil)
  have HE := Lib.hid hni.c5
  generalize (nd N i).s = st at HE hv
  have cd := fun W => rdecide_to h l c u m h' l' c' u' m' st hC W
  rw [hv] at cd
  have cs := fun W (hb : Below w.heap.size w W) => rspl_any t (some ⟨b, o, none⟩) cap N (i : Int) W (hN.keep hb) hsm hle false Qs hS
  have cj := fun W (hb : Below w.heap.size w W) => rjl_any t (some ⟨b, o, none⟩) cap N (i : Int) W (hN.keep hb) hsm hT true Qj hJ
  have cp := fun W (hb : Below w.heap.size w W) => rplain_yes t (some ⟨b, o, none⟩) cap N W (hN.keep hb) hsm s hA.1
  unfold trv PlB at cs cj
  unfold PlIs trv at cp
  unfold trv at ci ⊢
  clear hN hsm hA hC hv hni hil hT hle hS hJ
  go_enter Try.func15, Try.ntmps15
  go_upto_region 3 with (go_at_call 32; ((with_reducible refine (ci _ K1.out.b).mono ?_); clear ci; rintro e w3 ⟨rfl, hb3⟩; have K3 := Lib.hid (K1.out.keep hb3); clear hb3))
  refine wp_region_held_drew (S := (fun W => W.cell? ⟨w.heap.size, 0, none⟩ = some (.int .i64 t) ∧ W.cell? ⟨w.heap.size, 1, none⟩ = some (.slice (some ⟨b, o, none⟩) N.length cap) ∧ W.cell? ⟨w.heap.size + 1, 0, none⟩ = some (.int .i64 h) ∧ W.cell? ⟨w.heap.size + 1, 1, none⟩ = some (.int .i64 l) ∧ W.cell? ⟨w.heap.size + 1, 2, none⟩ = some (.int .i64 c) ∧ W.cell? ⟨w.heap.size + 1, 3, none⟩ = some (.int .i64 u) ∧ W.cell? ⟨w.heap.size + 1, 4, none⟩ = some (.int .i64 m) ∧ W.cell? ⟨b, o + i * 6 + 5, none⟩ = some (.int .i64 st) ∧ KB w t (some ⟨b, o, none⟩) cap N h l c u m W)) (by kernel_rfl) (by first | exact KB.conj K3.out HE.out | exact KB.conj (K3.out.keep (Below.refl _ _).drew) HE.out) (fun hHeld => ?_)
  refine wpAnyH_take (i := 0) (v := ?_) rfl (by kernel_rfl) (by kernel_rfl) (by kernel_rfl) (fun _ _ _ h => h) (Or.inl ⟨by rfl, ?_⟩) hHeld ?_
  rotate_left
  · (intro wS hSw; (try dsimp only at hSw); (try go_split_ands); go_simp; try with_reducible rfl)
  try simp only [List.getElem_toArray, List.getElem_cons_succ, List.getElem_cons_zero, Act.put, List.setIfInBounds_toArray, List.set_cons_zero, List.set_cons_succ]
  refine wpAnyH_take (i := 1) (v := ?_) rfl (by kernel_rfl) (by kernel_rfl) (by kernel_rfl) (fun _ _ _ h => h) (Or.inl ⟨by rfl, ?_⟩) hHeld ?_
  rotate_left
  · (intro wS hSw; (try dsimp only at hSw); (try go_split_ands); go_simp; try with_reducible rfl)
  try simp only [List.getElem_toArray, List.getElem_cons_succ, List.getElem_cons_zero, Act.put, List.setIfInBounds_toArray, List.set_cons_zero, List.set_cons_succ]
  refine wpAnyH_take (i := 2) (v := ?_) rfl (by kernel_rfl) (by kernel_rfl) (by kernel_rfl) (fun _ _ _ h => h) (Or.inl ⟨by rfl, ?_⟩) hHeld ?_
  rotate_left
  · (intro wS hSw; (try dsimp only at hSw); (try go_split_ands); go_simp; try with_reducible rfl)
  try simp only [List.getElem_toArray, List.getElem_cons_succ, List.getElem_cons_zero, Act.put, List.setIfInBounds_toArray, List.set_cons_zero, List.set_cons_succ]
  refine wpAnyH_take (i := 3) (v := ?_) rfl (by kernel_rfl) (by kernel_rfl) (by kernel_rfl) (fun _ _ _ h => h) (Or.inl ⟨by rfl, ?_⟩) hHeld ?_
  rotate_left
  · (intro wS hSw; (try dsimp only at hSw); (try go_split_ands); go_simp; try with_reducible rfl)
  try simp only [List.getElem_toArray, List.getElem_cons_succ, List.getElem_cons_zero, Act.put, List.setIfInBounds_toArray, List.set_cons_zero, List.set_cons_succ]
  refine wpAnyH_take (i := 4) (v := ?_) rfl (by kernel_rfl) (by kernel_rfl) (by kernel_rfl) (fun _ _ _ h => h) (Or.inl ⟨by rfl, ?_⟩) hHeld ?_
  rotate_left
  · (intro wS hSw; (try dsimp only at hSw); (try go_split_ands); go_simp; try with_reducible rfl)
  try simp only [List.getElem_toArray, List.getElem_cons_succ, List.getElem_cons_zero, Act.put, List.setIfInBounds_toArray, List.set_cons_zero, List.set_cons_succ]
  refine wpAnyH_take (i := 5) (v := ?_) rfl (by kernel_rfl) (by kernel_rfl) (by kernel_rfl) (fun _ _ _ h => h) (Or.inl ⟨by rfl, ?_⟩) hHeld ?_
  rotate_left
  · (intro wS hSw; (try dsimp only at hSw); (try go_split_ands); go_simp; try with_reducible rfl)
  try simp only [List.getElem_toArray, List.getElem_cons_succ, List.getElem_cons_zero, Act.put, List.setIfInBounds_toArray, List.set_cons_zero, List.set_cons_succ]
  refine wpAnyH_take (i := 6) (v := ?_) rfl (by kernel_rfl) (by kernel_rfl) (by kernel_rfl) (fun _ _ _ h => h) (Or.inl ⟨by rfl, ?_⟩) hHeld ?_
  rotate_left
  · (intro wS hSw; (try dsimp only at hSw); (try go_split_ands); go_simp; try with_reducible rfl)
  try simp only [List.getElem_toArray, List.getElem_cons_succ, List.getElem_cons_zero, Act.put, List.setIfInBounds_toArray, List.set_cons_zero, List.set_cons_succ]
  refine wpAnyH_ready (rs := [7]) (by kernel_rfl) (by simp) ?_
  refine AllReadyH.cons rfl (fun K hK => ?_) AllReadyH.nil
  go_simp
  (go_at_call 27; ((with_reducible refine (cd _).mono ?_); rintro e X ⟨rfl, hbX⟩))
  refine hK.out _ _ ?_ (fun hNext => ?_)
  · exact KB.conj (hHeld.2.2.2.2.2.2.2.2.keep hbX) HE.out
  have K4 := Lib.hid (hHeld.2.2.2.2.2.2.2.2.keep hbX)
  clear hbX
  clear hK K hHeld
  have hHeld := hNext
  clear hNext
  try simp only [List.getElem_toArray, List.getElem_cons_succ, List.getElem_cons_zero, Act.put, List.setIfInBounds_toArray, List.set_cons_zero, List.set_cons_succ]
  refine wpAnyH_take (i := 8) (v := ?_) rfl (by kernel_rfl) (by kernel_rfl) (by kernel_rfl) (fun _ _ _ h => h) (Or.inl ⟨by rfl, ?_⟩) hHeld ?_
  rotate_left
  · (intro wS hSw; (try dsimp only at hSw); (try go_split_ands); go_simp; try with_reducible rfl)
  try simp only [List.getElem_toArray, List.getElem_cons_succ, List.getElem_cons_zero, Act.put, List.setIfInBounds_toArray, List.set_cons_zero, List.set_cons_succ]
  refine wpAnyH_done (by kernel_rfl) ?_ _
  clear hHeld
  have k0 := K4.out.g.c0
  have k1 := K4.out.g.c1
  go_wp2_with (first
    | (go_at_call 11; ((with_reducible refine (cs _ K4.out.b).mono ?_); clear cs k0 k1; rintro e W5 ⟨a5, c5, rfl, hn5, hb5⟩; have K5 := Lib.hid ((K4.out.keep hb5).keep (al1 (.cells #[.int .i64 0, .slice a5 Qs.length c5] 24))); have N5 := Lib.hid (hn5.keep (al1 (.cells #[.int .i64 0, .slice a5 Qs.length c5] 24))); clear hn5 hb5; have k0 := K5.out.g.c0; have k1 := K5.out.g.c1))
    | (go_at_call 13; ((with_reducible refine (cj _ K5.out.b).mono ?_); clear cj k0 k1; rintro e W6 ⟨a6, c6, rfl, hn6, hb6⟩; have K6 := Lib.hid ((K5.out.keep hb6).keep (al1 (.cells #[.int .i64 0, .slice a6 Qj.length c6] 24))); have N6 := Lib.hid (hn6.keep (al1 (.cells #[.int .i64 0, .slice a6 Qj.length c6] 24))); clear hn6 hb6; have k0 := K6.out.g.c0; have k1 := K6.out.g.c1))
    | (go_at_call 34; ((with_reducible refine (cp _ K6.out.b).mono ?_); clear cp k0 k1; rintro e W7 ⟨a7, c7, rfl, hn7, hb7⟩; have K7 := Lib.hid ((K6.out.keep hb7).keep (al1 (.cells #[.int .i64 0, .slice a7 (lay N s 0).length c7] 24))); have N7 := Lib.hid (hn7.keep (al1 (.cells #[.int .i64 0, .slice a7 (lay N s 0).length c7] 24))); clear hn7 hb7; have r0 := K7.out.r.c0; have r1 := K7.out.r.c1; have f0 := K7.out.r.fr 0; have f1 := K7.out.r.fr 1))
    | fail)
  exact bodyPost_ret (v := .tuple #[.agg #[.int .i64 0, .slice a7 (lay N s 0).length c7], .int .i64 0]) (by simp [results, Try.results15, go_sem, r0, r1]) rfl ⟨a7, c7, rfl, ns_ret K7.out.r N7.out _ _, ret_below K7.out.b (by omega) _ _⟩
set_option maxRecDepth 100000 in
set_option maxHeartbeats 6400000 in
theorem rb_0ff (t : Int) (a : Option Addr) (cap : Nat) (N : List Nd) (h l c u m h' l' c' u' m' : Int) (s : Sh) (i : Nat) (w : World) (hN : Ns w a cap N) (hsm : Small N) (hle : N.length + 2 ≤ 2000) (hT : ∀ s, Tr N s t → (allP N s.lvs).length ≤ 2100) (hA : LfAt N t (i : Int) s i) (hC : Cl h l c u m h' l' c' u' m') (hv : dc h' l' (nd N i).s = 0) (Qs Qj : List Nd) (hS : SplO N t (i : Int) false Qs) (hJ : JoiO N t (i : Int) false Qj) :
    Calls Try.prog 15 #[trv t a cap N, .agg #[.int .i64 h, .int .i64 l, .int .i64 c, .int .i64 u, .int .i64 m], .int .i64 (i : Int)] w (BnIs w 0 (lay N s 0)) := by
  have K1 := Lib.hid (KB.new w t a cap N h l c u m)
  have ci := fun W (hb : Below w.heap.size w W) => rlf_any t a cap N (i : Int) W (hN.keep hb) hsm true ⟨fun _ => ⟨s, i, hA⟩, fun _ => rfl⟩
  have hil := hA.1.hg.lt i (lvs_pre s i hA.2.2)
  have hc1 := hN.1
  have hc2 := hN.2.1
  unfold maxLen at hc2
  have hi0 : (0 : Int) ≤ (i : Int) := by omega
  have hi1 : (i : Int) < (N.length : Int) := by omega
  have HN := Lib.hid hN
  obtain ⟨b, o, pa, pc, rfl, hni⟩ := hN.2.2 i _ (nd_get hil)
  have HE := Lib.hid hni.c5
  generalize (nd N i).s = st at HE hv
  have cd := fun W => rdecide_to h l c u m h' l' c' u' m' st hC W
  rw [hv] at cd
  have cs := fun W (hb : Below w.heap.size w W) => rspl_any t (some ⟨b, o, none⟩) cap N (i : Int) W (hN.keep hb) hsm hle false Qs hS
  have cj := fun W (hb : Below w.heap.size w W) => rjl_any t (some ⟨b, o, none⟩) cap N (i : Int) W (hN.keep hb) hsm hT false Qj hJ
  have cp := fun W (hb : Below w.heap.size w W) => rplain_yes t (some ⟨b, o, none⟩) cap N W (hN.keep hb) hsm s hA.1
  unfold trv PlB at cs cj
  unfold PlIs trv at cp
  unfold trv at ci ⊢
  clear hN hsm hA hC hv hni hil hT hle hS hJ
  go_enter Try.func15, Try.ntmps15
  go_upto_region 3 with (go_at_call 32; ((with_reducible refine (ci _ K1.out.b).mono ?_); clear ci; rintro e w3 ⟨rfl, hb3⟩; have K3 := Lib.hid (K1.out.keep hb3); clear hb3))
  refine wp_region_held_drew (S := (fun W => W.cell? ⟨w.heap.size, 0, none⟩ = some (.int .i64 t) ∧ W.cell? ⟨w.heap.size, 1, none⟩ = some (.slice (some ⟨b, o, none⟩) N.length cap) ∧ W.cell? ⟨w.heap.size + 1, 0, none⟩ = some (.int .i64 h) ∧ W.cell? ⟨w.heap.size + 1, 1, none⟩ = some (.int .i64 l) ∧ W.cell? ⟨w.heap.size + 1, 2, none⟩ = some (.int .i64 c) ∧ W.cell? ⟨w.heap.size + 1, 3, none⟩ = some (.int .i64 u) ∧ W.cell? ⟨w.heap.size + 1, 4, none⟩ = some (.int .i64 m) ∧ W.cell? ⟨b, o + i * 6 + 5, none⟩ = some (.int .i64 st) ∧ KB w t (some ⟨b, o, none⟩) cap N h l c u m W)) (by kernel_rfl) (by first | exact KB.conj K3.out HE.out | exact KB.conj (K3.out.keep (Below.refl _ _).drew) HE.out) (fun hHeld => ?_)
  refine wpAnyH_take (i := 0) (v := ?_) rfl (by kernel_rfl) (by kernel_rfl) (by kernel_rfl) (fun _ _ _ h => h) (Or.inl ⟨by rfl, ?_⟩) hHeld ?_
  rotate_left
  · (intro wS hSw; (try dsimp only at hSw); (try go_split_ands); go_simp; try with_reducible rfl)
  try simp only [List.getElem_toArray, List.getElem_cons_succ, List.getElem_cons_zero, Act.put, List.setIfInBounds_toArray, List.set_cons_zero, List.set_cons_succ]
  refine wpAnyH_take (i := 1) (v := ?_) rfl (by kernel_rfl) (by kernel_rfl) (by kernel_rfl) (fun _ _ _ h => h) (Or.inl ⟨by rfl, ?_⟩) hHeld ?_
  rotate_left
  · (intro wS hSw; (try dsimp only at hSw); (try go_split_ands); go_simp; try with_reducible rfl)
  try simp only [List.getElem_toArray, List.getElem_cons_succ, List.getElem_cons_zero, Act.put, List.setIfInBounds_toArray, List.set_cons_zero, List.set_cons_succ]
  refine wpAnyH_take (i := 2) (v := ?_) rfl (by kernel_rfl) (by kernel_rfl) (by kernel_rfl) (fun _ _ _ h => h) (Or.inl ⟨by rfl, ?_⟩) hHeld ?_
  rotate_left
  · (intro wS hSw; (try dsimp only at hSw); (try go_split_ands); go_simp; try with_reducible rfl)
  try simp only [List.getElem_toArray, List.getElem_cons_succ, List.getElem_cons_zero, Act.put, List.setIfInBounds_toArray, List.set_cons_zero, List.set_cons_succ]
  refine wpAnyH_take (i := 3) (v := ?_) rfl (by kernel_rfl) (by kernel_rfl) (by kernel_rfl) (fun _ _ _ h => h) (Or.inl ⟨by rfl, ?_⟩) hHeld ?_
  rotate_left
  · (intro wS hSw; (try dsimp only at hSw); (try go_split_ands); go_simp; try with_reducible rfl)
  try simp only [List.getElem_toArray, List.getElem_cons_succ, List.getElem_cons_zero, Act.put, List.setIfInBounds_toArray, List.set_cons_zero, List.set_cons_succ]
  refine wpAnyH_take (i := 4) (v := ?_) rfl (by kernel_rfl) (by kernel_rfl) (by kernel_rfl) (fun _ _ _ h => h) (Or.inl ⟨by rfl, ?_⟩) hHeld ?_
  rotate_left
  · (intro wS hSw; (try dsimp only at hSw); (try go_split_ands); go_simp; try with_reducible rfl)
  try simp only [List.getElem_toArray, List.getElem_cons_succ, List.getElem_cons_zero, Act.put, List.setIfInBounds_toArray, List.set_cons_zero, List.set_cons_succ]
  refine wpAnyH_take (i := 5) (v := ?_) rfl (by kernel_rfl) (by kernel_rfl) (by kernel_rfl) (fun _ _ _ h => h) (Or.inl ⟨by rfl, ?_⟩) hHeld ?_
  rotate_left
  · (intro wS hSw; (try dsimp only at hSw); (try go_split_ands); go_simp; try with_reducible rfl)
  try simp only [List.getElem_toArray, List.getElem_cons_succ, List.getElem_cons_zero, Act.put, List.setIfInBounds_toArray, List.set_cons_zero, List.set_cons_succ]
  refine wpAnyH_take (i := 6) (v := ?_) rfl (by kernel_rfl) (by kernel_rfl) (by kernel_rfl) (fun _ _ _ h => h) (Or.inl ⟨by rfl, ?_⟩) hHeld ?_
  rotate_left
  · (intro wS hSw; (try dsimp only at hSw); (try go_split_ands); go_simp; try with_reducible rfl)
  try simp only [List.getElem_toArray, List.getElem_cons_succ, List.getElem_cons_zero, Act.put, List.setIfInBounds_toArray, List.set_cons_zero, List.set_cons_succ]
  refine wpAnyH_ready (rs := [7]) (by kernel_rfl) (by simp) ?_
  refine AllReadyH.cons rfl (fun K hK => ?_) AllReadyH.nil
  go_simp
  (go_at_call 27; ((with_reducible refine (cd _).mono ?_); rintro e X ⟨rfl, hbX⟩))
  refine hK.out _ _ ?_ (fun hNext => ?_)
  · exact KB.conj (hHeld.2.2.2.2.2.2.2.2.keep hbX) HE.out
  have K4 := Lib.hid (hHeld.2.2.2.2.2.2.2.2.keep hbX)
  clear hbX
  clear hK K hHeld
  have hHeld := hNext
  clear hNext
  try simp only [List.getElem_toArray, List.getElem_cons_succ, List.getElem_cons_zero, Act.put, List.setIfInBounds_toArray, List.set_cons_zero, List.set_cons_succ]
  refine wpAnyH_take (i := 8) (v := ?_) rfl (by kernel_rfl) (by kernel_rfl) (by kernel_rfl) (fun _ _ _ h => h) (Or.inl ⟨by rfl, ?_⟩) hHeld ?_
  rotate_left
  · (intro wS hSw; (try dsimp only at hSw); (try go_split_ands); go_simp; try with_reducible rfl)
  try simp only [List.getElem_toArray, List.getElem_cons_succ, List.getElem_cons_zero, Act.put, List.setIfInBounds_toArray, List.set_cons_zero, List.set_cons_succ]
  refine wpAnyH_done (by kernel_rfl) ?_ _
  clear hHeld
  have k0 := K4.out.g.c0
  have k1 := K4.out.g.c1
  go_wp2_with (first
    | (go_at_call 11; ((with_reducible refine (cs _ K4.out.b).mono ?_); clear cs k0 k1; rintro e W5 ⟨a5, c5, rfl, hn5, hb5⟩; have K5 := Lib.hid ((K4.out.keep hb5).keep (al1 (.cells #[.int .i64 0, .slice a5 Qs.length c5] 24))); have N5 := Lib.hid (hn5.keep (al1 (.cells #[.int .i64 0, .slice a5 Qs.length c5] 24))); clear hn5 hb5; have k0 := K5.out.g.c0; have k1 := K5.out.g.c1))
    | (go_at_call 13; ((with_reducible refine (cj _ K5.out.b).mono ?_); clear cj k0 k1; rintro e W6 ⟨a6, c6, rfl, hn6, hb6⟩; have K6 := Lib.hid ((K5.out.keep hb6).keep (al1 (.cells #[.int .i64 0, .slice a6 Qj.length c6] 24))); have N6 := Lib.hid (hn6.keep (al1 (.cells #[.int .i64 0, .slice a6 Qj.length c6] 24))); clear hn6 hb6; have k0 := K6.out.g.c0; have k1 := K6.out.g.c1))
    | (go_at_call 34; ((with_reducible refine (cp _ K6.out.b).mono ?_); clear cp k0 k1; rintro e W7 ⟨a7, c7, rfl, hn7, hb7⟩; have K7 := Lib.hid ((K6.out.keep hb7).keep (al1 (.cells #[.int .i64 0, .slice a7 (lay N s 0).length c7] 24))); have N7 := Lib.hid (hn7.keep (al1 (.cells #[.int .i64 0, .slice a7 (lay N s 0).length c7] 24))); clear hn7 hb7; have r0 := K7.out.r.c0; have r1 := K7.out.r.c1; have f0 := K7.out.r.fr 0; have f1 := K7.out.r.fr 1))
    | fail)
  exact bodyPost_ret (v := .tuple #[.agg #[.int .i64 0, .slice a7 (lay N s 0).length c7], .int .i64 0]) (by simp [results, Try.results15, go_sem, r0, r1]) rfl ⟨a7, c7, rfl, ns_ret K7.out.r N7.out _ _, ret_below K7.out.b (by omega) _ _⟩
/-- osierref1.Bend. -/
theorem rbend_any (t : Int) (a : Option Addr) (cap : Nat) (N : List Nd) (h l c u m h' l' c' u' m' y : Int) (w : World) (hN : Ns w a cap N) (hsm : Small N) (hle : N.length + 2 ≤ 2000) (hT : ∀ s, Tr N s t → (allP N s.lvs).length ≤ 2100) (hC : Cl h l c u m h' l' c' u' m') (d : Int) (Q : List Nd) (hB : BndO N t y (dc h' l') d Q) :
    Calls Try.prog 15 #[trv t a cap N, .agg #[.int .i64 h, .int .i64 l, .int .i64 c, .int .i64 u, .int .i64 m], .int .i64 y] w (BnIs w d Q) := by
  rcases hB with ⟨s, i, hA, hh⟩ | ⟨hno, rfl, rfl⟩
  · obtain rfl := hA.2.1
    obtain ⟨xs, Qs, hS⟩ := splO_ex N t (i : Int)
    obtain ⟨xj, Qj, hJ⟩ := joiO_ex N t (i : Int)
    rcases hh with ⟨e, hO, rfl⟩ | ⟨e, hO, rfl⟩ | ⟨rfl, rfl, ⟨e, hO⟩ | ⟨e, hO⟩ | e⟩
    · cases xj
      · exact rb_1tf t a cap N h l c u m h' l' c' u' m' s i w hN hsm hle hT hA hC e Q Qj hO hJ
      · exact rb_1tt t a cap N h l c u m h' l' c' u' m' s i w hN hsm hle hT hA hC e Q Qj hO hJ
    · cases xs
      · exact rb_2ft t a cap N h l c u m h' l' c' u' m' s i w hN hsm hle hT hA hC e Qs Q hS hO
      · exact rb_2tt t a cap N h l c u m h' l' c' u' m' s i w hN hsm hle hT hA hC e Qs Q hS hO
    · cases xj
      · exact rb_1ff t a cap N h l c u m h' l' c' u' m' s i w hN hsm hle hT hA hC e [] Qj hO hJ
      · exact rb_1ft t a cap N h l c u m h' l' c' u' m' s i w hN hsm hle hT hA hC e [] Qj hO hJ
    · cases xs
      · exact rb_2ff t a cap N h l c u m h' l' c' u' m' s i w hN hsm hle hT hA hC e Qs [] hS hO
      · exact rb_2tf t a cap N h l c u m h' l' c' u' m' s i w hN hsm hle hT hA hC e Qs [] hS hO
    · cases xs <;> cases xj
      · exact rb_0ff t a cap N h l c u m h' l' c' u' m' s i w hN hsm hle hT hA hC e Qs Qj hS hJ
      · exact rb_0ft t a cap N h l c u m h' l' c' u' m' s i w hN hsm hle hT hA hC e Qs Qj hS hJ
      · exact rb_0tf t a cap N h l c u m h' l' c' u' m' s i w hN hsm hle hT hA hC e Qs Qj hS hJ
      · exact rb_0tt t a cap N h l c u m h' l' c' u' m' s i w hN hsm hle hT hA hC e Qs Qj hS hJ
  · exact rbend_no t a cap N h l c u m y w hN hsm hno
#print axioms rbend_any
end Go.Proofs.Yteebceecohhegaa
