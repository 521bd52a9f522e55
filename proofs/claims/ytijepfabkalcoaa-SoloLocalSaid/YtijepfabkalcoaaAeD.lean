/- adapt.Split exactly, of trees with room for two nodes more. No condition: lemmas. -/
import Derived.Test.YtijepfabkalcoaaAeA
import Derived.Test.YtijepfabkalcoaaAeC
import Derived.Test.YtijepfabkalcoaaTsA
import Derived.Test.YtijepfabkalcoaaTsI
namespace Go.Proofs.Ytijepfabkalcoaa
open Go.RowKit
set_option linter.all false

/-- A tree's nodes and two more. -/
theorem ncat2 {W : World} {a : Option Addr} {cap : Nat} {N : List Nd} (hN : Ns W a cap N) (hp : 0 < N.length) (hl : N.length ≤ 10000) (g g2 : Nat) (m1 m2 : RN) (h1 : Prs W m1.a m1.c m1.n.p) (h2 : Prs W m2.a m2.c m2.n.p)
    (hB : Bk W g2 (cellsN [m1, m2])) (d0 : W.cell? ⟨g, 0, none⟩ = some (.slice a N.length cap)) (d1 : W.cell? ⟨g, 1, none⟩ = some (.slice (some ⟨g2, 0, none⟩) 2 2)) :
    Calls Try.prog 124 #[.slice (some ⟨g, 0, none⟩) 2 2] W (fun e w' => ∃ ao cp M, e = .returned (.slice ao (N.length + 2) cp) ∧ M.map (fun m => m.n) = N ++ [m1.n, m2.n] ∧ NdR W w' (.slice ao (N.length + 2) cp) M) := by
  obtain ⟨ms, hms, hS⟩ := ns_src hN hp
  have hlen : ms.length = N.length := by rw [← hms, List.length_map]
  have c := nconcat_any g [⟨a, cap, ms⟩, ⟨some ⟨g2, 0, none⟩, 2, [m1, m2]⟩] W (fun j r hr => by
    match j, hr with
    | 0, hr => simp at hr; subst hr; exact ⟨by rw [hlen]; exact d0, hS⟩
    | 1, hr =>
      simp at hr
      subst hr
      refine ⟨d1, .inr ⟨_, _, rfl, fun j u hj => by rw [add_lit, Nat.zero_add]; exact hB.at_ j u hj⟩, fun m hm => ?_⟩
      simp at hm
      rcases hm with rfl | rfl
      · exact h1
      · exact h2) (by simp [sumN]; omega) (by simp) 2 (by simp) (by omega)
  refine c.mono (fun e w' h => ?_)
  obtain ⟨ao, cp, rfl, hR⟩ := h
  have e1 : sumN [⟨a, cap, ms⟩, ⟨some ⟨g2, 0, none⟩, 2, [m1, m2]⟩] = N.length + 2 := by simp [sumN, hlen]
  have e2 : catN [⟨a, cap, ms⟩, ⟨some ⟨g2, 0, none⟩, 2, [m1, m2]⟩] = ms ++ [m1, m2] := by simp [catN]
  rw [e1, e2] at hR
  rw [e1]
  exact ⟨ao, cp, _, rfl, by rw [List.map_append, hms]; rfl, hR⟩

set_option maxRecDepth 100000 in
set_option maxHeartbeats 6400000 in
theorem split_no (t : Int) (a : Option Addr) (cap : Nat) (N : List Nd) (y : Int) (w : World) (hN : Ns w a cap N) (hsm : Small N) (h : ¬ ∃ s i, LfAt N t y s i) :
    Calls Try.prog 112 #[trv t a cap N, .int .i64 y] w fun e w' => e = .returned (.tuple #[.agg #[.int .i64 0, .slice none 0 0], .bool false]) ∧ Below w.heap.size w w' := by
  have b1 : Below w.heap.size w ((w.alloc (.cells #[.int .i64 t, .slice a N.length cap] 24)).alloc (.cells #[.int .i64 0, .slice none 0 0] 24)) := bel1 (al1 _) _
  have ci := ailf_any t a cap N y _ (hN.keep b1) hsm false ⟨fun e => (by cases e), fun e => absurd e h⟩
  have R0 := Lib.hid (show Bk ((w.alloc (.cells #[.int .i64 t, .slice a N.length cap] 24)).alloc (.cells #[.int .i64 0, .slice none 0 0] 24)) (w.heap.size + 1) [.int .i64 0, .slice none 0 0] from by
    have h := Bk.new (w.alloc (.cells #[.int .i64 t, .slice a N.length cap] 24)) #[.int .i64 0, .slice none 0 0] 24
    simp only [World.size_alloc] at h; exact h)
  have HB := Lib.hid b1
  unfold trv at ci ⊢
  clear b1 hN h hsm
  go_enter Try.func112, Try.ntmps112
  go_wp2_with (go_at_call 110; ((with_reducible refine ci.mono ?_); clear ci; rintro e w3 ⟨rfl, hb3⟩; have R1 := Lib.hid (R0.out.keep hb3); have HB3 := Lib.hid (bel2 HB.out hb3); clear hb3; have r0 := R1.out.at_ 0 _ rfl; have r1 := R1.out.at_ 1 _ rfl; have f0 := R1.out.fr 0; have f1 := R1.out.fr 1))
  refine bodyPost_ret (v := .tuple #[.agg #[.int .i64 0, .slice none 0 0], .bool false]) (by simp [results, Try.results112, go_sem, r0, r1]) rfl ⟨rfl, ?_⟩
  repeat' (first | refine Below.setCell ?_ (by dsimp only; omega) _ | exact HB3.out)

set_option maxRecDepth 100000 in
set_option maxHeartbeats 6400000 in
theorem split_few (t : Int) (a : Option Addr) (cap : Nat) (N : List Nd) (s : Sh) (i : Nat) (w : World) (hN : Ns w a cap N) (hsm : Small N) (h : LfAt N t (i : Int) s i) (h2 : ¬ 2 ≤ (nd N i).p.length) :
    Calls Try.prog 112 #[trv t a cap N, .int .i64 (i : Int)] w fun e w' => e = .returned (.tuple #[.agg #[.int .i64 0, .slice none 0 0], .bool false]) ∧ Below w.heap.size w w' := by
  have b1 : Below w.heap.size w ((w.alloc (.cells #[.int .i64 t, .slice a N.length cap] 24)).alloc (.cells #[.int .i64 0, .slice none 0 0] 24)) := bel1 (al1 _) _
  have ci := ailf_any t a cap N (i : Int) _ (hN.keep b1) hsm true ⟨fun _ => ⟨s, i, h⟩, fun _ => rfl⟩
  have B0 := Lib.hid (show Bk ((w.alloc (.cells #[.int .i64 t, .slice a N.length cap] 24)).alloc (.cells #[.int .i64 0, .slice none 0 0] 24)) w.heap.size [.int .i64 t, .slice a N.length cap] from (Bk.new w #[.int .i64 t, .slice a N.length cap] 24).past _)
  have R0 := Lib.hid (show Bk ((w.alloc (.cells #[.int .i64 t, .slice a N.length cap] 24)).alloc (.cells #[.int .i64 0, .slice none 0 0] 24)) (w.heap.size + 1) [.int .i64 0, .slice none 0 0] from by
    have h := Bk.new (w.alloc (.cells #[.int .i64 t, .slice a N.length cap] 24)) #[.int .i64 0, .slice none 0 0] 24
    simp only [World.size_alloc] at h; exact h)
  have HB := Lib.hid b1
  have hil := h.1.hg.lt i (lvs_pre s i h.2.2)
  have hc1 := hN.1
  have hc2 := hN.2.1
  unfold maxLen at hc2
  have hi0 : (0 : Int) ≤ (i : Int) := by omega
  have hi1 : (i : Int) < (N.length : Int) := by omega
  have HN := Lib.hid hN
  obtain ⟨b, o, pa, pc, rfl, hxi⟩ := hN.2.2 i _ (nd_get hil)
  have HE := Lib.hid hxi.c4
  generalize (nd N i).p = p at *
  have hlt : (p.length : Int) < 2 := by omega
  unfold trv at ci ⊢
  clear b1 hN h hsm hxi h2
  go_enter Try.func112, Try.ntmps112
  go_wp2_with (go_at_call 110; ((with_reducible refine ci.mono ?_); clear ci; rintro e w3 ⟨rfl, hb3⟩; have R1 := Lib.hid (R0.out.keep hb3); have B1 := Lib.hid (B0.out.keep hb3); have HB3 := Lib.hid (bel2 HB.out hb3); clear hb3; have k0 := B1.out.at_ 0 _ rfl; have k1 := B1.out.at_ 1 _ rfl; have e4 := kc HB3.out HE.out; have r0 := R1.out.at_ 0 _ rfl; have r1 := R1.out.at_ 1 _ rfl; have f0 := R1.out.fr 0; have f1 := R1.out.fr 1))
  refine bodyPost_ret (v := .tuple #[.agg #[.int .i64 0, .slice none 0 0], .bool false]) (by simp [results, Try.results112, go_sem, r0, r1]) rfl ⟨rfl, ?_⟩
  repeat' (first | refine Below.setCell ?_ (by dsimp only; omega) _ | exact HB3.out)
/-- What is kept to the end. -/
structure KS (w : World) (t : Int) (a : Option Addr) (cap : Nat) (N : List Nd) (W : World) : Prop where
  g : Bk W w.heap.size [.int .i64 t, .slice a N.length cap]
  r : Rq W (w.heap.size + 1)
  b : Below w.heap.size w W
theorem KS.keep {w : World} {t : Int} {a : Option Addr} {cap : Nat} {N : List Nd} {W W' : World} (h : KS w t a cap N W) (hb : Below W.heap.size W W') : KS w t a cap N W' := ⟨h.g.keep hb, h.r.keep hb, bel2 h.b hb⟩
theorem KS.conj {w : World} {t : Int} {a : Option Addr} {cap : Nat} {N : List Nd} {W : World} (h : KS w t a cap N W) :
    W.cell? ⟨w.heap.size, 0, none⟩ = some (.int .i64 t) ∧ W.cell? ⟨w.heap.size, 1, none⟩ = some (.slice a N.length cap) ∧ KS w t a cap N W := ⟨h.g.at_ 0 _ rfl, h.g.at_ 1 _ rfl, h⟩

set_option maxRecDepth 100000 in
set_option maxHeartbeats 6400000 in
theorem split_own0 (t : Int) (a : Option Addr) (cap : Nat) (N : List Nd) (s : Sh) (i : Nat) (w : World) (hN : Ns w a cap N) (hsm : Small N) (h : LfAt N t (i : Int) s i) (h2 : 2 ≤ (nd N i).p.length) (hle : N.length + 2 ≤ 2000) :
    Calls Try.prog 112 #[trv t a cap N, .int .i64 (i : Int)] w (PlW w ((splA N i s).lay 0)) := by
  have b1 : Below w.heap.size w ((w.alloc (.cells #[.int .i64 t, .slice a N.length cap] 24)).alloc (.cells #[.int .i64 0, .slice none 0 0] 24)) := bel1 (al1 _) _
  have ci := ailf_any t a cap N (i : Int) _ (hN.keep b1) hsm true ⟨fun _ => ⟨s, i, h⟩, fun _ => rfl⟩
  have B0 := Lib.hid (show Bk ((w.alloc (.cells #[.int .i64 t, .slice a N.length cap] 24)).alloc (.cells #[.int .i64 0, .slice none 0 0] 24)) w.heap.size [.int .i64 t, .slice a N.length cap] from (Bk.new w #[.int .i64 t, .slice a N.length cap] 24).past _)
  have R0 := Lib.hid (show Rq ((w.alloc (.cells #[.int .i64 t, .slice a N.length cap] 24)).alloc (.cells #[.int .i64 0, .slice none 0 0] 24)) (w.heap.size + 1) from by
    have h := Rq.new (w.alloc (.cells #[.int .i64 t, .slice a N.length cap] 24))
    simp only [World.size_alloc] at h; exact h)
  have HB := Lib.hid b1
  have hil := h.1.hg.lt i (lvs_pre s i h.2.2)
  have hc1 := hN.1
  have hc2 := hN.2.1
  unfold maxLen at hc2
  have hi0 : (0 : Int) ≤ (i : Int) := by omega
  have hi1 : (i : Int) < (N.length : Int) := by omega
  have HN := Lib.hid hN
  obtain ⟨b, o, pa, pc, rfl, hxi⟩ := hN.2.2 i _ (nd_get hil)
  have HE := Lib.hid hxi.c4
  have HP := Lib.hid hxi.ps
  have hpl := hsm.at (nd_get hil)
  have hT := spl_tr h.1 h.2.2 h2 hle
  unfold splN at hT
  generalize (nd N i).p = p at *
  obtain ⟨q, hq⟩ : ∃ q, p[p.length / 2]? = some q := ⟨_, List.getElem?_eq_getElem (by omega)⟩
  obtain ⟨pb, po, rfl, q0, q1⟩ := HP.out.2.2.1 _ q hq
  have hlt : ¬ (p.length : Int) < 2 := by omega
  have hpc1 := HP.out.1
  have hpc2 := HP.out.2.1
  unfold maxLen at hpc2
  have hdiv : ((p.length : Nat) : Int).tdiv 2 = ((p.length / 2 : Nat) : Int) := by rw [Int.tdiv_eq_ediv_of_nonneg (by omega)]; rfl
  obtain ⟨m, hm⟩ : ∃ m, p.length / 2 = m := ⟨_, rfl⟩
  rw [hm] at hdiv hq q0 q1
  have HM := Lib.hid hm
  have hm1 : m < p.length := by omega
  have hm2 : ¬ pc = m := by omega
  have hm3 : m ≤ pc := by omega
  have hm4 : m ≤ p.length := by omega
  have hm5 : (m : Int) ≤ (pc : Int) := by omega
  have hm6 : (m : Int) ≤ (p.length : Int) := by omega
  have hm7 : (0 : Int) ≤ (m : Int) := by omega
  unfold trv at ci ⊢
  rw [hm] at hT
  have HT := Lib.hid hT
  have HPL := Lib.hid hpl
  have HS := Lib.hid hsm
  clear b1 hN h hsm hxi h2 hT hm hpl
  go_enter Try.func112, Try.ntmps112
  go_upto_region 6 with (go_at_call 110; ((with_reducible refine ci.mono ?_); clear ci; rintro e w3 ⟨rfl, hb3⟩; have R1 := Lib.hid (R0.out.keep hb3); have B1 := Lib.hid (B0.out.keep hb3); have HB3 := Lib.hid (bel2 HB.out hb3); clear hb3; have k0 := B1.out.at_ 0 _ rfl; have k1 := B1.out.at_ 1 _ rfl; have e4 := kc HB3.out HE.out))
  have K0 := Lib.hid (show KS w t (some ⟨b, o, none⟩) cap N w3 from ⟨B1.out, R1.out, HB3.out⟩)
  have cc := fun (W : World) (g2 : Nat) (hK : KS w t (some ⟨b, o, none⟩) cap N W) (hB : Bk W g2 [.bool false, .int .i64 0, .int .i64 0, .int .i64 0, .slice (some ⟨pb, po, none⟩) m pc, .int .i64 0, .bool false, .int .i64 0, .int .i64 0, .int .i64 0, .slice (some ⟨pb, po + m * 2, none⟩) (p.length - m) (pc - m), .int .i64 0]) {g : Nat} (d0 : W.cell? ⟨g, 0, none⟩ = some (.slice (some ⟨b, o, none⟩) N.length cap)) (d1 : W.cell? ⟨g, 1, none⟩ = some (.slice (some ⟨g2, 0, none⟩) 2 2)) =>
    ncat2 (HN.out.keep hK.b) (by omega) (by omega) g g2 ⟨lfn (p.take m) 0, some ⟨pb, po, none⟩, pc⟩ ⟨lfn (p.drop m) 0, some ⟨pb, po + m * 2, none⟩, pc - m⟩ (prs_takeI (HP.out.below hK.b) m (Nat.le_of_lt hm1)) (prs_dropI (HP.out.below hK.b) m (Nat.le_of_lt hm1)) (by
      have e1 : (p.take m).length = m := by rw [List.length_take]; omega
      have e2 : (p.drop m).length = p.length - m := List.length_drop ..
      simp only [cellsN, cellN, lfn, e1, e2, List.cons_append, List.nil_append]
      exact hB) d0 d1
  clear k0 k1 e4
  --REG6
  have BX2 := Lib.hid (((Bk.new w3 #[.bool false, .int .i64 0, .int .i64 0, .int .i64 0, .slice (some ⟨pb, po, none⟩) m pc, .int .i64 0, .bool false, .int .i64 0, .int .i64 0, .int .i64 0, .slice (some ⟨pb, po + m * 2, none⟩) (p.length - m) (pc - m), .int .i64 0] 49).past (.cells #[.slice (some ⟨b, o, none⟩) N.length cap, .slice (some ⟨w3.heap.size, 0, none⟩) 2 2] 22)).drew)
  have BY := Lib.hid (show Bk ((w3.alloc (.cells #[.bool false, .int .i64 0, .int .i64 0, .int .i64 0, .slice (some ⟨pb, po, none⟩) m pc, .int .i64 0, .bool false, .int .i64 0, .int .i64 0, .int .i64 0, .slice (some ⟨pb, po + m * 2, none⟩) (p.length - m) (pc - m), .int .i64 0] 49)).alloc (.cells #[.slice (some ⟨b, o, none⟩) N.length cap, .slice (some ⟨w3.heap.size, 0, none⟩) 2 2] 22)).drew (w3.heap.size + 1) [.slice (some ⟨b, o, none⟩) N.length cap, .slice (some ⟨w3.heap.size, 0, none⟩) 2 2] from by
    have h := (Bk.new (w3.alloc (.cells #[.bool false, .int .i64 0, .int .i64 0, .int .i64 0, .slice (some ⟨pb, po, none⟩) m pc, .int .i64 0, .bool false, .int .i64 0, .int .i64 0, .int .i64 0, .slice (some ⟨pb, po + m * 2, none⟩) (p.length - m) (pc - m), .int .i64 0] 49)) #[.slice (some ⟨b, o, none⟩) N.length cap, .slice (some ⟨w3.heap.size, 0, none⟩) 2 2] 22).drew
    simp only [World.size_alloc] at h; exact h)
  have K2 := Lib.hid (((K0.out.keep (al1 (.cells #[.bool false, .int .i64 0, .int .i64 0, .int .i64 0, .slice (some ⟨pb, po, none⟩) m pc, .int .i64 0, .bool false, .int .i64 0, .int .i64 0, .int .i64 0, .slice (some ⟨pb, po + m * 2, none⟩) (p.length - m) (pc - m), .int .i64 0] 49))).keep (al1 (.cells #[.slice (some ⟨b, o, none⟩) N.length cap, .slice (some ⟨w3.heap.size, 0, none⟩) 2 2] 22))).keep (Below.refl _ _).drew)
  refine wp_region_held_drew (S := (fun W => W.cell? ⟨w.heap.size, 0, none⟩ = some (.int .i64 t) ∧ W.cell? ⟨w.heap.size, 1, none⟩ = some (.slice (some ⟨b, o, none⟩) N.length cap) ∧ KS w t (some ⟨b, o, none⟩) cap N W)) (by kernel_rfl) (by first | exact KS.conj K0.out | exact KS.conj (K0.out.keep (Below.refl _ _).drew)) (fun hHeld => ?_)
  refine tk 0 ?_ rfl (by kernel_rfl) (fun _ _ _ h => h) ⟨by rfl, ?_⟩ hHeld ?_; rotate_left
  · intro wS hSw; (try dsimp only at hSw); (try go_split_ands); go_simp; try with_reducible rfl
  refine tk 1 ?_ rfl (by kernel_rfl) (fun _ _ _ h => h) ⟨by rfl, ?_⟩ hHeld ?_; rotate_left
  · intro wS hSw; (try dsimp only at hSw); (try go_split_ands); go_simp; try with_reducible rfl
  refine tk 2 ?_ rfl (by kernel_rfl) (fun _ _ _ h => h) ⟨by rfl, ?_⟩ hHeld ?_; rotate_left
  · intro wS hSw; (try dsimp only at hSw); (try go_split_ands); go_simp; try with_reducible rfl
  refine tk 3 ?_ rfl (by kernel_rfl) (fun _ _ _ h => h) ⟨by rfl, ?_⟩ hHeld ?_; rotate_left
  · intro wS hSw; (try dsimp only at hSw); (try go_split_ands); go_simp; try with_reducible rfl
  refine tk 4 ?_ rfl (by kernel_rfl) (fun _ _ _ h => h) ⟨by rfl, ?_⟩ hHeld ?_; rotate_left
  · intro wS hSw; (try dsimp only at hSw); (try go_split_ands); go_simp; try with_reducible rfl
  refine tk 5 ?_ rfl (by kernel_rfl) (fun _ _ _ h => h) ⟨by rfl, ?_⟩ hHeld ?_; rotate_left
  · intro wS hSw; (try dsimp only at hSw); (try go_split_ands); go_simp; try with_reducible rfl
  refine tk 6 ?_ rfl (by kernel_rfl) (fun _ _ _ h => h) ⟨by rfl, ?_⟩ hHeld ?_; rotate_left
  · intro wS hSw; (try dsimp only at hSw); (try go_split_ands); go_simp; try with_reducible rfl
  refine tk 7 ?_ rfl (by kernel_rfl) (fun _ _ _ h => h) ⟨by rfl, ?_⟩ hHeld ?_; rotate_left
  · intro wS hSw; (try dsimp only at hSw); (try go_split_ands); go_simp; try with_reducible rfl
  refine tk 8 ?_ rfl (by kernel_rfl) (fun _ _ _ h => h) ⟨by rfl, ?_⟩ hHeld ?_; rotate_left
  · intro wS hSw; (try dsimp only at hSw); (try go_split_ands); go_simp; try with_reducible rfl
  refine tk 9 ?_ rfl (by kernel_rfl) (fun _ _ _ h => h) ⟨by rfl, ?_⟩ hHeld ?_; rotate_left
  · intro wS hSw; (try dsimp only at hSw); (try go_split_ands); go_simp; try with_reducible rfl
  try simp only [List.getElem_toArray, List.getElem_cons_succ, List.getElem_cons_zero, Act.put, List.setIfInBounds_toArray, List.set_cons_zero, List.set_cons_succ]
  refine wpAnyH_ready (rs := [10]) (by kernel_rfl) (by simp) ?_
  refine AllReadyH.cons rfl (fun K hK => ?_) AllReadyH.nil
  go_simp
  refine hK.out _ _ ?_ (fun hNext => ?_)
  · exact KS.conj (hHeld.2.2.keep (al1 _))
  clear hK K hHeld
  have hHeld := hNext
  clear hNext
  try simp only [List.getElem_toArray, List.getElem_cons_succ, List.getElem_cons_zero, Act.put, List.setIfInBounds_toArray, List.set_cons_zero, List.set_cons_succ]
  refine wpAnyH_ready (rs := [11]) (by kernel_rfl) (by simp) ?_
  refine AllReadyH.cons rfl (fun K hK => ?_) AllReadyH.nil
  go_simp
  refine hK.out _ _ ?_ (fun hNext => ?_)
  · exact KS.conj (hHeld.2.2.keep (al1 _))
  clear hK K hHeld
  have hHeld := hNext
  clear hNext
  try simp only [List.getElem_toArray, List.getElem_cons_succ, List.getElem_cons_zero, Act.put, List.setIfInBounds_toArray, List.set_cons_zero, List.set_cons_succ]
  refine wpAnyH_ready (rs := [12]) (by kernel_rfl) (by simp) ?_
  refine AllReadyH.cons rfl (fun K hK => ?_) AllReadyH.nil
  go_simp
  (go_at_call 124; ((with_reducible refine (cc _ _ K2.out BX2.out (BY.out.at_ 0 _ rfl) (BY.out.at_ 1 _ rfl)).mono ?_); rintro e X ⟨ao, cp, M, rfl, hMM, hR⟩))
  refine hK.out _ _ ?_ (fun hNext => ?_)
  · exact KS.conj (K2.out.keep hR.b)
  have HKX := Lib.hid hNext.2.2
  have HMM := Lib.hid hMM
  have HR := Lib.hid hR
  clear hMM hR
  clear hK K hHeld
  have hHeld := hNext
  clear hNext
  try simp only [List.getElem_toArray, List.getElem_cons_succ, List.getElem_cons_zero, Act.put, List.setIfInBounds_toArray, List.set_cons_zero, List.set_cons_succ]
  refine tk 13 ?_ rfl (by kernel_rfl) (fun _ _ _ h => h) ⟨by rfl, ?_⟩ hHeld ?_; rotate_left
  · intro wS hSw; (try dsimp only at hSw); (try go_split_ands); go_simp; try with_reducible rfl
  try simp only [List.getElem_toArray, List.getElem_cons_succ, List.getElem_cons_zero, Act.put, List.setIfInBounds_toArray, List.set_cons_zero, List.set_cons_succ]
  refine wpAnyH_done (by kernel_rfl) ?_ _
  clear hHeld
  --TAIL
  have hML : M.length = N.length + 2 := by have := congrArg List.length HMM.out; simpa using this
  obtain ⟨m0, hm0⟩ : ∃ m0, M[i]? = some m0 := ⟨_, List.getElem?_eq_getElem (by omega)⟩
  obtain ⟨g, rfl, -, hna, hfz⟩ := HR.out.r.at hm0
  have HG := Lib.hid (show w.heap.size + 1 < g from Nat.lt_of_lt_of_le K2.out.r.lt (HR.out.own g rfl))
  have q0' := kc HKX.out.b q0
  have T9 := Lib.hid (HR.out.r.six hm0 ⟨⟨true, q.1, (N.length : Int), (N.length : Int) + 1, [], 0⟩, none, 0⟩ (Prs.nil _) (fun h => absurd rfl h))
  have O9 := Lib.hid (only_six (S := fun k => k = g) (v0 := .bool true) (v1 := .int .i64 q.1) (v2 := .int .i64 (N.length : Int)) (v3 := .int .i64 ((N.length : Int) + 1)) (v4 := .slice none 0 0) (v5 := .int .i64 0) (j := i * 6) (Only.refl _ X) (.inl rfl))
  obtain ⟨x0, x1, x2, x3, x4, x5, -⟩ := hna
  have hw1 : wrap64 ((N.length : Int) + 1) = (N.length : Int) + 1 := by unfold wrap64; omega
  have hi2 : (i : Int) < ((N.length + 2 : Nat) : Int) := by omega
  have hcX := HR.out.r.form
  obtain ⟨_, _, e', hcp1, hcp2⟩ := hcX
  injection e' with e1 e2 e3
  subst e3
  rw [hML] at hcp1
  clear e1 e2
  unfold maxLen at hcp2
  clear hm0
  go_upto_region 8 with (fail)
  first | generalize ((((((World.setCell X ⟨g, i * 6, none⟩ _).setCell _ _).setCell _ _).setCell _ _).setCell _ _).setCell _ _ : World) = X9 at T9 O9 ⊢ | fail
  obtain ⟨hTr, -, hLay⟩ := HT.out
  have hgd : p.getD m (0, 0) = q := by simp [List.getD, hq]
  rw [hgd] at hTr hLay
  have hMap : (M.set i ⟨⟨true, q.1, (N.length : Int), (N.length : Int) + 1, [], 0⟩, none, 0⟩).map (fun m => m.n) = N.set i ⟨true, q.1, (N.length : Int), ((N.length + 1 : Nat) : Int), [], 0⟩ ++ [⟨false, 0, 0, 0, p.take m, 0⟩, ⟨false, 0, 0, 0, p.drop m, 0⟩] := by
    rw [List.map_set, HMM.out, List.set_append_left _ _ hil]; rfl
  have hNs := T9.out.ns.2
  rw [hMap] at hNs
  have hsL : Small (N.set i ⟨true, q.1, (N.length : Int), ((N.length + 1 : Nat) : Int), [], 0⟩ ++ [⟨false, 0, 0, 0, p.take m, 0⟩, ⟨false, 0, 0, 0, p.drop m, 0⟩]) := by
    refine ⟨by simp; omega, fun n hn => ?_⟩
    have hpp := HPL.out
    rcases List.mem_append.1 hn with hn | hn
    · rcases List.mem_or_eq_of_mem_set hn with hn | rfl
      · exact HS.out.2 n hn
      · exact Nat.zero_le _
    · simp at hn
      rcases hn with rfl | rfl
      · simp; omega
      · simp; omega
  have cpl := tplain_own t (some ⟨g, 0, none⟩) cp _ X9 hNs hsL _ hTr
  rw [hLay] at cpl
  have hLl : (N.set i ⟨true, q.1, (N.length : Int), ((N.length + 1 : Nat) : Int), [], 0⟩ ++ [(⟨false, 0, 0, 0, p.take m, 0⟩ : Nd), ⟨false, 0, 0, 0, p.drop m, 0⟩]).length = N.length + 2 := by simp
  unfold PlW trv at cpl
  rw [hLl] at cpl
  have K9 := Lib.hid (show KS w t (some ⟨b, o, none⟩) cap N X9 from by
    have hg := HG.out
    refine ⟨HKX.out.g.only O9.out (fun e => by have : w.heap.size = g := e; omega), HKX.out.r.only O9.out (fun e => by have : w.heap.size + 1 = g := e; omega), HKX.out.b.trans (O9.out.below (B := w.heap.size) (fun j hj => by have : j = g := hj; omega) HKX.out.b.size)⟩)
  have k0 := K9.out.g.at_ 0 _ rfl
  have k1 := K9.out.g.at_ 1 _ rfl
  clear hTr hLay hMap hNs hsL hLl x0 x1 x2 x3 x4 x5 hfz q0' hq hgd
  go_wp2_with (go_at_call 73; ((with_reducible refine cpl.mono ?_); clear cpl; rintro e X10 ⟨a7, c7, rfl, hn7, hb7⟩; have K10 := Lib.hid (K9.out.keep hb7); have HN7 := Lib.hid (hn7.low (B' := w.heap.size + 2) (by have := K9.out.r.lt; omega)); clear hn7 hb7 k0 k1; have r0 := K10.out.r.c0; have r1 := K10.out.r.c1; have f0 := K10.out.r.fr 0; have f1 := K10.out.r.fr 1))
  exact bodyPost_ret (v := .tuple #[.agg #[.int .i64 0, .slice a7 ((splA N i s).lay 0).length c7], .bool true]) (by simp [results, Try.results112, go_sem, r0, r1]) rfl ⟨a7, c7, rfl, (HN7.out.ret (q := w.heap.size + 1) (by omega) _ _).low (by omega), ret_below K10.out.b (by omega) _ _⟩

def PlBO (w : World) (x : Bool) (P : List Nd) (e : Ending) (w' : World) : Prop := ∃ ao cp, e = .returned (.tuple #[.agg #[.int .i64 0, .slice ao P.length cp], .bool x]) ∧ NsO w.heap.size w' ao cp P ∧ Below w.heap.size w w'
theorem PlBO.is {w : World} {x : Bool} {P : List Nd} {e : Ending} {w' : World} (h : PlBO w x P e w') : PlB w x P e w' := by
  obtain ⟨ao, cp, h1, h2, h3⟩ := h
  exact ⟨ao, cp, h1, h2.ns, h3⟩
/-- adapt.Split. -/
theorem split_own (t : Int) (a : Option Addr) (cap : Nat) (N : List Nd) (y : Int) (w : World) (hN : Ns w a cap N) (hsm : Small N) (hle : N.length + 2 ≤ 2000) (x : Bool) (Q : List Nd) (h : SplO N t y x Q) :
    Calls Try.prog 112 #[trv t a cap N, .int .i64 y] w (PlBO w x Q) := by
  rcases h with ⟨rfl, s, i, h, h2, _, rfl⟩ | ⟨rfl, rfl, h⟩
  · obtain rfl := h.2.1
    exact split_own0 t a cap N s i w hN hsm h h2 hle
  · rcases Classical.em (∃ s i, LfAt N t y s i) with ⟨s, i, h2⟩ | h2
    · obtain rfl := h2.2.1
      exact (split_few t a cap N s i w hN hsm h2 (fun hh => h ⟨s, i, h2, hh, hle⟩)).mono (fun e w' hh => ⟨none, 0, hh.1, NsO.none _ _, hh.2⟩)
    · exact (split_no t a cap N y w hN hsm h2).mono (fun e w' hh => ⟨none, 0, hh.1, NsO.none _ _, hh.2⟩)
end Go.Proofs.Ytijepfabkalcoaa

