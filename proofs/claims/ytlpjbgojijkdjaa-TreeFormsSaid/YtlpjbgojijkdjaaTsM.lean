/- osierref1.Set exactly. No condition: lemmas. -/
import Derived.Test.YtlpjbgojijkdjaaTsL
import Derived.Test.YtlpjbgojijkdjaaTsG
import Derived.OwnWalk
namespace Go.Proofs.Ytlpjbgojijkdjaa
open Go.RowKit
set_option linter.all false

set_option maxRecDepth 100000 in
set_option maxHeartbeats 6400000 in
theorem rset_no (t : Int) (a : Option Addr) (cap : Nat) (N : List Nd) (y : Int) (pa : Option Addr) (pc : Nat) (l : List Pr) (st : Int) (w : World) (hN : Ns w a cap N) (hsm : Small N)
    (h : ¬ ((∃ s, Tr N s t) ∧ ∃ (j : Nat) (n : Nd), y = j ∧ N[j]? = some n ∧ n.r = false)) :
    Calls Try.prog 14 #[trv t a cap N, .int .i64 y, .slice pa l.length pc, .int .i64 st] w (SetIs w 0 [] false) := by
  have b2 : Below w.heap.size w ((w.alloc (.cells #[.int .i64 t, .slice a N.length cap] 24)).alloc (.cells #[.int .i64 0, .slice none 0 0] 24)) := bel1 (al1 _) _
  have cl := isleaf_any t a cap N _ (hN.keep b2) hsm y false ⟨fun h => (by cases h), fun hh => absurd hh h⟩
  have B2 := Lib.hid (show Bk ((w.alloc (.cells #[.int .i64 t, .slice a N.length cap] 24)).alloc (.cells #[.int .i64 0, .slice none 0 0] 24)) (w.heap.size + 1) [.int .i64 0, .slice none 0 0] from by
    have h := Bk.new (w.alloc (.cells #[.int .i64 t, .slice a N.length cap] 24)) #[.int .i64 0, .slice none 0 0] 24
    simp only [World.size_alloc] at h; exact h)
  have HB := Lib.hid b2
  unfold trv at cl ⊢
  clear b2 hN h
  go_enter Try.func14, Try.ntmps14
  go_wp2_with (go_at_call 38; ((with_reducible refine cl.mono ?_); clear cl; rintro e w3 ⟨rfl, hb3⟩; have R2 := Lib.hid (B2.out.keep hb3); have HR := Lib.hid hb3; clear hb3; have g0 := R2.out.fr 0; have g1 := R2.out.fr 1; have m0 := R2.out.at_ 0 _ rfl; have m1 := R2.out.at_ 1 _ rfl))
  refine bodyPost_ret (v := .tuple #[.agg #[.int .i64 0, .slice none 0 0], .bool false]) (by simp [results, Try.results14, go_sem, m0, m1]) rfl ⟨none, 0, rfl, Ns.none _, ?_⟩
  repeat' (first | refine Below.setCell ?_ (by dsimp only; omega) _ | exact bel2 HB.out HR.out)

set_option maxRecDepth 100000 in
set_option maxHeartbeats 12800000 in
theorem rset_yes (t : Int) (a : Option Addr) (cap : Nat) (N : List Nd) (y : Nat) (n0 : Nd) (pa : Option Addr) (pc : Nat) (l : List Pr) (st : Int) (w : World) (hN : Ns w a cap N) (hsm : Small N) (hl : Prs w pa pc l) (hll : l.length ≤ 2100)
    (h : ∃ s, Tr N s t) (hn0 : N[y]? = some n0) (hr0 : n0.r = false) (B : Bool) (hB : B = true ↔ ∃ s, Tr (N.set y (lfn l st)) s t) :
    Calls Try.prog 14 #[trv t a cap N, .int .i64 y, .slice pa l.length pc, .int .i64 st] w (SetIs w (bif B then t else 0) (bif B then N.set y (lfn l st) else []) B) := by
  have hl1 := hsm.1
  have hc1 := hN.1
  have hc2 := hN.2.1
  unfold maxLen at hc2
  have b2 : Below w.heap.size w ((w.alloc (.cells #[.int .i64 t, .slice a N.length cap] 24)).alloc (.cells #[.int .i64 0, .slice none 0 0] 24)) := bel1 (al1 _) _
  have cl := isleaf_any t a cap N _ (hN.keep b2) hsm y true ⟨fun _ => ⟨h, y, n0, rfl, hn0, hr0⟩, fun _ => rfl⟩
  have cc := fun W (hb : Below w.heap.size w W) => copytree_any t a cap N W (hN.keep hb) hsm
  unfold CpT at cc
  have B1 := Lib.hid (Bk.past (Bk.new w #[.int .i64 t, .slice a N.length cap] 24) (.cells #[.int .i64 0, .slice none 0 0] 24))
  have B2 := Lib.hid (show Bk ((w.alloc (.cells #[.int .i64 t, .slice a N.length cap] 24)).alloc (.cells #[.int .i64 0, .slice none 0 0] 24)) (w.heap.size + 1) [.int .i64 0, .slice none 0 0] from by
    have h := Bk.new (w.alloc (.cells #[.int .i64 t, .slice a N.length cap] 24)) #[.int .i64 0, .slice none 0 0] 24
    simp only [World.size_alloc] at h; exact h)
  have HB := Lib.hid b2
  have HS := Lib.hid hsm
  have HL := Lib.hid hl
  have hj : y < N.length := (List.getElem?_eq_some_iff.1 hn0).1
  have hj0 : (0 : Int) ≤ (y : Int) := by omega
  have hj1 : (y : Int) < (N.length : Int) := by omega
  have HN0 : Hid (n0.r = false ∧ n0.k = 0 ∧ n0.a = 0 ∧ n0.b = 0) := Lib.hid (by
    obtain ⟨s, hs⟩ := h
    obtain ⟨n, lo, hi, hn, hlf, _⟩ := hangs_leaf hs.hg y (hs.mem hj)
    rw [hn0] at hn; cases hn
    have := hlf hr0
    exact ⟨hr0, this.1, this.2.1, this.2.2.1⟩)
  have HX := Lib.hid hn0
  unfold trv at cl cc ⊢
  clear b2 hN h hn0 hr0 hsm hl
  go_enter Try.func14, Try.ntmps14
  go_upto_region 4 with (first
    | (go_at_call 38; ((with_reducible refine cl.mono ?_); clear cl; rintro e w3 ⟨rfl, hb3⟩; have R1 := Lib.hid (B1.out.keep hb3); have R2 := Lib.hid (B2.out.keep hb3); have HB3 := Lib.hid (bel2 HB.out hb3); clear hb3; have k0 := R1.out.at_ 0 _ rfl; have k1 := R1.out.at_ 1 _ rfl))
    | (go_at_call 33; ((with_reducible refine (cc _ HB3.out).mono ?_); clear cc k0 k1; rintro e w4 ⟨ao, c, M, rfl, hm4, hr4, hb4⟩; have C4 := Lib.hid (And.intro hm4 (And.intro hr4 hb4)); clear hm4 hr4 hb4))
    | fail)
  --RSET
  obtain ⟨m, hm, hmn⟩ : ∃ m, M[y]? = some m ∧ m.n = n0 := by
    have h := HX.out; rw [← C4.out.1, List.getElem?_map] at h
    exact Option.map_eq_some_iff.1 h
  obtain ⟨gq, eg, -, hna, -⟩ := C4.out.2.1.at hm
  subst eg
  have hgl : gq < w4.heap.size := World.block_lt_of_cell? w4 _ hna.c0
  have U := Lib.hid (Bk.new w4 #[.int .i64 t, .slice (some ⟨gq, 0, none⟩) N.length c] 24)
  have NR := Lib.hid (C4.out.2.1.keep (al1 (.cells #[.int .i64 t, .slice (some ⟨gq, 0, none⟩) N.length c] 24)))
  have HB4 := Lib.hid (bel1 (bel2 HB3.out C4.out.2.2) (.cells #[.int .i64 t, .slice (some ⟨gq, 0, none⟩) N.length c] 24))
  have R4 := Lib.hid ((R2.out.keep C4.out.2.2).past (.cells #[.int .i64 t, .slice (some ⟨gq, 0, none⟩) N.length c] 24))
  have HQ := Lib.hid (show w.heap.size + 1 < w3.heap.size ∧ w3.heap.size ≤ w4.heap.size ∧ gq < w4.heap.size ∧ w4.heap.size < (w4.alloc (.cells #[.int .i64 t, .slice (some ⟨gq, 0, none⟩) N.length c] 24)).heap.size from ⟨R2.out.lt, C4.out.2.2.size, hgl, by simp⟩)
  have HM := Lib.hid (And.intro hm (And.intro hmn C4.out.1))
  have HGQ := Lib.hid (show ¬ gq < w3.heap.size from C4.out.2.1.own gq rfl)
  clear hm hmn hna hgl R2 C4 B1 B2 HB
  obtain ⟨q4, hq4⟩ : ∃ q, w4.heap.size = q := ⟨_, rfl⟩
  rw [hq4] at U HQ ⊢
  clear hq4
  generalize (World.alloc w4 _ : World) = W4 at *
  have HP := Lib.hid (HL.out.below HB4.out)
  have HU := Lib.hid (show W4.cell? ⟨q4, 0, none⟩ = some (.int .i64 t) ∧ W4.cell? ⟨q4, 1, none⟩ = some (.slice (some ⟨gq, 0, none⟩) N.length c) from ⟨U.out.at_ 0 _ rfl, U.out.at_ 1 _ rfl⟩)
  have HLL := Lib.hid hll
  refine wp_region_held_drew (S := (fun W => W.cell? ⟨q4, 0, none⟩ = some (.int .i64 t) ∧ W.cell? ⟨q4, 1, none⟩ = some (.slice (some ⟨gq, 0, none⟩) N.length c))) (by kernel_rfl) (HU.out) (fun hHeld => ?_)
  refine wpAnyH_take (i := 0) (v := ?_) rfl (by kernel_rfl) (by kernel_rfl) (by kernel_rfl) (fun _ _ _ h => h) (Or.inl ⟨by rfl, ?_⟩) hHeld ?_
  rotate_left
  · (intro wS hSw; (try dsimp only at hSw); (try go_split_ands); go_simp; try with_reducible rfl)
  try simp only [List.getElem_toArray, List.getElem_cons_succ, List.getElem_cons_zero, Act.put, List.setIfInBounds_toArray, List.set_cons_zero, List.set_cons_succ]
  refine wpAnyH_take (i := 1) (v := ?_) rfl (by kernel_rfl) (by kernel_rfl) (by kernel_rfl) (fun _ _ _ h => h) (Or.inl ⟨by rfl, ?_⟩) hHeld ?_
  rotate_left
  · (intro wS hSw; (try dsimp only at hSw); (try go_split_ands); go_simp; try with_reducible rfl)
  try simp only [List.getElem_toArray, List.getElem_cons_succ, List.getElem_cons_zero, Act.put, List.setIfInBounds_toArray, List.set_cons_zero, List.set_cons_succ]
  refine wpAnyH_take (i := 2) (v := ?_) rfl (by kernel_rfl) (by kernel_rfl) (by kernel_rfl) (fun _ _ _ h => h) (Or.inl ⟨by rfl, ?_⟩) hHeld ?_
  rotate_left
  · (intro wS hSw; (try dsimp only at hSw); (try go_split_ands); go_simp; try with_reducible rfl)
  try simp only [List.getElem_toArray, List.getElem_cons_succ, List.getElem_cons_zero, Act.put, List.setIfInBounds_toArray, List.set_cons_zero, List.set_cons_succ]
  refine wpAnyH_take (i := 3) (v := ?_) rfl (by kernel_rfl) (by kernel_rfl) (by kernel_rfl) (fun _ _ _ h => h) (Or.inl ⟨by rfl, ?_⟩) hHeld ?_
  rotate_left
  · (intro wS hSw; (try dsimp only at hSw); (try go_split_ands); go_simp; try with_reducible rfl)
  try simp only [List.getElem_toArray, List.getElem_cons_succ, List.getElem_cons_zero, Act.put, List.setIfInBounds_toArray, List.set_cons_zero, List.set_cons_succ]
  refine wpAnyH_take (i := 4) (v := ?_) rfl (by kernel_rfl) (by kernel_rfl) (by kernel_rfl) (fun _ _ _ h => h) (Or.inl ⟨by rfl, ?_⟩) hHeld ?_
  rotate_left
  · (intro wS hSw; (try dsimp only at hSw); (try go_split_ands); go_simp; try with_reducible rfl)
  try simp only [List.getElem_toArray, List.getElem_cons_succ, List.getElem_cons_zero, Act.put, List.setIfInBounds_toArray, List.set_cons_zero, List.set_cons_succ]
  refine wpAnyH_take (i := 5) (v := ?_) rfl (by kernel_rfl) (by kernel_rfl) (by kernel_rfl) (fun _ _ _ h => h) (Or.inl ⟨by rfl, ?_⟩) hHeld ?_
  rotate_left
  · (intro wS hSw; (try dsimp only at hSw); (try go_split_ands); go_simp; try with_reducible rfl)
  try simp only [List.getElem_toArray, List.getElem_cons_succ, List.getElem_cons_zero, Act.put, List.setIfInBounds_toArray, List.set_cons_zero, List.set_cons_succ]
  refine wpAnyH_take (i := 6) (v := ?_) rfl (by kernel_rfl) (by kernel_rfl) (by kernel_rfl) (fun _ _ _ h => h) (Or.inl ⟨by rfl, ?_⟩) hHeld ?_
  rotate_left
  · (intro wS hSw; (try dsimp only at hSw); (try go_split_ands); go_simp; try with_reducible rfl)
  try simp only [List.getElem_toArray, List.getElem_cons_succ, List.getElem_cons_zero, Act.put, List.setIfInBounds_toArray, List.set_cons_zero, List.set_cons_succ]
  refine wpAnyH_take (i := 8) (v := ?_) rfl (by kernel_rfl) (by kernel_rfl) (by kernel_rfl) (fun _ _ _ h => h) (Or.inl ⟨by rfl, ?_⟩) hHeld ?_
  rotate_left
  · (intro wS hSw; (try dsimp only at hSw); (try go_split_ands); go_simp; try with_reducible rfl)
  try simp only [List.getElem_toArray, List.getElem_cons_succ, List.getElem_cons_zero, Act.put, List.setIfInBounds_toArray, List.set_cons_zero, List.set_cons_succ]
  refine wpAnyH_ready (rs := [7]) (by kernel_rfl) (by simp) ?_
  refine AllReadyH.cons rfl (fun K hK => ?_) AllReadyH.nil
  refine step_app rfl (.const (.slice none 0 0)) (.tmp 26) rfl (fun j => j < W4.heap.size) (.slice none 0 0) [] l rfl (PRow.nil _ _) (fun k hk => hk) _ rfl (src_any (HP.out.below (Below.refl _ _).drew)) (by have := HLL.out; simp; omega) l.length (by simp) l rfl ?_
  intro ao7 cp7 w7 hm7 hc7 hR7 hO7
  have B7 := Lib.hid (only_lt ((Below.refl W4.heap.size W4).drew) hO7)
  have R7 := Lib.hid hR7
  clear hR7 hO7 hm7
  refine hK.out _ _ ?_ (fun hNext => ?_)
  · exact ⟨kc B7.out HU.out.1, kc B7.out HU.out.2⟩
  clear hK K hHeld
  have hHeld := hNext
  clear hNext
  try simp only [List.getElem_toArray, List.getElem_cons_succ, List.getElem_cons_zero, Act.put, List.setIfInBounds_toArray, List.set_cons_zero, List.set_cons_succ]
  refine wpAnyH_take (i := 9) (v := ?_) rfl (by kernel_rfl) (by kernel_rfl) (by kernel_rfl) (fun _ _ _ h => h) (Or.inl ⟨by rfl, ?_⟩) hHeld ?_
  rotate_left
  · (intro wS hSw; (try dsimp only at hSw); (try go_split_ands); go_simp; try with_reducible rfl)
  try simp only [List.getElem_toArray, List.getElem_cons_succ, List.getElem_cons_zero, Act.put, List.setIfInBounds_toArray, List.set_cons_zero, List.set_cons_succ]
  refine wpAnyH_take (i := 10) (v := ?_) rfl (by kernel_rfl) (by kernel_rfl) (by kernel_rfl) (fun _ _ _ h => h) (Or.inl ⟨by rfl, ?_⟩) hHeld ?_
  rotate_left
  · (intro wS hSw; (try dsimp only at hSw); (try go_split_ands); go_simp; try with_reducible rfl)
  try simp only [List.getElem_toArray, List.getElem_cons_succ, List.getElem_cons_zero, Act.put, List.setIfInBounds_toArray, List.set_cons_zero, List.set_cons_succ]
  obtain ⟨g', eg, -, hna, hfz⟩ := (NR.out.keep B7.out).at HM.out.1
  cases eg
  have x4 := hna.c4
  have x5 := hna.c5
  have NA7 := Lib.hid (And.intro hna hfz)
  clear hna
  refine wpAnyH_ready (rs := [11]) (by kernel_rfl) (by simp) ?_
  refine AllReadyH.cons rfl (fun K hK => ?_) AllReadyH.nil
  go_simp
  refine hK.out _ _ ?_ (fun hNext => ?_)
  · exact ⟨((Only.refl _ w7).setCell (S := fun k => k = gq) (p := ⟨gq, y * 6 + 4, none⟩) (.inl rfl) _).cell (kc B7.out HU.out.1) (by show ¬ (q4 = gq); have := HQ.out; omega), ((Only.refl _ w7).setCell (S := fun k => k = gq) (p := ⟨gq, y * 6 + 4, none⟩) (.inl rfl) _).cell (kc B7.out HU.out.2) (by show ¬ (q4 = gq); have := HQ.out; omega)⟩
  clear hK K hHeld
  have hHeld := hNext
  clear hNext
  try simp only [List.getElem_toArray, List.getElem_cons_succ, List.getElem_cons_zero, Act.put, List.setIfInBounds_toArray, List.set_cons_zero, List.set_cons_succ]
  refine wpAnyH_take (i := 12) (v := ?_) rfl (by kernel_rfl) (by kernel_rfl) (by kernel_rfl) (fun _ _ _ h => h) (Or.inl ⟨by rfl, ?_⟩) hHeld ?_
  rotate_left
  · (intro wS hSw; (try dsimp only at hSw); (try go_split_ands); go_simp; try with_reducible rfl)
  try simp only [List.getElem_toArray, List.getElem_cons_succ, List.getElem_cons_zero, Act.put, List.setIfInBounds_toArray, List.set_cons_zero, List.set_cons_succ]
  refine wpAnyH_take (i := 13) (v := ?_) rfl (by kernel_rfl) (by kernel_rfl) (by kernel_rfl) (fun _ _ _ h => h) (Or.inl ⟨by rfl, ?_⟩) hHeld ?_
  rotate_left
  · (intro wS hSw; (try dsimp only at hSw); (try go_split_ands); go_simp; try with_reducible rfl)
  try simp only [List.getElem_toArray, List.getElem_cons_succ, List.getElem_cons_zero, Act.put, List.setIfInBounds_toArray, List.set_cons_zero, List.set_cons_succ]
  refine wpAnyH_ready (rs := [14]) (by kernel_rfl) (by simp) ?_
  refine AllReadyH.cons rfl (fun K hK => ?_) AllReadyH.nil
  go_simp
  refine hK.out _ _ ?_ (fun hNext => ?_)
  · exact ⟨(((Only.refl _ w7).setCell (S := fun k => k = gq) (p := ⟨gq, y * 6 + 4, none⟩) (.inl rfl) _).setCell (S := fun k => k = gq) (p := ⟨gq, y * 6 + 5, none⟩) (.inl rfl) _).cell (kc B7.out HU.out.1) (by show ¬ (q4 = gq); have := HQ.out; omega), (((Only.refl _ w7).setCell (S := fun k => k = gq) (p := ⟨gq, y * 6 + 4, none⟩) (.inl rfl) _).setCell (S := fun k => k = gq) (p := ⟨gq, y * 6 + 5, none⟩) (.inl rfl) _).cell (kc B7.out HU.out.2) (by show ¬ (q4 = gq); have := HQ.out; omega)⟩
  clear hK K hHeld
  have hHeld := hNext
  clear hNext
  try simp only [List.getElem_toArray, List.getElem_cons_succ, List.getElem_cons_zero, Act.put, List.setIfInBounds_toArray, List.set_cons_zero, List.set_cons_succ]
  refine wpAnyH_done (by kernel_rfl) ?_ _
  have HO9 := Lib.hid (show Only (fun k => k = gq) w7 ((w7.setCell ⟨gq, y * 6 + 4, none⟩ (.slice ao7 l.length cp7)).setCell ⟨gq, y * 6 + 5, none⟩ (.int .i64 st)) from (((Only.refl _ w7).setCell (S := fun k => k = gq) (p := ⟨gq, y * 6 + 4, none⟩) (.inl rfl) _).setCell (S := fun k => k = gq) (p := ⟨gq, y * 6 + 5, none⟩) (.inl rfl) _))
  have NR9 := Lib.hid (show NRow ((w7.setCell ⟨gq, y * 6 + 4, none⟩ (.slice ao7 l.length cp7)).setCell ⟨gq, y * 6 + 5, none⟩ (.int .i64 st)) (fun k => k < w3.heap.size) (.slice (some ⟨gq, 0, none⟩) N.length c) (M.set y ⟨lfn l st, ao7, cp7⟩) from by
    have hlt := (List.getElem?_eq_some_iff.1 HM.out.1).1
    have hav : l ≠ [] → ∀ b o sp, ao7 = some ⟨b, o, sp⟩ → ¬ (b < w3.heap.size) ∧ gq ≠ b := fun _ b o sp e => by
      have h1 := R7.out.av b (by rw [e]; rfl)
      have h4 : ¬ b < W4.heap.size := h1
      have := HQ.out
      exact ⟨by omega, by omega⟩
    have hn := HN0.out
    have h1 := (NR.out.keep B7.out).cell HM.out.1 ⟨⟨n0.r, n0.k, n0.a, n0.b, l, n0.s⟩, ao7, cp7⟩ 4 (.slice ao7 l.length cp7) (by decide) (by simp [cellN, HM.out.2.1]) (R7.out.prs rfl) hav
    have h2 := h1.cell (i := y) (m := ⟨⟨n0.r, n0.k, n0.a, n0.b, l, n0.s⟩, ao7, cp7⟩) (List.getElem?_set_self hlt) ⟨lfn l st, ao7, cp7⟩ 5 (.int .i64 st) (by decide) (by simp [cellN, lfn, hn]) (prs_only (R7.out.prs rfl) ((Only.refl _ w7).setCell (S := fun k => k = gq) (p := ⟨gq, y * 6 + 4, none⟩) (.inl rfl) _) (fun hp b o sp e hb => (hav hp b o sp e).2 (show b = gq from hb).symm)) hav
    rw [List.set_set] at h2
    exact h2)
  have U9 := Lib.hid ((U.out.keep B7.out).only HO9.out (by show ¬ (q4 = gq); have := HQ.out; omega))
  have R9 := Lib.hid ((R4.out.keep B7.out).only HO9.out (by show ¬ (w.heap.size + 1 = gq); have := HQ.out; have := HGQ.out; omega))
  have HB9 := Lib.hid ((bel2 HB4.out B7.out).trans (HO9.out.below (B := w.heap.size) (fun i hi => by have : i = gq := hi; have := HQ.out; have := HGQ.out; omega) (bel2 HB4.out B7.out).size))
  clear hHeld x4 x5 hfz HO9 NA7
  generalize (World.setCell (World.setCell w7 ⟨gq, y * 6 + 4, none⟩ _) _ _ : World) = X9 at *
  have hQl : (N.set y (lfn l st)).length = N.length := List.length_set ..
  have hNQ : Ns X9 (some ⟨gq, 0, none⟩) c (N.set y (lfn l st)) := by have h := NR9.out.ns.2; rw [List.map_set, HM.out.2.2] at h; exact h
  have hsQ : Small (N.set y (lfn l st)) := ⟨by rw [hQl]; exact hl1, fun n hn => by
    rcases List.mem_or_eq_of_mem_set hn with h | rfl
    · exact HS.out.2 n h
    · exact HLL.out⟩
  obtain ⟨x, P, hP⟩ := plO_ex (N.set y (lfn l st)) t
  have hxB : x = B := by
    have h1 := hP.tr.trans hB.symm
    cases x <;> cases B <;> simp_all
  subst hxB
  have cp := rp_any hsQ hP X9 hNQ
  unfold PlB trv at cp
  rw [hQl] at cp
  have p0 := U9.out.at_ 0 _ rfl
  have p1 := U9.out.at_ 1 _ rfl
  clear hQl hNQ hsQ hP hB U NR HU HP
  cases x
  · go_wp2_with (go_at_call 12; ((with_reducible refine cp.mono ?_); clear cp; rintro e w8 ⟨aP, cP, rfl, -, hb8⟩; have R8 := Lib.hid ((R9.out.keep hb8).past (.cells #[.int .i64 0, .slice aP P.length cP] 24)); have HB8 := Lib.hid (bel1 (bel2 HB9.out hb8) (.cells #[.int .i64 0, .slice aP P.length cP] 24)); clear hb8; have g0 := R8.out.fr 0; have g1 := R8.out.fr 1; have m0 := R8.out.at_ 0 _ rfl; have m1 := R8.out.at_ 1 _ rfl))
    refine bodyPost_ret (v := .tuple #[.agg #[.int .i64 0, .slice none 0 0], .bool false]) (by simp [results, Try.results14, go_sem, m0, m1]) rfl ⟨none, 0, rfl, Ns.none _, ?_⟩
    repeat' (first | refine Below.setCell ?_ (by dsimp only; omega) _ | exact HB8.out)
  · go_wp2_with (go_at_call 12; ((with_reducible refine cp.mono ?_); clear cp; rintro e w8 ⟨aP, cP, rfl, -, hb8⟩; have R8 := Lib.hid ((R9.out.keep hb8).past (.cells #[.int .i64 0, .slice aP P.length cP] 24)); have HB8 := Lib.hid (bel1 (bel2 HB9.out hb8) (.cells #[.int .i64 0, .slice aP P.length cP] 24)); have U8 := Lib.hid ((U9.out.keep hb8).past (.cells #[.int .i64 0, .slice aP P.length cP] 24)); have NR8 := Lib.hid ((NR9.out.keep hb8).keep (al1 (.cells #[.int .i64 0, .slice aP P.length cP] 24))); clear hb8; have g0 := R8.out.fr 0; have g1 := R8.out.fr 1; have m0 := R8.out.at_ 0 _ rfl; have m1 := R8.out.at_ 1 _ rfl; have y0 := U8.out.at_ 0 _ rfl; have y1 := U8.out.at_ 1 _ rfl))
    refine bodyPost_ret (v := .tuple #[.agg #[.int .i64 t, .slice (some ⟨gq, 0, none⟩) N.length c], .bool true]) (by simp [results, Try.results14, go_sem, m0, m1]) rfl ⟨some ⟨gq, 0, none⟩, c, by simp, ?_, ?_⟩
    · generalize (World.alloc w8 _ : World) = W8 at *
      have hn := (NR8.out.only (S := fun k => k = w.heap.size + 1) (W' := (W8.setCell ⟨w.heap.size + 1, 0, none⟩ (.int .i64 t)).setCell ⟨w.heap.size + 1, 1, none⟩ (.slice (some ⟨gq, 0, none⟩) N.length c)) (((Only.refl _ W8).setCell (S := fun k => k = w.heap.size + 1) (p := ⟨w.heap.size + 1, 0, none⟩) (.inl rfl) _).setCell (S := fun k => k = w.heap.size + 1) (p := ⟨w.heap.size + 1, 1, none⟩) (.inl rfl) _) (fun k hk => by have : k = w.heap.size + 1 := hk; show k < w3.heap.size; have := HQ.out; omega)).ns.2
      rw [List.map_set, HM.out.2.2] at hn
      exact hn
    · repeat' (first | refine Below.setCell ?_ (by dsimp only; omega) _ | exact HB8.out)
theorem rset_any (t : Int) (a : Option Addr) (cap : Nat) (N : List Nd) (y : Int) (pa : Option Addr) (pc : Nat) (l : List Pr) (st : Int) (w : World) (hN : Ns w a cap N) (hsm : Small N) (hl : Prs w pa pc l) (hll : l.length ≤ 2100)
    (r : Int) (Q : List Nd) (x : Bool) (h : SetO N t y l st r Q x) :
    Calls Try.prog 14 #[trv t a cap N, .int .i64 y, .slice pa l.length pc, .int .i64 st] w (SetIs w r Q x) := by
  rcases h with ⟨rfl, rfl, ht, j, n, rfl, hn, hr, rfl, hs⟩ | ⟨rfl, rfl, rfl, h⟩
  · exact rset_yes _ a cap N j n pa pc l st w hN hsm hl hll ht hn hr true ⟨fun _ => hs, fun _ => rfl⟩
  · rcases Classical.em ((∃ s, Tr N s t) ∧ ∃ (j : Nat) (n : Nd), y = j ∧ N[j]? = some n ∧ n.r = false) with ⟨ht, j, n, rfl, hn, hr⟩ | h2
    · exact rset_yes t a cap N j n pa pc l st w hN hsm hl hll ht hn hr false ⟨fun h => (by cases h), fun hs => absurd ⟨ht, j, n, rfl, hn, hr, hs⟩ h⟩
    · exact rset_no t a cap N y pa pc l st w hN hsm h2
#print axioms rset_any
end Go.Proofs.Ytlpjbgojijkdjaa
