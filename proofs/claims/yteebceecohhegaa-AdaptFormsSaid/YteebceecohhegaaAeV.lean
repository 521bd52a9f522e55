/- osierref1.JoinLeaf exactly. No condition: lemmas. -/
import Derived.Test.YteebceecohhegaaAeU
namespace Go.Proofs.Yteebceecohhegaa
open Go.RowKit
set_option linter.all false

theorem cp_out {N : List Nd} {x o : Nat} : ∀ {s : Sh} {t : Int}, Lk N s t → x ∉ s.pre → Cp N (x : Int) (o : Int) s t := by
  intro s
  induction s with
  | lf i =>
    intro t h hx
    obtain ⟨rfl, h1, h2, _⟩ := h
    exact ⟨.inr ⟨fun e => hx (by simp [Sh.pre]; omega), rfl⟩, h1, h2⟩
  | rt i l r ihl ihr =>
    intro t h hx
    obtain ⟨rfl, h1, h2, h3, h4, h5, h6⟩ := h
    simp [Sh.pre] at hx
    exact ⟨.inr ⟨fun e => hx.1 (by omega), rfl⟩, h1, h2, h3, h4, ihl h5 hx.2.1, ihr h6 hx.2.2⟩
theorem cp_at {N : List Nd} {x o : Nat} {s : Sh} (h : Lk N s (o : Int)) (hx : x ∉ s.pre) : Cp N (x : Int) (o : Int) s (x : Int) := by
  cases s with
  | lf i => exact ⟨.inl ⟨rfl, h.1⟩, h.2.1, h.2.2.1⟩
  | rt i l r =>
    obtain ⟨h0, h1, h2, h3, h4, h5, h6⟩ := h
    simp [Sh.pre] at hx
    exact ⟨.inl ⟨rfl, h0⟩, h1, h2, h3, h4, cp_out h5 hx.2.1, cp_out h6 hx.2.2⟩
theorem cp_skp {N : List Nd} {x o : Nat} {b : Bool} (hr : (nd N x).r = true) (ho : (bif b then (nd N x).a else (nd N x).b) = (o : Int)) : ∀ {s : Sh} {t : Int}, Lk N s t → s.pre.Nodup → Cp N (x : Int) (o : Int) (skp x b s) t := by
  intro s
  induction s with
  | lf i =>
    intro t h _
    obtain ⟨rfl, h1, h2, _⟩ := h
    exact ⟨.inr ⟨fun e => (by rw [show x = i from by omega, h2] at hr; cases hr), rfl⟩, h1, h2⟩
  | rt i l r ihl ihr =>
    intro t h hn
    obtain ⟨rfl, h1, h2, h3, h4, h5, h6⟩ := h
    simp [Sh.pre, List.nodup_append] at hn
    unfold skp
    by_cases e : i = x
    · subst e
      rw [if_pos rfl]
      cases b with
      | true => rw [if_pos rfl]; exact cp_at (by rw [show (nd N i).a = (o : Int) from ho] at h5; exact h5) hn.1.1
      | false => rw [if_neg (by decide)]; exact cp_at (by rw [show (nd N i).b = (o : Int) from ho] at h6; exact h6) hn.1.2
    · rw [if_neg e]
      exact ⟨.inr ⟨fun e' => e (by omega), rfl⟩, h1, h2, h3, h4, ihl h5 hn.2.1, ihr h6 hn.2.2.1⟩
theorem KS.own {w : World} {t : Int} {a : Option Addr} {cap : Nat} {N : List Nd} {W W' : World} (h : KS w t a cap N W) {S : Nat → Prop} (ho : Only S W W') (hS : ∀ k, S k → w.heap.size + 1 < k) : KS w t a cap N W' :=
  ⟨h.g.only ho (fun e => by have := hS _ e; omega), Tq.only h.r ho (fun e => by have := hS _ e; omega), h.b.trans (ho.below (B := w.heap.size) (fun k hk => by have := hS k hk; omega) h.b.size)⟩
theorem NRow.swap {W W' : World} {Q : Nat → Prop} {M : List RN} {g n cap : Nat} {S : Nat → Prop} (h : NRow W Q (.slice (some ⟨g, 0, none⟩) n cap) M) (ho : Only S W W') (hgS : ¬ S g) {i : Nat} {m : RN} (hm : M[i]? = some m) (hoth : ∀ (i' : Nat) (x : RN), i' ≠ i → M[i']? = some x → x.n.p ≠ [] → ∀ b o sp, x.a = some ⟨b, o, sp⟩ → ¬ S b)
    (m' : RN) (j : Nat) (u : Value) (hj : j < 6) (hu : (cellN m).set j u = cellN m') (hp : Prs W' m'.a m'.c m'.n.p) (hs : m'.n.p ≠ [] → ∀ b o sp, m'.a = some ⟨b, o, sp⟩ → ¬ Q b ∧ g ≠ b) : NRow (W'.setCell ⟨g, i * 6 + j, none⟩ u) Q (.slice (some ⟨g, 0, none⟩) n cap) (M.set i m') := by
  obtain ⟨ao, cap', e, h1, h2⟩ := h.form
  simp only [Value.slice.injEq] at e
  obtain ⟨rfl, rfl, rfl⟩ := e
  have hrow := ho.row h.row (fun k hk hs => by have : g = k := by simpa [Value.ownBlock] using hk
                                               subst this; exact hgS hs)
  have hO : Only (fun k => k = g) W' (W'.setCell ⟨g, i * 6 + j, none⟩ u) := (Only.refl _ _).setCell (S := fun k => k = g) (p := ⟨g, i * 6 + j, none⟩) (.inl rfl) _
  refine ⟨?_, h.own, fun x hx => ?_⟩
  · have := (hrow.stored (i * 6 + j) u).1
    rw [cellsN_set M i m m' hm j u hj hu] at this
    rw [List.length_set]
    exact this
  · obtain ⟨i', hi'⟩ := List.getElem?_of_mem hx
    by_cases e : i = i'
    · subst e
      rw [List.getElem?_set_self (List.getElem?_eq_some_iff.1 hm).1] at hi'
      cases hi'
      exact ⟨prs_only hp hO (fun hp b o sp e hb => (hs hp b o sp e).2 hb.symm), fun hp b o sp e => ⟨(hs hp b o sp e).1, fun hh => (hs hp b o sp e).2 (by simpa [Value.ownBlock] using hh)⟩⟩
    · rw [List.getElem?_set_ne e] at hi'
      have hx' := List.mem_of_getElem? hi'
      exact ⟨prs_only (prs_only (h.prs x hx').1 ho (hoth i' x (fun e' => e e'.symm) hi')) hO (fun hp b o sp e hb => ((h.prs x hx').2 hp b o sp e).2 (by rw [hb]; rfl)), (h.prs x hx').2⟩
set_option maxRecDepth 100000 in
set_option maxHeartbeats 6400000 in
theorem rjl_no (t : Int) (a : Option Addr) (cap : Nat) (N : List Nd) (y : Int) (w : World) (hN : Ns w a cap N) (hsm : Small N) (h : NxtO N t y none) :
    Calls Try.prog 13 #[trv t a cap N, .int .i64 y] w (PlB w false []) := by
  have b1 : Below w.heap.size w ((w.alloc (.cells #[.int .i64 t, .slice a N.length cap] 24)).alloc (.cells #[.int .i64 0, .slice none 0 0] 24)) := bel1 (al1 _) _
  have ci := rnb_any t a cap N y _ (hN.keep b1) hsm none h (-1) rfl
  have R0 := Lib.hid (show Rq ((w.alloc (.cells #[.int .i64 t, .slice a N.length cap] 24)).alloc (.cells #[.int .i64 0, .slice none 0 0] 24)) (w.heap.size + 1) from by
    have h := Rq.new (w.alloc (.cells #[.int .i64 t, .slice a N.length cap] 24))
    simp only [World.size_alloc] at h; exact h)
  have HB := Lib.hid b1
  unfold trv at ci ⊢
  clear b1 hN h hsm
  go_enter Try.func13, Try.ntmps13
  go_wp2_with (go_at_call 17; ((with_reducible refine ci.mono ?_); clear ci; rintro e w3 ⟨rfl, hb3⟩; have R1 := Lib.hid (R0.out.keep hb3); have HB1 := Lib.hid (bel2 HB.out hb3); clear hb3; have r0 := R1.out.c0; have r1 := R1.out.c1; have f0 := R1.out.fr 0; have f1 := R1.out.fr 1))
  exact bodyPost_ret (v := .tuple #[.agg #[.int .i64 0, .slice none 0 0], .bool false]) (by simp [results, Try.results13, go_sem, r0, r1]) rfl ⟨none, 0, rfl, Ns.none _, ret_below HB1.out (by omega) _ _⟩
set_option maxRecDepth 100000 in
set_option maxHeartbeats 6400000 in
theorem rjl_right (t : Int) (a : Option Addr) (cap : Nat) (N : List Nd) (s : Sh) (i k x o : Nat) (w : World) (hN : Ns w a cap N) (hsm : Small N) (h : LfAt N t (i : Int) s i)
    (hnx : NxtO N t (i : Int) (some k)) (P : List Nd)
    (ho : (nd N x).a = (o : Int)) (hb : ((nd N x).b == (i : Int)) = true) (hil : i < N.length) (hkl : k < N.length) (hxl : x < N.length) (hkx : k ≠ x) (hki : i ≠ k) (hlf : (nd N k).r = false ∧ (nd N k).k = 0 ∧ (nd N k).a = 0 ∧ (nd N k).b = 0) (hpa : ∀ n, PaO N i n → n = x)
    (hsP : Small (N.set k (merged N i k true))) (F : Sh) (hCp : Cp (N.set k (merged N i k true)) (x : Int) (o : Int) F t) (hF : F.pre.length = P.length) (hF2 : P.length ≤ 2000) (hLay : lay (N.set k (merged N i k true)) F 0 = P) :
    Calls Try.prog 13 #[trv t a cap N, .int .i64 (i : Int)] w (PlIs w P) := by
  have b1 : Below w.heap.size w ((w.alloc (.cells #[.int .i64 t, .slice a N.length cap] 24)).alloc (.cells #[.int .i64 0, .slice none 0 0] 24)) := bel1 (al1 _) _
  have ci := rnb_any t a cap N (i : Int) _ (hN.keep b1) hsm (some k) hnx (k : Int) rfl
  have cu := fun (W : World) (hW : Ns W a cap N) => rup_yes t a cap N (i : Int) W hW (by have := hsm.1; omega) x (nd N x) true (nd_get hxl) hpa hb
  have cct := fun W (hb : Below w.heap.size w W) => copyown_any t a cap N W (hN.keep hb) hsm
  have K0 := Lib.hid (show KS w t a cap N ((w.alloc (.cells #[.int .i64 t, .slice a N.length cap] 24)).alloc (.cells #[.int .i64 0, .slice none 0 0] 24)) from ⟨(Bk.new w #[.int .i64 t, .slice a N.length cap] 24).past _, (by
    have h := Rq.new (w.alloc (.cells #[.int .i64 t, .slice a N.length cap] 24))
    simp only [World.size_alloc] at h; exact h), b1⟩)
  have hc1 := hN.1
  have hc2 := hN.2.1
  have hNl := hsm.1
  unfold maxLen at hc2
  have hi0 : (0 : Int) ≤ (i : Int) := by omega
  have hi1 : (i : Int) < (N.length : Int) := by omega
  have hk0 : (0 : Int) ≤ (k : Int) := by omega
  have hk1 : (k : Int) < (N.length : Int) := by omega
  have hkn : ¬ (k : Int) < 0 := by omega
  have hkd : decide ((k : Int) < 0) = false := decide_eq_false hkn
  have hx0 : (0 : Int) ≤ (x : Int) := by omega
  have hx1 : (x : Int) < (N.length : Int) := by omega
  have HN := Lib.hid hN
  obtain ⟨b, of, pax, pcx, rfl, hnX⟩ := hN.2.2 x _ (nd_get hxl)
  obtain ⟨b', of', pai, pci, e', hni⟩ := hN.2.2 i _ (nd_get hil)
  cases e'
  obtain ⟨b', of', pak, pck, e', hnk⟩ := hN.2.2 k _ (nd_get hkl)
  cases e'
  have c2 := hnX.c2
  have c3 := hnX.c3
  have HE := Lib.hid (And.intro (show w.cell? ⟨b, of + x * 6 + 2, none⟩ = some (.int .i64 (o : Int)) from by rw [← ho]; exact hnX.c2) (And.intro hnX.c3 (And.intro hni.c4 hnk.c4)))
  have HPI := Lib.hid hni.ps
  have HPK := Lib.hid hnk.ps
  have HPL := Lib.hid (And.intro (hsm.at (nd_get hil)) (hsm.at (nd_get hkl)))
  have HK := Lib.hid (And.intro hCp (And.intro hF (And.intro hF2 (And.intro hLay hsP))))
  have HLF := Lib.hid hlf
  clear hlf
  have HNE := Lib.hid (And.intro hkl (And.intro hkx hki))
  obtain ⟨pi, hpi'⟩ : ∃ q, (nd N i).p = q := ⟨_, rfl⟩
  obtain ⟨pk, hpk'⟩ : ∃ q, (nd N k).p = q := ⟨_, rfl⟩
  have HPP := Lib.hid (And.intro hpi' hpk')
  rw [hpi', hpk'] at HE HPL
  rw [hpi'] at HPI
  rw [hpk'] at HPK
  unfold CpU at cct
  unfold trv at ci cu cct ⊢
  clear b1 hN h hsm hnX hni hnk c2 c3 hsP hCp hF hF2 hLay hpa hkx hki ho hb hpi' hpk' hnx hkn
  go_enter Try.func13, Try.ntmps13
  go_upto_region 4 with (go_at_call 17; ((with_reducible refine ci.mono ?_); clear ci; rintro e w3 ⟨rfl, hb3⟩; have K3 := Lib.hid (K0.out.keep hb3); clear hb3; have k0 := K3.out.g.at_ 0 _ rfl; have k1 := K3.out.g.at_ 1 _ rfl))
  go_upto_region 5 with (go_at_call 33; ((with_reducible refine (cct _ K3.out.b).mono ?_); clear cct k0 k1; rintro e w4 ⟨ao, c4, M, rfl, hM, hR, hO, hb4⟩; have C4 := Lib.hid (And.intro hM (And.intro hR (And.intro hO hb4))); clear hM hR hO hb4))
  have U4 := Lib.hid (Tq.new w4 t ao N.length c4)
  have K4 := Lib.hid ((K3.out.keep C4.out.2.2.2).keep (al1 (.cells #[.int .i64 t, .slice ao N.length c4] 24)))
  have HQ := Lib.hid (show w.heap.size + 1 < w3.heap.size ∧ w3.heap.size ≤ w4.heap.size from ⟨K3.out.r.lt, C4.out.2.2.2.size⟩)
  have B4 := Lib.hid (al1 (w := w4) (.cells #[.int .i64 t, .slice ao N.length c4] 24))
  generalize (World.alloc w4 _ : World) = W4 at *
  have k0 := K4.out.g.at_ 0 _ rfl
  have k1 := K4.out.g.at_ 1 _ rfl
  go_upto_region 6 with (go_at_call 39; ((with_reducible refine (cu _ (HN.out.keep K4.out.b)).mono ?_); clear cu k0 k1; rintro e w5 ⟨rfl, hb5⟩; have K5 := Lib.hid (K4.out.keep hb5); have U5 := Lib.hid (U4.out.keep hb5); have B5 := Lib.hid (bel2 B4.out hb5); clear hb5))
  have k0 := K5.out.g.at_ 0 _ rfl
  have k1 := K5.out.g.at_ 1 _ rfl
  have e2 := kc K5.out.b HE.out.1
  have e3 := kc K5.out.b HE.out.2.1
  go_upto_region 9 with (fail)
  have B6 := Lib.hid (B5.out.drew)
  have K6 := Lib.hid (K5.out.keep (Below.refl _ w5).drew)
  have U6 := Lib.hid (U5.out.keep (Below.refl _ w5).drew)
  have R6 := Lib.hid (C4.out.2.1.keep B6.out)
  have HO6 := Lib.hid (show OwnP w5.drew w3.heap.size (.slice ao N.length c4) M from fun j m hm => (C4.out.2.2.1 j m hm).below B6.out)
  have HO4 := Lib.hid (C4.out.2.2.1)
  have HUL := Lib.hid (show w4.heap.size < w5.drew.heap.size from U6.out.lt)
  have H46 := Lib.hid (show w4.heap.size ≤ w5.drew.heap.size from B6.out.size)
  obtain ⟨mk, hmk, hmn⟩ : ∃ m, M[k]? = some m ∧ m.n = nd N k := by
    have h : (M.map (fun m => m.n))[k]? = some (nd N k) := by rw [C4.out.1]; exact nd_get HNE.out.1
    rw [List.getElem?_map] at h
    exact Option.map_eq_some_iff.1 h
  obtain ⟨g, rfl, -, hna, hfz⟩ := R6.out.at hmk
  have HG4 := Lib.hid (show g < w4.heap.size ∧ ¬ g < w3.heap.size from ⟨(C4.out.2.1.row.lt g rfl).2, R6.out.own g rfl⟩)
  have HMK := Lib.hid (And.intro hmk (show mk.n = ⟨false, 0, 0, 0, pk, mk.n.s⟩ from by
    have hl := HLF.out
    rw [← hmn] at hl
    exact Nd.ext' hl.1 hl.2.1 hl.2.2.1 hl.2.2.2 (by rw [hmn]; exact HPP.out.2) rfl))
  have HX4 := Lib.hid (show w5.drew.cell? ⟨g, k * 6 + 4, none⟩ = some (.slice mk.a pk.length mk.c) from by have h := hna.c4; rw [show mk.n.p = pk from by rw [HMK.out.2]] at h; exact h)
  have HFZ := Lib.hid hfz
  have HMO := Lib.hid (show PRow w5.drew (fun j => j < w3.heap.size ∨ (Value.slice (some ⟨g, 0, none⟩) N.length c4).ownBlock = some j ∨ ∃ (j' : Nat) (mj : RN), j' ≠ k ∧ M[j']? = some mj ∧ (Value.slice mj.a mj.n.p.length mj.c).ownBlock = some j) (.slice mk.a pk.length mk.c) pk from by
    have h := HO6.out k mk hmk
    rw [show mk.n.p = pk from by rw [HMK.out.2]] at h
    exact h)
  have HML := Lib.hid (show M.length = N.length from by have := congrArg List.length C4.out.1; simpa using this)
  obtain ⟨_, _, ez, hcp1, hcp2⟩ := C4.out.2.1.form
  injection ez with ez1 ez2 ez3
  subst ez3
  rw [HML.out] at hcp1
  unfold maxLen at hcp2
  clear ez1 ez2 hmk hmn hna hfz e2 e3
  have HOL := Lib.hid (show ∀ k', (Value.slice mk.a pk.length mk.c).ownBlock = some k' → k' < w4.heap.size from fun k' hk' => by
    have h := (HO4.out k mk HMK.out.1).row
    rw [show mk.n.p = pk from by rw [HMK.out.2]] at h
    exact (h.lt k' hk').2)
  refine wp_region_held_drew (S := (fun W => W.cell? ⟨w4.heap.size, 1, none⟩ = some (.slice (some ⟨g, 0, none⟩) N.length c4) ∧ W.cell? ⟨w.heap.size, 1, none⟩ = some (.slice (some ⟨b, of, none⟩) N.length cap) ∧ W.cell? ⟨b, of + i * 6 + 4, none⟩ = some (.slice pai pi.length pci) ∧ W.cell? ⟨b, of + k * 6 + 4, none⟩ = some (.slice pak pk.length pck) ∧ KS w t (some ⟨b, of, none⟩) cap N W)) (by kernel_rfl) (by exact ⟨U6.out.c1, K6.out.g.at_ 1 _ rfl, kc K6.out.b HE.out.2.2.1, kc K6.out.b HE.out.2.2.2, K6.out⟩) (fun hHeld => ?_)
  generalize (World.drew w5 : World) = W5 at *
  refine wpAnyH_take (i := 0) (v := ?_) rfl (by kernel_rfl) (by kernel_rfl) (by kernel_rfl) (fun _ _ _ h => h) (Or.inl ⟨by rfl, ?_⟩) hHeld ?_
  rotate_left
  · (intro wS hSw; (try dsimp only at hSw); (try go_split_ands); go_simp; try with_reducible rfl)
  try simp only [List.getElem_toArray, List.getElem_cons_succ, List.getElem_cons_zero, Act.put, List.setIfInBounds_toArray, List.set_cons_zero, List.set_cons_succ]
  refine wpAnyH_take (i := 1) (v := ?_) rfl (by kernel_rfl) (by kernel_rfl) (by kernel_rfl) (fun _ _ _ h => h) (Or.inl ⟨by rfl, ?_⟩) hHeld ?_
  rotate_left
  · (intro wS hSw; (try dsimp only at hSw); (try go_split_ands); go_simp; try with_reducible rfl)
  try simp only [List.getElem_toArray, List.getElem_cons_succ, List.getElem_cons_zero, Act.put, List.setIfInBounds_toArray, List.set_cons_zero, List.set_cons_succ]
  refine wpAnyH_take (i := 2) (v := ?_) rfl (by kernel_rfl) (by kernel_rfl) (by kernel_rfl) (fun _ _ _ h => h) (Or.inl ⟨by rfl, ?_⟩) hHeld ?_
  rotate_left
  · (intro wS hSw; (try dsimp only at hSw); (try go_split_ands); go_simp; try with_reducible rfl)
  try simp only [List.getElem_toArray, List.getElem_cons_succ, List.getElem_cons_zero, Act.put, List.setIfInBounds_toArray, List.set_cons_zero, List.set_cons_succ]
  refine wpAnyH_take (i := 3) (v := ?_) rfl (by kernel_rfl) (by kernel_rfl) (by kernel_rfl) (fun _ _ _ h => h) (Or.inl ⟨by rfl, ?_⟩) hHeld ?_
  rotate_left
  · (intro wS hSw; (try dsimp only at hSw); (try go_split_ands); go_simp; try with_reducible rfl)
  try simp only [List.getElem_toArray, List.getElem_cons_succ, List.getElem_cons_zero, Act.put, List.setIfInBounds_toArray, List.set_cons_zero, List.set_cons_succ]
  refine wpAnyH_take (i := 4) (v := ?_) rfl (by kernel_rfl) (by kernel_rfl) (by kernel_rfl) (fun _ _ _ h => h) (Or.inl ⟨by rfl, ?_⟩) hHeld ?_
  rotate_left
  · (intro wS hSw; (try dsimp only at hSw); (try go_split_ands); go_simp; try with_reducible rfl)
  try simp only [List.getElem_toArray, List.getElem_cons_succ, List.getElem_cons_zero, Act.put, List.setIfInBounds_toArray, List.set_cons_zero, List.set_cons_succ]
  refine wpAnyH_take (i := 5) (v := ?_) rfl (by kernel_rfl) (by kernel_rfl) (by kernel_rfl) (fun _ _ _ h => h) (Or.inl ⟨by rfl, ?_⟩) hHeld ?_
  rotate_left
  · (intro wS hSw; (try dsimp only at hSw); (try go_split_ands); go_simp; try with_reducible rfl)
  try simp only [List.getElem_toArray, List.getElem_cons_succ, List.getElem_cons_zero, Act.put, List.setIfInBounds_toArray, List.set_cons_zero, List.set_cons_succ]
  refine wpAnyH_take (i := 6) (v := ?_) rfl (by kernel_rfl) (by kernel_rfl) (by kernel_rfl) (fun _ _ _ h => h) (Or.inl ⟨by rfl, ?_⟩) hHeld ?_
  rotate_left
  · (intro wS hSw; (try dsimp only at hSw); (try go_split_ands); go_simp; try with_reducible rfl)
  try simp only [List.getElem_toArray, List.getElem_cons_succ, List.getElem_cons_zero, Act.put, List.setIfInBounds_toArray, List.set_cons_zero, List.set_cons_succ]
  refine wpAnyH_take (i := 7) (v := ?_) rfl (by kernel_rfl) (by kernel_rfl) (by kernel_rfl) (fun _ _ _ h => h) (Or.inl ⟨by rfl, ?_⟩) hHeld ?_
  rotate_left
  · (intro wS hSw; (try dsimp only at hSw); (try go_split_ands); go_simp; try with_reducible rfl)
  try simp only [List.getElem_toArray, List.getElem_cons_succ, List.getElem_cons_zero, Act.put, List.setIfInBounds_toArray, List.set_cons_zero, List.set_cons_succ]
  refine wpAnyH_take (i := 9) (v := ?_) rfl (by kernel_rfl) (by kernel_rfl) (by kernel_rfl) (fun _ _ _ h => h) (Or.inl ⟨by rfl, ?_⟩) hHeld ?_
  rotate_left
  · (intro wS hSw; (try dsimp only at hSw); (try go_split_ands); go_simp; try with_reducible rfl)
  try simp only [List.getElem_toArray, List.getElem_cons_succ, List.getElem_cons_zero, Act.put, List.setIfInBounds_toArray, List.set_cons_zero, List.set_cons_succ]
  refine wpAnyH_take (i := 10) (v := ?_) rfl (by kernel_rfl) (by kernel_rfl) (by kernel_rfl) (fun _ _ _ h => h) (Or.inl ⟨by rfl, ?_⟩) hHeld ?_
  rotate_left
  · (intro wS hSw; (try dsimp only at hSw); (try go_split_ands); go_simp; try with_reducible rfl)
  try simp only [List.getElem_toArray, List.getElem_cons_succ, List.getElem_cons_zero, Act.put, List.setIfInBounds_toArray, List.set_cons_zero, List.set_cons_succ]
  refine wpAnyH_take (i := 11) (v := ?_) rfl (by kernel_rfl) (by kernel_rfl) (by kernel_rfl) (fun _ _ _ h => h) (Or.inl ⟨by rfl, ?_⟩) hHeld ?_
  rotate_left
  · (intro wS hSw; (try dsimp only at hSw); (try go_split_ands); go_simp; try with_reducible rfl)
  try simp only [List.getElem_toArray, List.getElem_cons_succ, List.getElem_cons_zero, Act.put, List.setIfInBounds_toArray, List.set_cons_zero, List.set_cons_succ]
  refine wpAnyH_take (i := 12) (v := ?_) rfl (by kernel_rfl) (by kernel_rfl) (by kernel_rfl) (fun _ _ _ h => h) (Or.inl ⟨by rfl, ?_⟩) hHeld ?_
  rotate_left
  · (intro wS hSw; (try dsimp only at hSw); (try go_split_ands); go_simp; try with_reducible rfl)
  try simp only [List.getElem_toArray, List.getElem_cons_succ, List.getElem_cons_zero, Act.put, List.setIfInBounds_toArray, List.set_cons_zero, List.set_cons_succ]
  refine wpAnyH_take (i := 13) (v := ?_) rfl (by kernel_rfl) (by kernel_rfl) (by kernel_rfl) (fun _ _ _ h => h) (Or.inl ⟨by rfl, ?_⟩) hHeld ?_
  rotate_left
  · (intro wS hSw; (try dsimp only at hSw); (try go_split_ands); go_simp; try with_reducible rfl)
  try simp only [List.getElem_toArray, List.getElem_cons_succ, List.getElem_cons_zero, Act.put, List.setIfInBounds_toArray, List.set_cons_zero, List.set_cons_succ]
  refine wpAnyH_take (i := 14) (v := ?_) rfl (by kernel_rfl) (by kernel_rfl) (by kernel_rfl) (fun _ _ _ h => h) (Or.inl ⟨by rfl, ?_⟩) hHeld ?_
  rotate_left
  · (intro wS hSw; (try dsimp only at hSw); (try go_split_ands); go_simp; try with_reducible rfl)
  try simp only [List.getElem_toArray, List.getElem_cons_succ, List.getElem_cons_zero, Act.put, List.setIfInBounds_toArray, List.set_cons_zero, List.set_cons_succ]
  refine wpAnyH_ready (rs := [8]) (by kernel_rfl) (by simp) ?_
  refine AllReadyH.cons rfl (fun K hK => ?_) AllReadyH.nil
  have x4 := HX4.out
  go_simp
  refine hK.out _ _ ?_ (fun hNext => ?_)
  · exact hHeld
  clear x4
  clear hK K hHeld
  have hHeld := hNext
  clear hNext
  try simp only [List.getElem_toArray, List.getElem_cons_succ, List.getElem_cons_zero, Act.put, List.setIfInBounds_toArray, List.set_cons_zero, List.set_cons_succ]
  refine wpAnyH_ready (rs := [15]) (by kernel_rfl) (by simp) ?_
  refine AllReadyH.cons rfl (fun K hK => ?_) AllReadyH.nil
  refine step_app rfl (.tmp 48) (.tmp 54) rfl (fun j => j < W5.heap.size ∧ (Value.slice mk.a pk.length mk.c).ownBlock ≠ some j) (.slice mk.a pk.length mk.c) pk pi rfl ⟨HMO.out.row, fun k hk hs => hs.2 hk⟩ (fun k hk => hk.1) _ rfl (src_any (HPI.out.below K6.out.b)) (by have := HPL.out; (try simp only [List.length_nil]); omega) (pk.length + pi.length) (by simp) (pk ++ pi) rfl ?_
  intro a6 c6 w6 hm6x hc6x hR6 hO6
  have OZ := Lib.hid (hO6.mono (T := fun j => (Value.slice mk.a pk.length mk.c).ownBlock = some j) (fun j hj hlt => Classical.byContradiction (fun hh => hj ⟨hlt, hh⟩)))
  have RZ := Lib.hid (hR6.prs (by simp))
  have HZ := Lib.hid (show (∀ j, (Value.slice mk.a pk.length mk.c).ownBlock = some j → w.heap.size + 1 < j) ∧ ¬ ((Value.slice mk.a pk.length mk.c).ownBlock = some w4.heap.size) ∧ ¬ ((Value.slice mk.a pk.length mk.c).ownBlock = some g) from ⟨fun j hj => by have h1 : ¬ j < w3.heap.size := fun e => HMO.out.av j hj (.inl e); have := HQ.out; omega, fun e => by have := HOL.out _ e; omega, fun e => HMO.out.av g e (.inr (.inl rfl))⟩)
  have HSEP := Lib.hid (show ∀ b o sp, a6 = some ⟨b, o, sp⟩ → ¬ b < w3.heap.size ∧ g ≠ b from fun b o sp e => by
    have h1 := hR6.av b (by rw [e]; rfl)
    by_cases hb : (Value.slice mk.a pk.length mk.c).ownBlock = some b
    · exact ⟨fun e => HMO.out.av b hb (.inl e), fun e => HMO.out.av b hb (.inr (.inl (by rw [e]; rfl)))⟩
    · have h2 : ¬ b < W5.heap.size := fun hlt => h1 ⟨hlt, hb⟩
      have h3 := HG4.out; have h4 := H46.out; have h5 := HQ.out; exact ⟨by omega, by omega⟩)
  have HOTH := Lib.hid (show ∀ (i' : Nat) (z : RN), i' ≠ k → M[i']? = some z → z.n.p ≠ [] → ∀ b o sp, z.a = some ⟨b, o, sp⟩ → ¬ ((Value.slice mk.a pk.length mk.c).ownBlock = some b) from fun i' z hi hz hp b o sp e hh => HMO.out.av b hh (.inr (.inr ⟨i', z, hi, hz, by rw [e]; rfl⟩)))
  have K7 := Lib.hid (K6.out.own OZ.out HZ.out.1)
  have U7 := Lib.hid (U6.out.only OZ.out HZ.out.2.1)
  clear hR6 hO6 hm6x hc6x
  refine hK.out _ _ ?_ (fun hNext => ?_)
  · exact ⟨U7.out.c1, K7.out.g.at_ 1 _ rfl, kc K7.out.b HE.out.2.2.1, kc K7.out.b HE.out.2.2.2, K7.out⟩
  clear hK K hHeld
  have hHeld := hNext
  clear hNext
  try simp only [List.getElem_toArray, List.getElem_cons_succ, List.getElem_cons_zero, Act.put, List.setIfInBounds_toArray, List.set_cons_zero, List.set_cons_succ]
  refine wpAnyH_take (i := 16) (v := ?_) rfl (by kernel_rfl) (by kernel_rfl) (by kernel_rfl) (fun _ _ _ h => h) (Or.inl ⟨by rfl, ?_⟩) hHeld ?_
  rotate_left
  · (intro wS hSw; (try dsimp only at hSw); (try go_split_ands); go_simp; try with_reducible rfl)
  try simp only [List.getElem_toArray, List.getElem_cons_succ, List.getElem_cons_zero, Act.put, List.setIfInBounds_toArray, List.set_cons_zero, List.set_cons_succ]
  refine wpAnyH_take (i := 17) (v := ?_) rfl (by kernel_rfl) (by kernel_rfl) (by kernel_rfl) (fun _ _ _ h => h) (Or.inl ⟨by rfl, ?_⟩) hHeld ?_
  rotate_left
  · (intro wS hSw; (try dsimp only at hSw); (try go_split_ands); go_simp; try with_reducible rfl)
  try simp only [List.getElem_toArray, List.getElem_cons_succ, List.getElem_cons_zero, Act.put, List.setIfInBounds_toArray, List.set_cons_zero, List.set_cons_succ]
  refine wpAnyH_ready (rs := [18]) (by kernel_rfl) (by simp) ?_
  refine AllReadyH.cons rfl (fun K hK => ?_) AllReadyH.nil
  have x4 := OZ.out.cell HX4.out HZ.out.2.2
  have f4 : w6.frozen? ⟨g, k * 6 + 4, none⟩ = false := (World.frozen?_of_block (w := W5) (a := ⟨g, k * 6 + 4, none⟩) (OZ.out.block g (by have := HG4.out; have := H46.out; omega) HZ.out.2.2)).trans (HFZ.out _)
  go_simp
  have O8 := Lib.hid ((Only.refl (fun j => j = g) w6).setCell (S := fun j => j = g) (p := ⟨g, k * 6 + 4, none⟩) (.inl rfl) (.slice a6 (pk.length + pi.length) c6))
  have HGW := Lib.hid (show (∀ j, j = g → w.heap.size + 1 < j) ∧ ¬ (w4.heap.size = g) from ⟨fun j hj => by have h1 := HG4.out; have h2 := HQ.out; omega, by have := HG4.out; omega⟩)
  have K8 := Lib.hid (K7.out.own O8.out HGW.out.1)
  have U8 := Lib.hid (U7.out.only O8.out HGW.out.2)
  refine hK.out _ _ ?_ (fun hNext => ?_)
  · exact ⟨U8.out.c1, K8.out.g.at_ 1 _ rfl, kc K8.out.b HE.out.2.2.1, kc K8.out.b HE.out.2.2.2, K8.out⟩
  clear hK K hHeld
  have hHeld := hNext
  clear hNext
  try simp only [List.getElem_toArray, List.getElem_cons_succ, List.getElem_cons_zero, Act.put, List.setIfInBounds_toArray, List.set_cons_zero, List.set_cons_succ]
  refine wpAnyH_done (by kernel_rfl) ?_ _
  clear hHeld x4 f4
  have R8 := Lib.hid (R6.out.swap OZ.out HZ.out.2.2 HMK.out.1 HOTH.out ⟨⟨false, 0, 0, 0, pk ++ pi, mk.n.s⟩, a6, c6⟩ 4 (.slice a6 (pk.length + pi.length) c6) (by decide) (by have e0 : mk.n.r = false := congrArg Nd.r HMK.out.2; have e1 : mk.n.k = 0 := congrArg Nd.k HMK.out.2; have e2 : mk.n.a = 0 := congrArg Nd.a HMK.out.2; have e3 : mk.n.b = 0 := congrArg Nd.b HMK.out.2; simp [cellN, e0, e1, e2, e3]) RZ.out (fun _ b o sp e => HSEP.out b o sp e))
  generalize (World.setCell w6 _ _ : World) = W8 at *
  have hkM : k < M.length := by have := HML.out; have := HNE.out.1; omega
  have HST := Lib.hid (show (M.set k ⟨⟨false, 0, 0, 0, pk ++ pi, mk.n.s⟩, a6, c6⟩)[k]? = some ⟨⟨false, 0, 0, 0, pk ++ pi, mk.n.s⟩, a6, c6⟩ from List.getElem?_set_self hkM)
  clear hkM
  obtain ⟨_, e', -, hna8, hfz8⟩ := R8.out.at HST.out
  cases e'
  have x5 := hna8.c5
  have f5 := hfz8 (k * 6 + 5)
  have u1 := U8.out.c1
  have HPR := Lib.hid (R8.out.prs _ (List.mem_of_getElem? HST.out))
  clear hna8 hfz8
  go_upto_region 12 with (fail)
  have R9 := Lib.hid (R8.out.cell HST.out ⟨⟨false, 0, 0, 0, pk ++ pi, 0⟩, a6, c6⟩ 5 (.int .i64 0) (by decide) (by simp [cellN]) HPR.out.1 (fun hp b o sp e => ⟨(HPR.out.2 hp b o sp e).1, fun e' => (HPR.out.2 hp b o sp e).2 (by rw [← e']; rfl)⟩))
  have O9 := Lib.hid ((Only.refl (fun j => j = g) W8).setCell (S := fun j => j = g) (p := ⟨g, k * 6 + 5, none⟩) (.inl rfl) (.int .i64 0))
  have K9 := Lib.hid (K8.out.own O9.out HGW.out.1)
  have U9 := Lib.hid (U8.out.only O9.out HGW.out.2)
  clear x5 f5 u1
  generalize (World.setCell W8 _ _ : World) = W9 at *
  have hNs := R9.out.ns.2
  rw [show ((M.set k ⟨⟨false, 0, 0, 0, pk ++ pi, mk.n.s⟩, a6, c6⟩).set k ⟨⟨false, 0, 0, 0, pk ++ pi, 0⟩, a6, c6⟩).map (fun m => m.n) = N.set k (merged N i k true) from by rw [List.set_set, List.map_set, C4.out.1]; unfold merged; rw [HPP.out.1, HPP.out.2]; rfl] at hNs
  have ciq := ci_any (t0 := t) hNs HK.out.2.2.2.2 (x : Int) (o : Int) F W9 (fun j => j < W9.heap.size) none 0 0 [] t rfl HK.out.1 (by have h1 := HK.out.2.1; have h2 := HK.out.2.2.1; omega) (Below.refl _ _) (NRow.nil _ _) (fun k hk => hk) (fun k hk => hk)
  unfold CiIs trv at ciq
  rw [HK.out.2.1] at ciq
  simp only [List.length_set, Nat.zero_add, List.map_nil, List.nil_append] at ciq
  have u0 := U9.out.c0
  have u1 := U9.out.c1
  clear hNs
  go_upto_region 13 with (go_at_call 40; ((with_reducible refine ciq.mono ?_); clear ciq u0 u1; rintro e w10 ⟨a10, c10, M10, rfl, hM10, hL10, hR10, hO10, hk10⟩; have R10 := Lib.hid (And.intro hM10 hR10); have K10 := Lib.hid (K9.out.own hO10 (fun k hk => by simp [Value.ownBlock] at hk)); clear hM10 hL10 hR10 hO10 hk10))
  have r0 := K10.out.r.c0
  have r1 := K10.out.r.c1
  have f0 := K10.out.r.fr 0
  have f1 := K10.out.r.fr 1
  go_wp2_with (fail)
  have FNS : Ns w10 a10 c10 P := by
    have h := R10.out.2.ns.2
    rw [R10.out.1, HK.out.2.2.2.1] at h
    exact h
  exact bodyPost_ret (v := .tuple #[.agg #[.int .i64 0, .slice a10 P.length c10], .bool true]) (by simp [results, Try.results13, go_sem, r0, r1]) rfl ⟨a10, c10, rfl, ns_ret K10.out.r FNS _ _, ret_below K10.out.b (by omega) _ _⟩
set_option maxRecDepth 100000 in
set_option maxHeartbeats 6400000 in
theorem rjl_left (t : Int) (a : Option Addr) (cap : Nat) (N : List Nd) (s : Sh) (i k x o : Nat) (w : World) (hN : Ns w a cap N) (hsm : Small N) (h : LfAt N t (i : Int) s i)
    (hnx : NxtO N t (i : Int) (some k)) (P : List Nd)
    (ho : (nd N x).b = (o : Int)) (hb : ((nd N x).b == (i : Int)) = false) (hil : i < N.length) (hkl : k < N.length) (hxl : x < N.length) (hkx : k ≠ x) (hki : i ≠ k) (hlf : (nd N k).r = false ∧ (nd N k).k = 0 ∧ (nd N k).a = 0 ∧ (nd N k).b = 0) (hpa : ∀ n, PaO N i n → n = x)
    (hsP : Small (N.set k (merged N i k false))) (F : Sh) (hCp : Cp (N.set k (merged N i k false)) (x : Int) (o : Int) F t) (hF : F.pre.length = P.length) (hF2 : P.length ≤ 2000) (hLay : lay (N.set k (merged N i k false)) F 0 = P) :
    Calls Try.prog 13 #[trv t a cap N, .int .i64 (i : Int)] w (PlIs w P) := by
  have b1 : Below w.heap.size w ((w.alloc (.cells #[.int .i64 t, .slice a N.length cap] 24)).alloc (.cells #[.int .i64 0, .slice none 0 0] 24)) := bel1 (al1 _) _
  have ci := rnb_any t a cap N (i : Int) _ (hN.keep b1) hsm (some k) hnx (k : Int) rfl
  have cu := fun (W : World) (hW : Ns W a cap N) => rup_yes t a cap N (i : Int) W hW (by have := hsm.1; omega) x (nd N x) false (nd_get hxl) hpa hb
  have cct := fun W (hb : Below w.heap.size w W) => copyown_any t a cap N W (hN.keep hb) hsm
  have K0 := Lib.hid (show KS w t a cap N ((w.alloc (.cells #[.int .i64 t, .slice a N.length cap] 24)).alloc (.cells #[.int .i64 0, .slice none 0 0] 24)) from ⟨(Bk.new w #[.int .i64 t, .slice a N.length cap] 24).past _, (by
    have h := Rq.new (w.alloc (.cells #[.int .i64 t, .slice a N.length cap] 24))
    simp only [World.size_alloc] at h; exact h), b1⟩)
  have hc1 := hN.1
  have hc2 := hN.2.1
  have hNl := hsm.1
  unfold maxLen at hc2
  have hi0 : (0 : Int) ≤ (i : Int) := by omega
  have hi1 : (i : Int) < (N.length : Int) := by omega
  have hk0 : (0 : Int) ≤ (k : Int) := by omega
  have hk1 : (k : Int) < (N.length : Int) := by omega
  have hkn : ¬ (k : Int) < 0 := by omega
  have hkd : decide ((k : Int) < 0) = false := decide_eq_false hkn
  have hx0 : (0 : Int) ≤ (x : Int) := by omega
  have hx1 : (x : Int) < (N.length : Int) := by omega
  have HN := Lib.hid hN
  obtain ⟨b, of, pax, pcx, rfl, hnX⟩ := hN.2.2 x _ (nd_get hxl)
  obtain ⟨b', of', pai, pci, e', hni⟩ := hN.2.2 i _ (nd_get hil)
  cases e'
  obtain ⟨b', of', pak, pck, e', hnk⟩ := hN.2.2 k _ (nd_get hkl)
  cases e'
  have c2 := hnX.c2
  have c3 := hnX.c3
  have HE := Lib.hid (And.intro (show w.cell? ⟨b, of + x * 6 + 3, none⟩ = some (.int .i64 (o : Int)) from by rw [← ho]; exact hnX.c3) (And.intro hnX.c3 (And.intro hni.c4 hnk.c4)))
  have HPI := Lib.hid hni.ps
  have HPK := Lib.hid hnk.ps
  have HPL := Lib.hid (And.intro (hsm.at (nd_get hil)) (hsm.at (nd_get hkl)))
  have HK := Lib.hid (And.intro hCp (And.intro hF (And.intro hF2 (And.intro hLay hsP))))
  have HLF := Lib.hid hlf
  clear hlf
  have HNE := Lib.hid (And.intro hkl (And.intro hkx hki))
  obtain ⟨pi, hpi'⟩ : ∃ q, (nd N i).p = q := ⟨_, rfl⟩
  obtain ⟨pk, hpk'⟩ : ∃ q, (nd N k).p = q := ⟨_, rfl⟩
  have HPP := Lib.hid (And.intro hpi' hpk')
  rw [hpi', hpk'] at HE HPL
  rw [hpi'] at HPI
  rw [hpk'] at HPK
  unfold CpU at cct
  unfold trv at ci cu cct ⊢
  clear b1 hN h hsm hnX hni hnk c2 c3 hsP hCp hF hF2 hLay hpa hkx hki ho hb hpi' hpk' hnx hkn
  go_enter Try.func13, Try.ntmps13
  go_upto_region 4 with (go_at_call 17; ((with_reducible refine ci.mono ?_); clear ci; rintro e w3 ⟨rfl, hb3⟩; have K3 := Lib.hid (K0.out.keep hb3); clear hb3; have k0 := K3.out.g.at_ 0 _ rfl; have k1 := K3.out.g.at_ 1 _ rfl))
  go_upto_region 5 with (go_at_call 33; ((with_reducible refine (cct _ K3.out.b).mono ?_); clear cct k0 k1; rintro e w4 ⟨ao, c4, M, rfl, hM, hR, hO, hb4⟩; have C4 := Lib.hid (And.intro hM (And.intro hR (And.intro hO hb4))); clear hM hR hO hb4))
  have U4 := Lib.hid (Tq.new w4 t ao N.length c4)
  have K4 := Lib.hid ((K3.out.keep C4.out.2.2.2).keep (al1 (.cells #[.int .i64 t, .slice ao N.length c4] 24)))
  have HQ := Lib.hid (show w.heap.size + 1 < w3.heap.size ∧ w3.heap.size ≤ w4.heap.size from ⟨K3.out.r.lt, C4.out.2.2.2.size⟩)
  have B4 := Lib.hid (al1 (w := w4) (.cells #[.int .i64 t, .slice ao N.length c4] 24))
  generalize (World.alloc w4 _ : World) = W4 at *
  have k0 := K4.out.g.at_ 0 _ rfl
  have k1 := K4.out.g.at_ 1 _ rfl
  go_upto_region 6 with (go_at_call 39; ((with_reducible refine (cu _ (HN.out.keep K4.out.b)).mono ?_); clear cu k0 k1; rintro e w5 ⟨rfl, hb5⟩; have K5 := Lib.hid (K4.out.keep hb5); have U5 := Lib.hid (U4.out.keep hb5); have B5 := Lib.hid (bel2 B4.out hb5); clear hb5))
  have k0 := K5.out.g.at_ 0 _ rfl
  have k1 := K5.out.g.at_ 1 _ rfl
  have e2 := kc K5.out.b HE.out.1
  have e3 := kc K5.out.b HE.out.2.1
  go_upto_region 10 with (fail)
  have B6 := Lib.hid (B5.out.drew)
  have K6 := Lib.hid (K5.out.keep (Below.refl _ w5).drew)
  have U6 := Lib.hid (U5.out.keep (Below.refl _ w5).drew)
  have R6 := Lib.hid (C4.out.2.1.keep B6.out)
  have HO6 := Lib.hid (show OwnP w5.drew w3.heap.size (.slice ao N.length c4) M from fun j m hm => (C4.out.2.2.1 j m hm).below B6.out)
  have HO4 := Lib.hid (C4.out.2.2.1)
  have HUL := Lib.hid (show w4.heap.size < w5.drew.heap.size from U6.out.lt)
  have H46 := Lib.hid (show w4.heap.size ≤ w5.drew.heap.size from B6.out.size)
  obtain ⟨mk, hmk, hmn⟩ : ∃ m, M[k]? = some m ∧ m.n = nd N k := by
    have h : (M.map (fun m => m.n))[k]? = some (nd N k) := by rw [C4.out.1]; exact nd_get HNE.out.1
    rw [List.getElem?_map] at h
    exact Option.map_eq_some_iff.1 h
  obtain ⟨g, rfl, -, hna, hfz⟩ := R6.out.at hmk
  have HG4 := Lib.hid (show g < w4.heap.size ∧ ¬ g < w3.heap.size from ⟨(C4.out.2.1.row.lt g rfl).2, R6.out.own g rfl⟩)
  have HMK := Lib.hid (And.intro hmk (show mk.n = ⟨false, 0, 0, 0, pk, mk.n.s⟩ from by
    have hl := HLF.out
    rw [← hmn] at hl
    exact Nd.ext' hl.1 hl.2.1 hl.2.2.1 hl.2.2.2 (by rw [hmn]; exact HPP.out.2) rfl))
  have HX4 := Lib.hid (show w5.drew.cell? ⟨g, k * 6 + 4, none⟩ = some (.slice mk.a pk.length mk.c) from by have h := hna.c4; rw [show mk.n.p = pk from by rw [HMK.out.2]] at h; exact h)
  have HFZ := Lib.hid hfz
  have HMO := Lib.hid (show PRow w5.drew (fun j => j < w3.heap.size ∨ (Value.slice (some ⟨g, 0, none⟩) N.length c4).ownBlock = some j ∨ ∃ (j' : Nat) (mj : RN), j' ≠ k ∧ M[j']? = some mj ∧ (Value.slice mj.a mj.n.p.length mj.c).ownBlock = some j) (.slice mk.a pk.length mk.c) pk from by
    have h := HO6.out k mk hmk
    rw [show mk.n.p = pk from by rw [HMK.out.2]] at h
    exact h)
  have HML := Lib.hid (show M.length = N.length from by have := congrArg List.length C4.out.1; simpa using this)
  obtain ⟨_, _, ez, hcp1, hcp2⟩ := C4.out.2.1.form
  injection ez with ez1 ez2 ez3
  subst ez3
  rw [HML.out] at hcp1
  unfold maxLen at hcp2
  clear ez1 ez2 hmk hmn hna hfz e2 e3
  have HOL := Lib.hid (show ∀ k', (Value.slice mk.a pk.length mk.c).ownBlock = some k' → k' < w4.heap.size from fun k' hk' => by
    have h := (HO4.out k mk HMK.out.1).row
    rw [show mk.n.p = pk from by rw [HMK.out.2]] at h
    exact (h.lt k' hk').2)
  refine wp_region_held_drew (S := (fun W => W.cell? ⟨w4.heap.size, 1, none⟩ = some (.slice (some ⟨g, 0, none⟩) N.length c4) ∧ W.cell? ⟨w.heap.size, 1, none⟩ = some (.slice (some ⟨b, of, none⟩) N.length cap) ∧ W.cell? ⟨b, of + i * 6 + 4, none⟩ = some (.slice pai pi.length pci) ∧ W.cell? ⟨b, of + k * 6 + 4, none⟩ = some (.slice pak pk.length pck) ∧ KS w t (some ⟨b, of, none⟩) cap N W)) (by kernel_rfl) (by exact ⟨U6.out.c1, K6.out.g.at_ 1 _ rfl, kc K6.out.b HE.out.2.2.1, kc K6.out.b HE.out.2.2.2, K6.out⟩) (fun hHeld => ?_)
  generalize (World.drew w5 : World) = W5 at *
  refine wpAnyH_take (i := 0) (v := ?_) rfl (by kernel_rfl) (by kernel_rfl) (by kernel_rfl) (fun _ _ _ h => h) (Or.inl ⟨by rfl, ?_⟩) hHeld ?_
  rotate_left
  · (intro wS hSw; (try dsimp only at hSw); (try go_split_ands); go_simp; try with_reducible rfl)
  try simp only [List.getElem_toArray, List.getElem_cons_succ, List.getElem_cons_zero, Act.put, List.setIfInBounds_toArray, List.set_cons_zero, List.set_cons_succ]
  refine wpAnyH_take (i := 1) (v := ?_) rfl (by kernel_rfl) (by kernel_rfl) (by kernel_rfl) (fun _ _ _ h => h) (Or.inl ⟨by rfl, ?_⟩) hHeld ?_
  rotate_left
  · (intro wS hSw; (try dsimp only at hSw); (try go_split_ands); go_simp; try with_reducible rfl)
  try simp only [List.getElem_toArray, List.getElem_cons_succ, List.getElem_cons_zero, Act.put, List.setIfInBounds_toArray, List.set_cons_zero, List.set_cons_succ]
  refine wpAnyH_take (i := 2) (v := ?_) rfl (by kernel_rfl) (by kernel_rfl) (by kernel_rfl) (fun _ _ _ h => h) (Or.inl ⟨by rfl, ?_⟩) hHeld ?_
  rotate_left
  · (intro wS hSw; (try dsimp only at hSw); (try go_split_ands); go_simp; try with_reducible rfl)
  try simp only [List.getElem_toArray, List.getElem_cons_succ, List.getElem_cons_zero, Act.put, List.setIfInBounds_toArray, List.set_cons_zero, List.set_cons_succ]
  refine wpAnyH_take (i := 3) (v := ?_) rfl (by kernel_rfl) (by kernel_rfl) (by kernel_rfl) (fun _ _ _ h => h) (Or.inl ⟨by rfl, ?_⟩) hHeld ?_
  rotate_left
  · (intro wS hSw; (try dsimp only at hSw); (try go_split_ands); go_simp; try with_reducible rfl)
  try simp only [List.getElem_toArray, List.getElem_cons_succ, List.getElem_cons_zero, Act.put, List.setIfInBounds_toArray, List.set_cons_zero, List.set_cons_succ]
  refine wpAnyH_take (i := 4) (v := ?_) rfl (by kernel_rfl) (by kernel_rfl) (by kernel_rfl) (fun _ _ _ h => h) (Or.inl ⟨by rfl, ?_⟩) hHeld ?_
  rotate_left
  · (intro wS hSw; (try dsimp only at hSw); (try go_split_ands); go_simp; try with_reducible rfl)
  try simp only [List.getElem_toArray, List.getElem_cons_succ, List.getElem_cons_zero, Act.put, List.setIfInBounds_toArray, List.set_cons_zero, List.set_cons_succ]
  refine wpAnyH_take (i := 5) (v := ?_) rfl (by kernel_rfl) (by kernel_rfl) (by kernel_rfl) (fun _ _ _ h => h) (Or.inl ⟨by rfl, ?_⟩) hHeld ?_
  rotate_left
  · (intro wS hSw; (try dsimp only at hSw); (try go_split_ands); go_simp; try with_reducible rfl)
  try simp only [List.getElem_toArray, List.getElem_cons_succ, List.getElem_cons_zero, Act.put, List.setIfInBounds_toArray, List.set_cons_zero, List.set_cons_succ]
  refine wpAnyH_take (i := 6) (v := ?_) rfl (by kernel_rfl) (by kernel_rfl) (by kernel_rfl) (fun _ _ _ h => h) (Or.inl ⟨by rfl, ?_⟩) hHeld ?_
  rotate_left
  · (intro wS hSw; (try dsimp only at hSw); (try go_split_ands); go_simp; try with_reducible rfl)
  try simp only [List.getElem_toArray, List.getElem_cons_succ, List.getElem_cons_zero, Act.put, List.setIfInBounds_toArray, List.set_cons_zero, List.set_cons_succ]
  refine wpAnyH_take (i := 7) (v := ?_) rfl (by kernel_rfl) (by kernel_rfl) (by kernel_rfl) (fun _ _ _ h => h) (Or.inl ⟨by rfl, ?_⟩) hHeld ?_
  rotate_left
  · (intro wS hSw; (try dsimp only at hSw); (try go_split_ands); go_simp; try with_reducible rfl)
  try simp only [List.getElem_toArray, List.getElem_cons_succ, List.getElem_cons_zero, Act.put, List.setIfInBounds_toArray, List.set_cons_zero, List.set_cons_succ]
  refine wpAnyH_take (i := 8) (v := ?_) rfl (by kernel_rfl) (by kernel_rfl) (by kernel_rfl) (fun _ _ _ h => h) (Or.inl ⟨by rfl, ?_⟩) hHeld ?_
  rotate_left
  · (intro wS hSw; (try dsimp only at hSw); (try go_split_ands); go_simp; try with_reducible rfl)
  try simp only [List.getElem_toArray, List.getElem_cons_succ, List.getElem_cons_zero, Act.put, List.setIfInBounds_toArray, List.set_cons_zero, List.set_cons_succ]
  refine wpAnyH_take (i := 10) (v := ?_) rfl (by kernel_rfl) (by kernel_rfl) (by kernel_rfl) (fun _ _ _ h => h) (Or.inl ⟨by rfl, ?_⟩) hHeld ?_
  rotate_left
  · (intro wS hSw; (try dsimp only at hSw); (try go_split_ands); go_simp; try with_reducible rfl)
  try simp only [List.getElem_toArray, List.getElem_cons_succ, List.getElem_cons_zero, Act.put, List.setIfInBounds_toArray, List.set_cons_zero, List.set_cons_succ]
  refine wpAnyH_take (i := 11) (v := ?_) rfl (by kernel_rfl) (by kernel_rfl) (by kernel_rfl) (fun _ _ _ h => h) (Or.inl ⟨by rfl, ?_⟩) hHeld ?_
  rotate_left
  · (intro wS hSw; (try dsimp only at hSw); (try go_split_ands); go_simp; try with_reducible rfl)
  try simp only [List.getElem_toArray, List.getElem_cons_succ, List.getElem_cons_zero, Act.put, List.setIfInBounds_toArray, List.set_cons_zero, List.set_cons_succ]
  refine wpAnyH_take (i := 12) (v := ?_) rfl (by kernel_rfl) (by kernel_rfl) (by kernel_rfl) (fun _ _ _ h => h) (Or.inl ⟨by rfl, ?_⟩) hHeld ?_
  rotate_left
  · (intro wS hSw; (try dsimp only at hSw); (try go_split_ands); go_simp; try with_reducible rfl)
  try simp only [List.getElem_toArray, List.getElem_cons_succ, List.getElem_cons_zero, Act.put, List.setIfInBounds_toArray, List.set_cons_zero, List.set_cons_succ]
  refine wpAnyH_take (i := 13) (v := ?_) rfl (by kernel_rfl) (by kernel_rfl) (by kernel_rfl) (fun _ _ _ h => h) (Or.inl ⟨by rfl, ?_⟩) hHeld ?_
  rotate_left
  · (intro wS hSw; (try dsimp only at hSw); (try go_split_ands); go_simp; try with_reducible rfl)
  try simp only [List.getElem_toArray, List.getElem_cons_succ, List.getElem_cons_zero, Act.put, List.setIfInBounds_toArray, List.set_cons_zero, List.set_cons_succ]
  refine wpAnyH_take (i := 14) (v := ?_) rfl (by kernel_rfl) (by kernel_rfl) (by kernel_rfl) (fun _ _ _ h => h) (Or.inl ⟨by rfl, ?_⟩) hHeld ?_
  rotate_left
  · (intro wS hSw; (try dsimp only at hSw); (try go_split_ands); go_simp; try with_reducible rfl)
  try simp only [List.getElem_toArray, List.getElem_cons_succ, List.getElem_cons_zero, Act.put, List.setIfInBounds_toArray, List.set_cons_zero, List.set_cons_succ]
  refine wpAnyH_take (i := 15) (v := ?_) rfl (by kernel_rfl) (by kernel_rfl) (by kernel_rfl) (fun _ _ _ h => h) (Or.inl ⟨by rfl, ?_⟩) hHeld ?_
  rotate_left
  · (intro wS hSw; (try dsimp only at hSw); (try go_split_ands); go_simp; try with_reducible rfl)
  try simp only [List.getElem_toArray, List.getElem_cons_succ, List.getElem_cons_zero, Act.put, List.setIfInBounds_toArray, List.set_cons_zero, List.set_cons_succ]
  refine wpAnyH_ready (rs := [9]) (by kernel_rfl) (by simp) ?_
  refine AllReadyH.cons rfl (fun K hK => ?_) AllReadyH.nil
  refine step_app rfl (.const (.slice none 0 0)) (.tmp 66) rfl (fun j => j < W5.heap.size) (.slice none 0 0) [] pi rfl (PRow.nil _ _) (fun k hk => hk) _ rfl (src_any (HPI.out.below K6.out.b)) (by have := HPL.out; (try simp only [List.length_nil]); omega) (pi.length) (by simp) (pi) rfl ?_
  intro a5 c5 w5 hm5x hc5x hR5 hO5
  have OA := Lib.hid (hO5.mono (T := fun j => W5.heap.size ≤ j) (fun j hj _ => Nat.le_of_not_lt hj))
  have RA := Lib.hid hR5
  have HZ := Lib.hid (show (∀ j, W5.heap.size ≤ j → w.heap.size + 1 < j) ∧ ¬ (W5.heap.size ≤ w4.heap.size) ∧ ¬ (W5.heap.size ≤ g) from ⟨fun j hj => by have := HQ.out; have := H46.out; omega, by have := HUL.out; omega, by have := HG4.out; have := H46.out; omega⟩)
  have KA := Lib.hid (K6.out.own OA.out HZ.out.1)
  have UA := Lib.hid (U6.out.only OA.out HZ.out.2.1)
  clear hR5 hO5 hm5x hc5x
  refine hK.out _ _ ?_ (fun hNext => ?_)
  · exact ⟨UA.out.c1, KA.out.g.at_ 1 _ rfl, kc KA.out.b HE.out.2.2.1, kc KA.out.b HE.out.2.2.2, KA.out⟩
  clear hK K hHeld
  have hHeld := hNext
  clear hNext
  try simp only [List.getElem_toArray, List.getElem_cons_succ, List.getElem_cons_zero, Act.put, List.setIfInBounds_toArray, List.set_cons_zero, List.set_cons_succ]
  refine wpAnyH_ready (rs := [16]) (by kernel_rfl) (by simp) ?_
  refine AllReadyH.cons rfl (fun K hK => ?_) AllReadyH.nil
  refine step_app rfl (.tmp 67) (.tmp 73) rfl (fun j => j < W5.heap.size) (.slice a5 pi.length c5) pi pk rfl RA.out (fun k hk => Nat.lt_of_lt_of_le hk OA.out.size) _ rfl (src_any (HPK.out.below KA.out.b)) (by have := HPL.out; (try simp only [List.length_nil]); omega) (pi.length + pk.length) (by simp) (pi ++ pk) rfl ?_
  intro a6 c6 w6 hm6x hc6x hR6 hO6
  have OZ := Lib.hid (OA.out.trans (hO6.mono (T := fun j => W5.heap.size ≤ j) (fun j hj _ => Nat.le_of_not_lt hj)) (fun j hj _ => hj))
  have RZ := Lib.hid (hR6.prs (by simp))
  have HSEP := Lib.hid (show ∀ b o sp, a6 = some ⟨b, o, sp⟩ → ¬ b < w3.heap.size ∧ g ≠ b from fun b o sp e => by
    have h2 : ¬ b < W5.heap.size := hR6.av b (by rw [e]; rfl)
    have h3 := HG4.out; have h4 := H46.out; have h5 := HQ.out; exact ⟨by omega, by omega⟩)
  have HOTH := Lib.hid (show ∀ (i' : Nat) (z : RN), i' ≠ k → M[i']? = some z → z.n.p ≠ [] → ∀ b o sp, z.a = some ⟨b, o, sp⟩ → ¬ (W5.heap.size ≤ b) from fun i' z hi hz hp b o sp e hh => by
    have h2 := (HO6.out i' z hz).row.lt b (by rw [e]; rfl)
    omega)
  have K7 := Lib.hid (K6.out.own OZ.out HZ.out.1)
  have U7 := Lib.hid (U6.out.only OZ.out HZ.out.2.1)
  clear hR6 hO6 hm6x hc6x
  refine hK.out _ _ ?_ (fun hNext => ?_)
  · exact ⟨U7.out.c1, K7.out.g.at_ 1 _ rfl, kc K7.out.b HE.out.2.2.1, kc K7.out.b HE.out.2.2.2, K7.out⟩
  clear hK K hHeld
  have hHeld := hNext
  clear hNext
  try simp only [List.getElem_toArray, List.getElem_cons_succ, List.getElem_cons_zero, Act.put, List.setIfInBounds_toArray, List.set_cons_zero, List.set_cons_succ]
  refine wpAnyH_take (i := 17) (v := ?_) rfl (by kernel_rfl) (by kernel_rfl) (by kernel_rfl) (fun _ _ _ h => h) (Or.inl ⟨by rfl, ?_⟩) hHeld ?_
  rotate_left
  · (intro wS hSw; (try dsimp only at hSw); (try go_split_ands); go_simp; try with_reducible rfl)
  try simp only [List.getElem_toArray, List.getElem_cons_succ, List.getElem_cons_zero, Act.put, List.setIfInBounds_toArray, List.set_cons_zero, List.set_cons_succ]
  refine wpAnyH_take (i := 18) (v := ?_) rfl (by kernel_rfl) (by kernel_rfl) (by kernel_rfl) (fun _ _ _ h => h) (Or.inl ⟨by rfl, ?_⟩) hHeld ?_
  rotate_left
  · (intro wS hSw; (try dsimp only at hSw); (try go_split_ands); go_simp; try with_reducible rfl)
  try simp only [List.getElem_toArray, List.getElem_cons_succ, List.getElem_cons_zero, Act.put, List.setIfInBounds_toArray, List.set_cons_zero, List.set_cons_succ]
  refine wpAnyH_ready (rs := [19]) (by kernel_rfl) (by simp) ?_
  refine AllReadyH.cons rfl (fun K hK => ?_) AllReadyH.nil
  have x4 := OZ.out.cell HX4.out HZ.out.2.2
  have f4 : w6.frozen? ⟨g, k * 6 + 4, none⟩ = false := (World.frozen?_of_block (w := W5) (a := ⟨g, k * 6 + 4, none⟩) (OZ.out.block g (by have := HG4.out; have := H46.out; omega) HZ.out.2.2)).trans (HFZ.out _)
  go_simp
  have O8 := Lib.hid ((Only.refl (fun j => j = g) w6).setCell (S := fun j => j = g) (p := ⟨g, k * 6 + 4, none⟩) (.inl rfl) (.slice a6 (pi.length + pk.length) c6))
  have HGW := Lib.hid (show (∀ j, j = g → w.heap.size + 1 < j) ∧ ¬ (w4.heap.size = g) from ⟨fun j hj => by have h1 := HG4.out; have h2 := HQ.out; omega, by have := HG4.out; omega⟩)
  have K8 := Lib.hid (K7.out.own O8.out HGW.out.1)
  have U8 := Lib.hid (U7.out.only O8.out HGW.out.2)
  refine hK.out _ _ ?_ (fun hNext => ?_)
  · exact ⟨U8.out.c1, K8.out.g.at_ 1 _ rfl, kc K8.out.b HE.out.2.2.1, kc K8.out.b HE.out.2.2.2, K8.out⟩
  clear hK K hHeld
  have hHeld := hNext
  clear hNext
  try simp only [List.getElem_toArray, List.getElem_cons_succ, List.getElem_cons_zero, Act.put, List.setIfInBounds_toArray, List.set_cons_zero, List.set_cons_succ]
  refine wpAnyH_done (by kernel_rfl) ?_ _
  clear hHeld x4 f4
  have R8 := Lib.hid (R6.out.swap OZ.out HZ.out.2.2 HMK.out.1 HOTH.out ⟨⟨false, 0, 0, 0, pi ++ pk, mk.n.s⟩, a6, c6⟩ 4 (.slice a6 (pi.length + pk.length) c6) (by decide) (by have e0 : mk.n.r = false := congrArg Nd.r HMK.out.2; have e1 : mk.n.k = 0 := congrArg Nd.k HMK.out.2; have e2 : mk.n.a = 0 := congrArg Nd.a HMK.out.2; have e3 : mk.n.b = 0 := congrArg Nd.b HMK.out.2; simp [cellN, e0, e1, e2, e3]) RZ.out (fun _ b o sp e => HSEP.out b o sp e))
  generalize (World.setCell w6 _ _ : World) = W8 at *
  have hkM : k < M.length := by have := HML.out; have := HNE.out.1; omega
  have HST := Lib.hid (show (M.set k ⟨⟨false, 0, 0, 0, pi ++ pk, mk.n.s⟩, a6, c6⟩)[k]? = some ⟨⟨false, 0, 0, 0, pi ++ pk, mk.n.s⟩, a6, c6⟩ from List.getElem?_set_self hkM)
  clear hkM
  obtain ⟨_, e', -, hna8, hfz8⟩ := R8.out.at HST.out
  cases e'
  have x5 := hna8.c5
  have f5 := hfz8 (k * 6 + 5)
  have u1 := U8.out.c1
  have HPR := Lib.hid (R8.out.prs _ (List.mem_of_getElem? HST.out))
  clear hna8 hfz8
  go_upto_region 12 with (fail)
  have R9 := Lib.hid (R8.out.cell HST.out ⟨⟨false, 0, 0, 0, pi ++ pk, 0⟩, a6, c6⟩ 5 (.int .i64 0) (by decide) (by simp [cellN]) HPR.out.1 (fun hp b o sp e => ⟨(HPR.out.2 hp b o sp e).1, fun e' => (HPR.out.2 hp b o sp e).2 (by rw [← e']; rfl)⟩))
  have O9 := Lib.hid ((Only.refl (fun j => j = g) W8).setCell (S := fun j => j = g) (p := ⟨g, k * 6 + 5, none⟩) (.inl rfl) (.int .i64 0))
  have K9 := Lib.hid (K8.out.own O9.out HGW.out.1)
  have U9 := Lib.hid (U8.out.only O9.out HGW.out.2)
  clear x5 f5 u1
  generalize (World.setCell W8 _ _ : World) = W9 at *
  have hNs := R9.out.ns.2
  rw [show ((M.set k ⟨⟨false, 0, 0, 0, pi ++ pk, mk.n.s⟩, a6, c6⟩).set k ⟨⟨false, 0, 0, 0, pi ++ pk, 0⟩, a6, c6⟩).map (fun m => m.n) = N.set k (merged N i k false) from by rw [List.set_set, List.map_set, C4.out.1]; unfold merged; rw [HPP.out.1, HPP.out.2]; rfl] at hNs
  have ciq := ci_any (t0 := t) hNs HK.out.2.2.2.2 (x : Int) (o : Int) F W9 (fun j => j < W9.heap.size) none 0 0 [] t rfl HK.out.1 (by have h1 := HK.out.2.1; have h2 := HK.out.2.2.1; omega) (Below.refl _ _) (NRow.nil _ _) (fun k hk => hk) (fun k hk => hk)
  unfold CiIs trv at ciq
  rw [HK.out.2.1] at ciq
  simp only [List.length_set, Nat.zero_add, List.map_nil, List.nil_append] at ciq
  have u0 := U9.out.c0
  have u1 := U9.out.c1
  clear hNs
  go_upto_region 13 with (go_at_call 40; ((with_reducible refine ciq.mono ?_); clear ciq u0 u1; rintro e w10 ⟨a10, c10, M10, rfl, hM10, hL10, hR10, hO10, hk10⟩; have R10 := Lib.hid (And.intro hM10 hR10); have K10 := Lib.hid (K9.out.own hO10 (fun k hk => by simp [Value.ownBlock] at hk)); clear hM10 hL10 hR10 hO10 hk10))
  have r0 := K10.out.r.c0
  have r1 := K10.out.r.c1
  have f0 := K10.out.r.fr 0
  have f1 := K10.out.r.fr 1
  go_wp2_with (fail)
  have FNS : Ns w10 a10 c10 P := by
    have h := R10.out.2.ns.2
    rw [R10.out.1, HK.out.2.2.2.1] at h
    exact h
  exact bodyPost_ret (v := .tuple #[.agg #[.int .i64 0, .slice a10 P.length c10], .bool true]) (by simp [results, Try.results13, go_sem, r0, r1]) rfl ⟨a10, c10, rfl, ns_ret K10.out.r FNS _ _, ret_below K10.out.b (by omega) _ _⟩
end Go.Proofs.Yteebceecohhegaa
